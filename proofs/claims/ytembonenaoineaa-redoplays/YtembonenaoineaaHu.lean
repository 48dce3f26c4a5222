/- What entries, Ints, Open and put of the reference do: contracts. Conditions: the Drum, the Log and the bytes lie in memory. -/
import Derived.Test.YtembonenaoineaaLg
import Derived.Test.YtembonenaoineaaGh
import Derived.BigQuiet
import Derived.Deep.QuietTactic
import Derived.Test.YtembonenaoineaaLr
import Derived.Test.YtembonenaoineaaLq
import Derived.Deep.RegionLaw
import Derived.Test.YtembonenaoineaaHt
import Derived.Test.YtembonenaoineaaGv
import Derived.Test.YtembonenaoineaaRi
import Derived.Test.YtembonenaoineaaGx
import Derived.StillTailTactics
namespace Go.Proofs.Ytembonenaoineaa
set_option maxRecDepth 100000
set_option linter.unusedVariables false
section
open Go.ChangeShapes Go.WideShapes Go.ChangeAt Go.RowKit
open Lb (encI encIs encS In64 encI_len nxtI resI nxtS resS)
set_option maxHeartbeats 2000000 in
theorem rentries_any {w : World} (A : Option Addr) (b : List UInt8) (c : Nat) (hb : BS w A b c) (hl : b.length ≤ 10000) :
    Calls Try.prog 41 #[.slice A b.length c] w (Splits b w) := by
  obtain ⟨g, hcur, hg⟩ := cur_arg 101 hb (Below.refl w.heap.size w) (show b.length ≤ 1000000 by omega)
  have HC1 := Lib.hid hcur
  have HB1 := Lib.hid ((Below.refl w.heap.size w).alloc (Nat.le_refl _) (.cells #[.slice A b.length c, .bool false] 101))
  have HG : Hid (∀ k, g = some k → k < w.heap.size + 1) := fun k e => by have := hg k e; omega
  have Hcv := Lib.hid (fun (W : World) (s : ByteArray) => Lib.run_convert_string_bytes (P := Try.prog) W 9 36 5 s Try.underlying9 Try.underlying36 Try.underlying5)
  clear hb hcur hg
  go_enter Try.func41, Try.ntmps41
  go_wp2
  go_loopw [5] (fun v wr => ∃ (st : Option (List UInt8)) (acc : List (List UInt8)), Hid (SpI b st acc) ∧ Hid (Cur wr w.heap.size g st) ∧ Hid (Rs (fun k => w.heap.size + 1 ≤ k) (w.heap.size + 1) wr v acc) ∧ Hid (Below w.heap.size w wr) ∧ w.heap.size + 1 ≤ wr.heap.size) (fun v _ => b.length - lenV v)
  case atStart => exact ⟨some b, [], SpI.start b, HC1.out, Rs.nil _ _ _, HB1.out, by simp⟩
  case round =>
    clear HC1
    obtain ⟨st, acc, HS, HC, HR, HB, hzr⟩ := hrel
    cases st with
    | none =>
      have HN := Lib.hid HS.out.no
      obtain ⟨_, _, _, _, k1, k2⟩ := HC.out
      go_wp2_with fail
      go_quiet (fail)
      have HBq := Lib.hid (below_drewN HB.out nq)
      go_wp2
      go_ret2
      refine ⟨_, by rw [HN.out]; rfl, HBq.out, fun es h => by rw [HN.out] at h; cases h⟩
    | some r =>
      obtain ⟨_, _, _, _, A2, c2, k1, k2, k3, k4, k5⟩ := HC.out
      clear k3 k4 k5
      by_cases hr : r = []
      · subst hr
        have HN := Lib.hid HS.out.done
        go_wp2_with fail
        go_quiet (fail)
        have HBq := Lib.hid (below_drewN HB.out nq)
        have HRq := Lib.hid (HR.out.below (below_drewN (Below.refl _ _) nq))
        go_wp2
        go_ret2
        refine ⟨_, by rw [HN.out]; rfl, HBq.out, fun es h => ?_⟩
        rw [HN.out] at h
        injection h with h
        subst h
        exact HRq.out.mono (by omega) (fun k hk => by omega)
      · have HS2 := Lib.hid (HS.out.next hr)
        have hlen : acc.length + 1 ≤ b.length := by have := HS2.out.few; simpa using this
        have HLV := Lib.hid HR.out.len
        have hrl := List.length_pos_iff.2 hr
        clear hr
        go_wp2_with fail
        refine (rcstr_any w.heap.size g (some r) _ HC.out).mono ?_
        rintro e w2 ⟨rfl, hc2, hg2⟩
        have hz2 := hg2.size
        have HR2 := Lib.hid (HR.out.chg (F := fun k => k = w.heap.size) ((Chg.refl _ _).grown hg2 (fun k e => by injection e with e; exact .inl e.symm)) (fun k hk e => by have := HR.out.lt hk; omega) (fun k hk e => by omega))
        have HB2 := Lib.hid (below_grown HB.out hg2 (Nat.le_refl _) (by omega))
        generalize resS (some r) = p at *
        have hcv := Hcv.out w2 (bstr p)
        have hb3 := bytes_below w2 (bstr p)
        have hbs3 := bytes_bs w2 (bstr p)
        have hpl : (bstr p).data.toList = p := rfl
        rw [hpl] at hbs3
        have hz3 := hb3.size
        have HBS3 := Lib.hid hbs3
        have HR3 := Lib.hid (HR2.out.below hb3)
        have HB3 := Lib.hid (HB2.out.trans (hb3.mono HB2.out.size))
        have HC3 := Lib.hid (Cur.below hc2 hb3)
        have HNE : Hid (∀ bd, some (⟨w2.heap.size, 0, none⟩ : Addr) = some bd → p = [] ∨ (w.heap.size + 1 ≤ bd.block ∧ u5.ownBlock ≠ some bd.block)) := fun bd e => by
          injection e with e
          subst e
          exact .inr ⟨by simp only; omega, fun e => by have := HR2.out.lt e; simp only at this; omega⟩
        rw [bstr_size] at hcv HBS3
        generalize Lib.bytesWorld w2 5 (bstr p) = w3 at *
        generalize grownCap w2 p.length 0 5 = cp at *
        clear hc2 hg2 hb3 hbs3 hpl HC HR HB HR2 HB2 k1 k2
        go_wp2_with (at_builtin; refine wp_rs1 rfl _ _ rfl HR3.out rfl (some ⟨w2.heap.size, 0, none⟩) p cp rfl HBS3.out HNE.out (by omega) (by omega) ?_; intro v4 w4 hr4 hb4)
        have HR4 := Lib.hid hr4
        have HB4 := Lib.hid (HB3.out.trans (hb4.mono (by omega)))
        have HC4 := Lib.hid (HC3.out.belowB hb4 (by omega) HG.out)
        have HL4 := Lib.hid hr4.len
        have hz4 := hb4.size
        clear hr4 hb4 hcv
        go_wp2
        refine ⟨⟨nxtS (some r), acc ++ [p], HS2.out, HC4.out, HR4.out, HB4.out, by omega⟩, ?_⟩
        have e1 := HL4.out
        have e2 := HLV.out
        rw [List.length_append] at e1
        simp only [List.length_cons, List.length_nil] at e1
        omega
end
section
open Go.ChangeShapes Go.WideShapes Go.ChangeAt Go.RowKit
open Lb (encI encIs encS In64 encI_len encIs_snoc encIs_len)
set_option maxHeartbeats 1000000 in
theorem rints_any {w : World} (A : Option Addr) (l : List Int) (c : Nat) (h : Row (.int .i64) w A l) (hl : ∀ n ∈ l, In64 n) (hn : l.length ≤ 1000) :
    Calls Try.prog 77 #[.slice A l.length c] w (Gives w.heap.size (encIs l) w) := by
  have H := Lib.hid h
  have HL := Lib.hid hl
  clear h hl
  go_enter Try.func77, Try.ntmps77
  go_wp2
  go_loopw [3, 4] (fun v i wr => ∃ j : Nat, j ≤ l.length ∧ i = .int .i64 j ∧ Hid (Own w.heap.size wr v (encIs (l.take j))) ∧ Hid (Below w.heap.size w wr)) (fun _ i _ => l.length - (intOf i).toNat)
  case atStart => exact ⟨0, Nat.zero_le _, rfl, Own.nil _ _, Below.refl _ _⟩
  case round =>
    obtain ⟨j, hj, rfl, HO, HB⟩ := hrel
    have hzr := HB.out.size
    by_cases hlt : j < l.length
    · obtain ⟨ad, hA, hc⟩ := H.out.below HB.out j hlt
      subst hA
      obtain ⟨m0, m1⟩ := HL.out l[j] (List.getElem_mem hlt)
      have HE := Lib.hid (encIs_snoc l j hlt)
      have HF := Lib.hid (encIs_len (l.take j) (fun n hn => HL.out n (List.mem_of_mem_take hn)))
      have HLT : Hid ((l.take j).length ≤ j) := by simp only [Hid]; simp; omega
      generalize l[j] = m at *
      have hm10 := (encI_len m m0 m1).1
      have HM10 := Lib.hid hm10
      go_wp2_with fail
      refine (rint_any m m0 m1 _).mono ?_
      rintro e w2 ⟨v2, rfl, ho2, hb2⟩
      obtain ⟨A2, c2, rfl, hbs2, _⟩ := ho2.open
      have HBS2 := Lib.hid hbs2
      have HO2 := Lib.hid (HO.out.below hb2)
      have HB2 := Lib.hid (HB.out.trans (hb2.mono hzr))
      have hz2 := hb2.size
      clear ho2 hb2 hbs2
      go_wp2_with (at_builtin; refine wp_app rfl _ _ rfl w.heap.size _ (encIs (l.take j)) HO2.out rfl A2 (encI m) _ c2 rfl rfl HBS2.out (by have := HF.out; have := HLT.out; have := HM10.out; omega) (by omega) ?_; intro v3 w3 h3 hb3)
      have HO3 : Hid (Own w.heap.size w3 v3 (encIs (l.take (j + 1)))) := by simp only [Hid]; rw [HE.out]; exact h3
      have HB3 := Lib.hid (HB2.out.trans hb3)
      clear h3 hb3
      go_wp2
      refine ⟨⟨j + 1, by omega, by go_num, HO3.out, HB3.out⟩, by simp [intOf]; omega⟩
    · obtain rfl : j = l.length := by omega
      rw [List.take_length] at HO
      go_wp2
      go_ret
      exact ⟨_, rfl, HO.out, HB.out⟩
end
section
open Go.ChangeShapes Go.WideShapes Go.ChangeAt Go.RowKit
open Lb (encI encIs encS In64 encI_len nxtI resI nxtS resS)

theorem ropen_small {F : Nat → Prop} {w : World} {b : Nat} {s : DS} (h : RD F w b s) (h4 : s.now.length < 4) :
    Calls Try.prog 14 #[.pointer (some ⟨b, 0, none⟩)] w fun e w' => e = .returned (.tuple #[.pointer none, .slice none 0 0, .int .i64 1]) ∧ w = w' := by
  obtain ⟨ov, sv, wv, n, d, hm⟩ := h
  obtain ⟨A, c, hsv⟩ := own_slice hm.rs
  subst hsv
  have k1 := hm.cells.2.1
  have hd : (s.now.length : Int) < 4 := by omega
  clear hm
  go_enter Try.func14, Try.ntmps14
  go_wp2
  refine bodyPost_ret (v := .tuple #[.pointer none, .slice none 0 0, .int .i64 1]) (by simp [results, Try.results14, go_sem]) rfl ⟨rfl, rfl⟩
/-- What the reference's Open finds on a disk of four sectors and more. -/
def ROpened (s : DS) (b : Nat) (w : World) (e : Ending) (w' : World) : Prop :=
  Below w.heap.size w w' ∧ match ents (cont s.now (newest s.now)) with
    | none => e = .returned (.tuple #[.pointer none, .slice none 0 0, .int .i64 2])
    | some es => ∃ c v B cb, e = .returned (.tuple #[.pointer (some ⟨c, 0, none⟩), v, .int .i64 0]) ∧ RLM w' c b (newest s.now) B (cont s.now (newest s.now)) cb es.length false ∧ w.heap.size ≤ c ∧ BS w' B (cont s.now (newest s.now)) cb ∧
      (∀ ad, B = some ad → w.heap.size ≤ ad.block ∧ ad.block < c) ∧ Rs (fun k => w.heap.size ≤ k) w.heap.size w' v es
set_option maxHeartbeats 4000000 in
theorem rropen_any {F : Nat → Prop} {w : World} {b : Nat} {s : DS} (h : RD F w b s) (h4 : 4 ≤ s.now.length) :
    Calls Try.prog 14 #[.pointer (some ⟨b, 0, none⟩)] w (ROpened s b w) := by
  have HP := Lib.hid h
  have hok := h.ok
  have hbk := bk_few h.ok.few
  have hd4 : ¬ (s.now.length : Int) < 4 := by omega
  have hbp : 1 ≤ bk s.now := by unfold bk; omega
  have HR0 := Lib.hid (rhead_any h 0 (by omega) h4)
  have HNW : Hid (newest s.now = if (hdAt s.now 0).n < (hdAt s.now 1).n then hdAt s.now 1 else hdAt s.now 0) := rfl
  have HBD := Lib.hid (newest_bd s.now)
  have HO : Hid (∀ e w', (Below w.heap.size w w' ∧ match ents (cont s.now (newest s.now)) with
    | none => e = Ending.returned (.tuple #[.pointer none, .slice none 0 0, .int .i64 2])
    | some es => ∃ c v B cb, e = .returned (.tuple #[.pointer (some ⟨c, 0, none⟩), v, .int .i64 0]) ∧ RLM w' c b (newest s.now) B (cont s.now (newest s.now)) cb es.length false ∧ w.heap.size ≤ c ∧ BS w' B (cont s.now (newest s.now)) cb ∧
      (∀ ad, B = some ad → w.heap.size ≤ ad.block ∧ ad.block < c) ∧ Rs (fun k => w.heap.size ≤ k) w.heap.size w' v es) → ROpened s b w e w') := fun e w' hh => hh
  generalize ROpened s b w = post at *
  have hin := fst_bd h4 HBD.out.2.1
  have HCO := Lib.hid (bankL_cont hok.sec (h := newest s.now) (m := bk s.now) hin HBD.out.2.2)
  have HLEN : Hid (∀ j, j ≤ bk s.now → (bankL s.now (newest s.now).k j).length = j * 64) := fun j hj => bankL_len hok.sec (by omega)
  have HSN : Hid (∀ j, j < bk s.now → bankL s.now (newest s.now).k (j + 1) = bankL s.now (newest s.now).k j ++ s.now.getD (fst s.now (newest s.now).k + j) []) := fun j hj => bankL_snoc (by omega)
  obtain ⟨ov, sv, wv, nn, d, hm⟩ := h
  obtain ⟨A, c, hsv⟩ := own_slice hm.rs
  subst hsv
  have k1 := hm.cells.2.1
  clear hm hok
  go_enter Try.func14, Try.ntmps14
  go_wp2_with fail
  refine HR0.out.mono ?_
  rintro e w1 ⟨rfl, hb1⟩
  have hz1 := hb1.size
  have HP1 := Lib.hid (HP.out.below hb1)
  have HB1 := Lib.hid hb1
  clear hb1 HR0 k1
  go_wp2_with fail
  refine (rhead_any HP1.out 1 (by omega) h4).mono ?_
  rintro e w2 ⟨rfl, hb2⟩
  have hz2 := hb2.size
  have HB2 := Lib.hid (HB1.out.trans (hb2.mono hz1))
  have HP2 := Lib.hid (HP1.out.below hb2)
  clear hb2 HB1 HP1
  generalize hdAt s.now 0 = h0 at *
  generalize hdAt s.now 1 = h1 at *
  generalize newest s.now = nw at *
  unfold hV hdV
  have HA : Hid (∀ h' : Hd, ((w2.alloc (.cells #[.int .i64 (h'.n : Nat), .int .i64 (h'.k : Nat), .int .i64 (h'.z : Nat)] 51)).alloc (.cells #[.int .i64 (h1.n : Nat), .int .i64 (h1.k : Nat), .int .i64 (h1.z : Nat)] 51)).heap[w2.heap.size]? = some (.cells #[.int .i64 (h'.n : Nat), .int .i64 (h'.k : Nat), .int .i64 (h'.z : Nat)] 51 (0, 0)) ∧ Below w2.heap.size w2 ((w2.alloc (.cells #[.int .i64 (h'.n : Nat), .int .i64 (h'.k : Nat), .int .i64 (h'.z : Nat)] 51)).alloc (.cells #[.int .i64 (h1.n : Nat), .int .i64 (h1.k : Nat), .int .i64 (h1.z : Nat)] 51))) := fun h' => by
    have h1 := (Below.refl w2.heap.size w2).alloc (Nat.le_refl _) (.cells #[.int .i64 (h'.n : Nat), .int .i64 (h'.k : Nat), .int .i64 (h'.z : Nat)] 51)
    exact ⟨heap_al _ (heap_alloc_new w2 _), h1.alloc h1.size _⟩
  by_cases hlt : h0.n < h1.n
  focus
    have HR : Hid (nw = h1) := by simp only [Hid]; rw [HNW.out, if_pos hlt]
    have hd : decide (h0.n < h1.n) = true := by simpa using hlt
    have HA3 := Lib.hid (HA.out h1)
    go_wp2_with fail
    generalize (w2.alloc (.cells #[.int .i64 (h1.n : Nat), .int .i64 (h1.k : Nat), .int .i64 (h1.z : Nat)] 51)).alloc (.cells #[.int .i64 (h1.n : Nat), .int .i64 (h1.k : Nat), .int .i64 (h1.z : Nat)] 51) = W3 at *
    rw [← HR.out] at HA3
    clear hd HR hlt HA
  rotate_left
  focus
    have HR : Hid (nw = h0) := by simp only [Hid]; rw [HNW.out, if_neg hlt]
    have hd : decide (h0.n < h1.n) = false := by simpa using hlt
    have HA3 := Lib.hid (HA.out h0)
    go_wp2_with fail
    generalize (w2.alloc (.cells #[.int .i64 (h0.n : Nat), .int .i64 (h0.k : Nat), .int .i64 (h0.z : Nat)] 51)).alloc (.cells #[.int .i64 (h1.n : Nat), .int .i64 (h1.k : Nat), .int .i64 (h1.z : Nat)] 51) = W3 at *
    rw [← HR.out] at HA3
    clear hd HR hlt HA
  all_goals
    have HY3 := Lib.hid HA3.out.1
    have HB3 := Lib.hid HA3.out.2
    clear HNW HA3
    have HBw := Lib.hid (HB2.out.trans (HB3.out.mono HB2.out.size))
    have HP3 := Lib.hid (HP2.out.below HB3.out)
    have hlt3 := block_lt HY3.out
    have hz3 := HB3.out.size
    obtain ⟨n, k, z⟩ := nw
    simp only at HY3 HBD hin HCO HLEN HSN
    obtain ⟨hn, hk, hz⟩ := HBD.out
    have HCELL : Hid (∀ W, Below W3.heap.size W3 W → W.cell? ⟨w2.heap.size, 0, none⟩ = some (.int .i64 (n : Nat)) ∧ W.cell? ⟨w2.heap.size, 1, none⟩ = some (.int .i64 (k : Nat)) ∧ W.cell? ⟨w2.heap.size, 2, none⟩ = some (.int .i64 (z : Nat))) := fun W hW => by
      have := (hW.block w2.heap.size hlt3).trans HY3.out
      refine ⟨?_, ?_, ?_⟩ <;> (rw [cell_of_row W _ _ _ _ _ this]; rfl)
    have hfe : fst s.now k = 2 + k * bk s.now := rfl
    clear HP2 HB2 HP HB3 HBD
    go_loopw [7, 8] (fun v i wr => ∃ j : Nat, j ≤ bk s.now ∧ i = .int .i64 j ∧ Hid (Own W3.heap.size wr v (bankL s.now k j)) ∧ Hid (Below W3.heap.size W3 wr)) (fun _ i _ => bk s.now - (intOf i).toNat)
    case atStart => exact ⟨0, Nat.zero_le _, rfl, Own.nil _ _, Below.refl _ _⟩
    case round =>
      obtain ⟨j, hj, rfl, HOW, HB⟩ := hrel
      have hzr := HB.out.size
      have HPr := Lib.hid (HP3.out.below HB.out)
      have HSE := Lib.hid (sectors_any HPr.out h4)
      by_cases hlt : j < bk s.now
      · have hl1 := HLEN.out j hj
        have hl2 := HLEN.out (j + 1) hlt
        have hs64 : (s.now.getD (fst s.now k + j) []).length = 64 := by
          have e := congrArg List.length (HSN.out j hlt)
          rw [List.length_append] at e; omega
        have HS64 := Lib.hid hs64
        have HL1 : Hid ((bankL s.now k j).length ≤ 10000) := by simp only [Hid]; omega
        have HRR := Lib.hid (rread_any HPr.out.drew ((fst s.now k + j : Nat) : Int))
        rw [rd_at] at HRR
        have HSEd := Lib.hid (sectors_any HPr.out.drew h4)
        obtain ⟨q0, q1, q2⟩ := HCELL.out wr HB.out
        have hkb : (k : Int) * (bk s.now : Int) = ((k * bk s.now : Nat) : Int) := by simp
        have hkb2 : k * bk s.now ≤ 99 := by
          rcases (show k = 0 ∨ k = 1 by omega) with rfl | rfl <;> omega
        obtain ⟨m, hm⟩ : ∃ m, k * bk s.now = m := ⟨_, rfl⟩
        rw [hm] at hkb hkb2 hfe
        have hw1 : IntKind.i64.wrap ((k : Int) * (bk s.now : Int)) = (m : Int) := by rw [hkb]; exact IntWalk.i64_in _ (by omega)
        have hw2 : IntKind.i64.wrap ((2 : Int) + (m : Int)) = 2 + (m : Int) := IntWalk.i64_in _ (by omega)
        have hw3 : IntKind.i64.wrap ((2 : Int) + (m : Int) + (j : Int)) = 2 + (m : Int) + (j : Int) := IntWalk.i64_in _ (by omega)
        have HAD : Hid (((fst s.now k + j : Nat) : Int) = (2 : Int) + (m : Int) + (j : Int)) := by simp only [Hid]; rw [hfe]; omega
        rw [HAD.out] at HRR
        have HSJ := Lib.hid (HSN.out j hlt)
        obtain ⟨sec, hsec⟩ : ∃ sec, s.now.getD (fst s.now k + j) [] = sec := ⟨_, rfl⟩
        rw [hsec] at HRR HS64 HSJ
        rw [HS64.out] at HRR
        clear hsec
        clear hl1 hl2 hs64 hkb hm
        go_wp2_with fail
        refine HSE.out.mono ?_
        rintro e w' ⟨rfl, rfl⟩
        go_wp2_with fail
        go_region_law ((first
          | (refine st_of rfl (app_wp (.tmp 33) (.tmp 43) rfl W3.heap.size _ (bankL s.now k j) HO2.out rfl A2 sec 64 c2 rfl HS64.out.symm HBS2.out (by rw [HS64.out]; have := HL1.out; omega) (by omega) ?_); intro v3 w3 ho3 hb3; have HO3 : Hid (Own W3.heap.size w3 v3 (bankL s.now k (j + 1))) := (by simp only [Hid]; rw [HSJ.out]; exact ho3); have HB3 := Lib.hid (HB2.out.trans hb3); clear ho3 hb3)
          | (go_simp; go_at_call 39; (with_reducible refine HSEd.out.mono ?_); rintro e w' ⟨rfl, rfl⟩)
          | (go_simp; go_at_call 40; (with_reducible refine HRR.out.mono ?_); rintro er w2 ⟨A2, c2, rfl, hbs2, hb2⟩; have HBS2 := Lib.hid hbs2; have HO2 := Lib.hid (HOW.out.below ((Below.refl wr.heap.size wr).drew.trans hb2)); have HB2 := Lib.hid (HB.out.drew.trans (hb2.mono hzr)); have hz2 := HB2.out.size; clear hb2 hbs2)))
        all_goals
          go_wp2
          refine ⟨⟨j + 1, by omega, by go_num, HO3.out, HB3.out⟩, by simp [intOf]; omega⟩
      · obtain rfl : j = bk s.now := by omega
        have hlen := HLEN.out (bk s.now) (Nat.le_refl _)
        obtain ⟨g, cg, rfl, hg1, hg2, _⟩ := own_at HOW.out (by omega)
        have hc1 : (bankL s.now k (bk s.now)).length ≤ cg := (own_bs HOW.out).cap
        have hzc : z ≤ cg := by omega
        have hzl : z ≤ (bankL s.now k (bk s.now)).length := by omega
        have HT := Lib.hid (HOW.out.take rfl hzl)
        obtain ⟨q0, q1, q2⟩ := HCELL.out wr HB.out
        have sl := slice_to (some ⟨g, 0, none⟩) (bankL s.now k (bk s.now)).length cg z hzc
        have HCC : Hid ((bankL s.now k (bk s.now)).take z = cont s.now ⟨n, k, z⟩) := HCO.out
        have HCL : Hid ((cont s.now ⟨n, k, z⟩).length = z) := cont_len s.now ⟨n, k, z⟩
        generalize bankL s.now k (bk s.now) = bb at *
        generalize cont s.now ⟨n, k, z⟩ = ct at *
        rw [HCC.out] at HT
        have HBS := Lib.hid (own_bs HT.out)
        have HEN := Lib.hid (rentries_any (some ⟨g, 0, none⟩) ct cg HBS.out (by rw [HCL.out]; omega))
        rw [HCL.out] at HEN
        clear HLEN HSN hlen hzc hc1 hlt
        go_wp2_with fail
        refine HSE.out.mono ?_
        rintro e w' ⟨rfl, rfl⟩
        go_wp2_with fail
        refine HEN.out.mono ?_
        rintro e w4 ⟨v4, rfl, hb4, hes⟩
        have hz4 := hb4.size
        have HB4 := Lib.hid (HB.out.trans (hb4.mono hzr))
        have HBS4 := Lib.hid (HBS.out.below hb4)
        have HBw4 := Lib.hid (HBw.out.trans (HB4.out.mono HBw.out.size))
        obtain ⟨x0, x1, x2⟩ := HCELL.out w4 HB4.out
        have HES := Lib.hid hes
        have hzw := HBw.out.size
        clear hes hb4 HEN HSE HPr HT HBS q0 q1 q2 sl
        cases hen : ents ct with
        | none =>
          rw [hen] at HO
          clear HES
          simp only [Option.isSome_none]
          go_wp2
          refine bodyPost_ret (v := .tuple #[.pointer none, .slice none 0 0, .int .i64 2]) (by simp [results, Try.results14, go_sem]) rfl (HO.out _ _ ⟨HBw4.out, rfl⟩)
        | some es =>
          have HR := Lib.hid (HES.out es hen)
          rw [hen] at HO
          clear HES hen
          obtain ⟨A4, c4, rfl, _, _, _⟩ := HR.out.open
          simp only [Option.isSome_some]
          go_wp2
          have hb5 := (Below.refl w4.heap.size w4).alloc (Nat.le_refl _) (.cells #[.pointer (some ⟨b, 0, none⟩), .int .i64 (n : Nat), .int .i64 (k : Nat), .int .i64 (z : Nat), .slice (some ⟨g, 0, none⟩) z cg, .int .i64 (es.length : Nat), .bool false] 53)
          have hrl : RLM (w4.alloc (.cells #[.pointer (some ⟨b, 0, none⟩), .int .i64 (n : Nat), .int .i64 (k : Nat), .int .i64 (z : Nat), .slice (some ⟨g, 0, none⟩) z cg, .int .i64 (es.length : Nat), .bool false] 53)) w4.heap.size b ⟨n, k, z⟩ (some ⟨g, 0, none⟩) ct cg es.length false := by
            unfold RLM
            rw [HCL.out]
            exact heap_alloc_new w4 _
          refine bodyPost_ret (v := .tuple #[.pointer (some ⟨w4.heap.size, 0, none⟩), .slice A4 es.length c4, .int .i64 0]) (by simp [results, Try.results14, go_sem]) rfl (HO.out _ _ ⟨HBw4.out.trans (hb5.mono HBw4.out.size), _, _, _, _, rfl, hrl, by omega, HBS4.out.below hb5, fun ad e => ?_, ?_⟩)
          · injection e with e
            subst e
            exact ⟨by simp only; omega, by simp only; omega⟩
          · exact (HR.out.below hb5).mono (by omega) (fun j hj => by omega)
end
section
open Go.ChangeShapes Go.WideShapes Go.ChangeAt Go.RowKit
open Lb (encI encIs encS In64 encI_len)

theorem slice_mid (A : Option Addr) (n c lo hi : Nat) (h1 : lo ≤ hi) (h : hi ≤ c) (W : World) :
    (Instr.slice 36 (.slice A n c) (some (.int .i64 (lo : Nat))) (some (.int .i64 (hi : Nat))) none).run Try.prog W = .ok (.slice (fromA A c lo) (hi - lo) (c - lo)) W := by
  have ht : Try.prog.underlying 36 = some (.slice (Try.prog.elem 36)) := by kernel_rfl
  rw [run_slice_lh W _ A n c ht .i64 .i64 _ _ (by omega) (by omega) (by omega), sizeB]
  simp only [sliced, fromA, Result.andThen]
  simp only [Int.toNat_natCast]
/-- Piece i of x, as it is cut out of it. -/
theorem chp_bs {W : World} {X : Option Addr} {x : List UInt8} {cx : Nat} (h : BS W X x cx) (i hi : Nat) (h1 : i * 64 ≤ hi) (h2 : hi ≤ x.length) (h3 : hi - i * 64 ≤ 64) (h4 : hi = x.length ∨ hi = (i + 1) * 64) : BS W (fromA X cx (i * 64)) (ch x i) (cx - i * 64) ∧ (ch x i).length = hi - i * 64 := by
  have e : ch x i = (x.drop (i * 64)).take 64 := rfl
  refine ⟨?_, ?_⟩
  · rw [e]
    exact (h.drop (i * 64) (by omega)).take 64
  · rw [e, List.length_take, List.length_drop]
    omega
theorem ch_drop (x : List UInt8) (m j : Nat) : ch (x.drop (m * 64)) j = ch x (m + j) := by
  unfold ch
  rw [List.drop_drop, show m * 64 + j * 64 = (m + j) * 64 by omega]
theorem wrs_now {s : DS} {i : Nat} {x : List UInt8} : ∀ j, (wrs s i x j).2.now.length = s.now.length
  | 0 => rfl
  | j + 1 => by
    have ih := wrs_now (s := s) (i := i) (x := x) j
    by_cases h : (wrs s i x j).1 = 0
    · rw [wrs_go h]
      show (wrS _ _ _).now.length = _
      rw [wrS_len, ih]
    · rw [wrs, if_neg h]; exact ih
theorem DoesR.of_below {F : Nat → Prop} {w w0 w1 : World} {a : Nat} {v : Value} {s : DS} {e : Ending} (hb : Below w.heap.size w w0) (h : DoesR F w0 a v s e w1) (h0 : ∀ k, F k → k < w.heap.size) : DoesR F w a v s e w1 := by
  obtain ⟨h1, h2, h3⟩ := h
  have hs := hb.size
  refine ⟨h1, h2.same (fun k hk => ?_) (fun k hk => ?_) (fun _ _ => rfl), (Chg.below (F := F) hb).trans (h3.mono fun _ h => .inl h)⟩
  · rcases hk with hk | hk
    · exact .inl hk
    · exact .inr ⟨by omega, hk.2⟩
  · rcases hk with hk | hk
    · exact Nat.lt_of_lt_of_le (h0 k hk) (Nat.le_trans hs h3.size)
    · exact hk.2
theorem DoesR.mono {F G : Nat → Prop} {w w1 : World} {a : Nat} {v : Value} {s : DS} {e : Ending} (h : DoesR F w a v s e w1) (hG : ∀ k, F k → G k) (h0 : ∀ k, G k → k < w.heap.size) : DoesR G w a v s e w1 := by
  obtain ⟨h1, h2, h3⟩ := h
  refine ⟨h1, h2.same (fun k hk => by rcases hk with hk | hk; exact .inl (hG k hk); exact .inr hk) (fun k hk => ?_) (fun _ _ => rfl), h3.mono hG⟩
  rcases hk with hk | hk
  · exact Nat.lt_of_lt_of_le (h0 k hk) h3.size
  · exact hk.2
/-- What lies in no block of F is read on behind a change of F. -/
theorem chg_cell {F : Nat → Prop} {w w' : World} (hc : Chg F w w') {p : Addr} {v : Value} (h : w.cell? p = some v) (hF : ¬ F p.block) : w'.cell? p = some v := by
  have hl := World.block_lt_of_cell? w _ h
  exact (World.cell?_of_block (w := w) (hc.block p.block hl hF)).trans h
theorem chg_bs {F : Nat → Prop} {w w' : World} (hc : Chg F w w') {X : Option Addr} {x : List UInt8} {cx : Nat} (h : BS w X x cx) (hX : ∀ ad, X = some ad → x = [] ∨ ¬ F ad.block) : BS w' X x cx :=
  ⟨fun i hi => by
    obtain ⟨ad, e, hce⟩ := h.cells i hi
    refine ⟨ad, e, chg_cell hc hce ?_⟩
    rw [add_block]
    exact (hX ad e).resolve_left (fun hl => by subst hl; simp at hi), h.cap, h.bare⟩
set_option maxHeartbeats 4000000 in
theorem rput_any {F : Nat → Prop} {w : World} {c b : Nat} {s : DS} (h : RD F w b s) (hc : w.cell? ⟨c, 0, none⟩ = some (.pointer (some ⟨b, 0, none⟩))) (hcF : ¬ F c) (X : Option Addr) (x : List UInt8) (cx : Nat) (hX : BS w X x cx) (hXF : ∀ ad, X = some ad → x = [] ∨ ¬ F ad.block)
    (fr : Nat) (hfr : fr ≤ x.length) (h4 : 4 ≤ s.now.length) (hx : x.length ≤ bk s.now * 64) (hp : s.pend.length ≤ 800)
    (nh : Hd) (hn1 : nh.n ≤ 1099511627776) (hn2 : nh.k ≤ 1) (hn3 : nh.z ≤ 100000) :
    Calls Try.prog 64 #[.pointer (some ⟨c, 0, none⟩), .slice X x.length cx, .int .i64 (fr : Nat), hV nh] w (DoesR F w b (.int .i64 (saveE s (fst s.now nh.k + fr / 64) (x.drop (fr / 64 * 64)) nh)) (saveS s (fst s.now nh.k + fr / 64) (x.drop (fr / 64 * 64)) nh)) := by
  have H0 := Lib.hid h.lt
  have hbk := bk_few h.ok.few
  have hfew := h.ok.few
  obtain ⟨n, k, z⟩ := nh
  simp only at hn1 hn2 hn3
  obtain ⟨W0, hW0⟩ : ∃ W0, w.alloc (.cells #[.int .i64 (n : Nat), .int .i64 (k : Nat), .int .i64 (z : Nat)] 51) = W0 := ⟨_, rfl⟩
  have hz0 : W0.heap.size = w.heap.size + 1 := by rw [← hW0]; simp
  have hb0 : Below w.heap.size w W0 := by rw [← hW0]; exact (Below.refl w.heap.size w).alloc (Nat.le_refl _) _
  have y0 : W0.heap[w.heap.size]? = some (.cells #[.int .i64 (n : Nat), .int .i64 (k : Nat), .int .i64 (z : Nat)] 51 (0, 0)) := by rw [← hW0]; exact heap_alloc_new w _
  have HWF : Hid (¬ F w.heap.size) := fun e => by have := H0.out _ e; omega
  have HP0 := Lib.hid (h.below hb0)
  have HX0 := Lib.hid (hX.below hb0)
  have HXF := Lib.hid hXF
  have hcl := World.block_lt_of_cell? w _ hc
  simp only at hcl
  have HC0 := Lib.hid ((hb0.cell (p := ⟨c, 0, none⟩) hcl).trans hc)
  have HCELL : Hid (∀ W, Chg F W0 W → W.cell? ⟨c, 0, none⟩ = some (.pointer (some ⟨b, 0, none⟩)) ∧ W.cell? ⟨w.heap.size, 0, none⟩ = some (.int .i64 (n : Nat)) ∧ W.cell? ⟨w.heap.size, 1, none⟩ = some (.int .i64 (k : Nat)) ∧ W.cell? ⟨w.heap.size, 2, none⟩ = some (.int .i64 (z : Nat))) := fun W hW => by
    have := (hW.block w.heap.size (by omega) HWF.out).trans y0
    refine ⟨chg_cell hW HC0.out hcF, ?_, ?_, ?_⟩ <;> (rw [cell_of_row W _ _ _ _ _ this]; rfl)
  have HB0 := Lib.hid hb0
  have HW0 := Lib.hid hW0
  unfold hV hdV
  simp only
  obtain ⟨m, hm⟩ : ∃ m, fr / 64 = m := ⟨_, rfl⟩
  have hm64 : m * 64 ≤ x.length := by omega
  have hdv : (fr : Int).tdiv 64 = (m : Nat) := by rw [← hm, Int.tdiv_eq_ediv_of_nonneg (by omega)]; omega
  have hwd : IntKind.i64.wrap (m : Int) = (m : Int) := IntWalk.i64_in _ (by omega)
  rw [hm]
  have hfst := fst_bd h4 hn2
  have HIN : Hid (fst s.now k + m + nch (x.drop (m * 64)) ≤ s.now.length) := by
    simp only [Hid]
    unfold nch
    rw [List.length_drop]
    omega
  obtain ⟨q, hq⟩ : ∃ q, k * bk s.now = q := ⟨_, rfl⟩
  have hq99 : q ≤ 99 := by
    rw [← hq]
    rcases (show k = 0 ∨ k = 1 by omega) with rfl | rfl <;> omega
  have hkb : (k : Int) * (bk s.now : Int) = (q : Int) := by rw [← hq]; simp
  have HFS : Hid (fst s.now k = 2 + q) := by simp only [Hid, fst]; rw [hq]
  have hw1 : IntKind.i64.wrap ((k : Int) * (bk s.now : Int)) = (q : Int) := by rw [hkb]; exact IntWalk.i64_in _ (by omega)
  have hw2 : IntKind.i64.wrap ((2 : Int) + (q : Int)) = 2 + (q : Int) := IntWalk.i64_in _ (by omega)
  have HCH : Hid (∀ j, ch (x.drop (m * 64)) j = ch x (m + j)) := fun j => ch_drop x m j
  have HNC : Hid (∀ j, j < nch (x.drop (m * 64)) ↔ (m + j) * 64 < x.length) := fun j => by unfold nch; rw [List.length_drop]; omega
  have HNB : Hid (nch (x.drop (m * 64)) ≤ 99) := by simp only [Hid]; unfold nch; rw [List.length_drop]; omega
  obtain ⟨i, hi⟩ : ∃ i, fst s.now k + m = i := ⟨_, rfl⟩
  rw [hi] at HIN
  rw [hi]
  have HI := Lib.hid hi
  generalize x.drop (m * 64) = y at *
  have HPN : Hid (∀ j, j ≤ nch y → (wrs s i y j).2.pend.length ≤ 950) := fun j hj => by
    have h1 := wrs_pend s i y j
    have := HNB.out
    omega
  have HNOW : Hid (∀ j, (wrs s i y j).2.now.length = s.now.length) := fun j => wrs_now j
  have HLT : Hid (∀ q, F q → q < W0.heap.size) := fun q hq => by have := H0.out q hq; omega
  clear h hX hXF hc hb0 y0 hW0 hm hi hkb hq
  go_enter Try.func64, Try.ntmps64
  go_wp2_with fail
  rw [HW0.out]
  clear HW0
  go_loopw [9] (fun v wr => ∃ j : Nat, j ≤ nch y ∧ v = .int .i64 ((m + j : Nat) : Int) ∧ Hid ((wrs s i y j).1 = 0) ∧ Hid (RD (Nu F W0 wr) wr b (wrs s i y j).2) ∧ Hid (Chg F W0 wr)) (fun v _ => 300 - (intOf v).toNat)
  case atStart => exact ⟨0, Nat.zero_le _, by simp, rfl, (HP0.out.wide (Nat.le_refl _) F (fun _ h => .inl h) HLT.out), Chg.refl _ _⟩
  case round =>
    obtain ⟨j, hj, rfl, HZ, HD, HC⟩ := hrel
    obtain ⟨k0, k1, k2, k3⟩ := HCELL.out wr HC.out
    have HN := Lib.hid (HNC.out j)
    have HCHj := Lib.hid (HCH.out j)
    obtain ⟨t, ht⟩ : ∃ t, m + j = t := ⟨_, rfl⟩
    rw [ht] at HN HCHj
    rw [ht]
    have HT := Lib.hid ht
    by_cases hlt : t * 64 < x.length
    · have hjl := HN.out.2 hlt
      have ht100 : t ≤ 100 := by omega
      obtain ⟨hi, hhi⟩ : ∃ hi, min x.length ((t + 1) * 64) = hi := ⟨_, rfl⟩
      have hmn : min (x.length : Int) (((t : Int) + 1) * 64) = (hi : Nat) := by rw [← hhi]; omega
      have hh1 : t * 64 ≤ hi := by omega
      have hh2 : hi ≤ x.length := by omega
      have hcap := HX0.out.cap
      have sl := slice_mid X x.length cx (t * 64) hi hh1 (by omega)
      have hpe : ((t * 64 : Nat) : Int) = (t : Int) * 64 := by omega
      rw [hpe] at sl
      obtain ⟨hcb, hcl'⟩ := chp_bs (chg_bs HC.out HX0.out HXF.out) t hi hh1 hh2 (by omega) (by omega)
      have HAP : Hid (∀ ad, fromA X cx (t * 64) = some ad → ch x t = [] ∨ ¬ Nu F W0 wr ad.block) := by
        have hne : x ≠ [] := fun e => by rw [e] at hlt; simp at hlt
        refine fun ad e => .inr (fromA_block (p := fun bb => ¬ Nu F W0 wr bb) (fun ad e => ?_) ad e)
        have h1 := (HXF.out ad e).resolve_left hne
        obtain ⟨ad', e', hce⟩ := HX0.out.cells 0 (List.length_pos_iff.2 hne)
        rw [e] at e'
        injection e' with e'
        subst e'
        have h2 := World.block_lt_of_cell? W0 _ hce
        rw [add_block] at h2
        intro hh
        rcases hh with hh | hh
        · exact h1 hh
        · omega
      have HWR := Lib.hid (rwrite_any HD.out.drew ((i + j : Nat) : Int) (fromA X cx (t * 64)) (ch x t) (cx - t * 64) (hcb.drewN 1) HAP.out (by have := HPN.out j hj; omega))
      rw [hcl'] at HWR
      have hij : ((i + j : Nat) : Int) = 2 + (q : Int) + (t : Int) := by have := HI.out; have := HFS.out; omega
      rw [hij] at HWR
      have hw3 : IntKind.i64.wrap ((2 : Int) + (q : Int) + (t : Int)) = 2 + (q : Int) + (t : Int) := IntWalk.i64_in _ (by omega)
      have hw4 : IntKind.i64.wrap ((t : Int) * 64) = (t : Int) * 64 := IntWalk.i64_in _ (by omega)
      have hw5 : IntKind.i64.wrap ((t : Int) + 1) = (t : Int) + 1 := IntWalk.i64_in _ (by omega)
      have hw6 : IntKind.i64.wrap (((t : Int) + 1) * 64) = ((t : Int) + 1) * 64 := IntWalk.i64_in _ (by omega)
      have HSE := Lib.hid (sectors_any HD.out.drew (by rw [HNOW.out]; exact h4))
      have hbe : bk (wrs s i y j).2.now = bk s.now := by unfold bk; rw [HNOW.out]
      rw [hbe] at HSE
      have HE' : Hid (wrE (wrs s i y j).2 ((i + j : Nat) : Int) (ch y j) = (wrs s i y (j + 1)).1 ∧ wrS (wrs s i y j).2 ((i + j : Nat) : Int) (ch y j) = (wrs s i y (j + 1)).2) := by
        simp only [Hid]; rw [wrs_go HZ.out]; exact ⟨rfl, rfl⟩
      rw [HCHj.out, hij] at HE'
      rw [HE'.out.1, HE'.out.2] at HWR
      have hS0 : wr.drew.cell? ⟨c, 0, none⟩ = some (.pointer (some ⟨b, 0, none⟩)) ∧ wr.drew.cell? ⟨w.heap.size, 1, none⟩ = some (.int .i64 (k : Nat)) := ⟨k0, k2⟩
      clear hcb hcl' hpe hhi hij hbe HE'
      go_wp2_with fail
      go_region_held3 (fun W => W.cell? ⟨c, 0, none⟩ = some (.pointer (some ⟨b, 0, none⟩)) ∧ W.cell? ⟨w.heap.size, 1, none⟩ = some (.int .i64 (k : Nat)))
        (first | exact hS0 | exact hS4)
        (first
          | (go_at_call 39; (with_reducible refine HSE.out.mono ?_); rintro er w' ⟨rfl, rfl⟩)
          | (go_at_call 22; (with_reducible refine HWR.out.mono ?_); rintro er w4 hd4; have hd4' := DoesR.next (w1 := wr) HC.out (show DoesR (Nu F W0 wr) wr b _ _ er w4 from ⟨hd4.1, hd4.2.1, ⟨hd4.2.2.os, hd4.2.2.tape, hd4.2.2.output, hd4.2.2.size, hd4.2.2.block⟩⟩) HLT.out; obtain ⟨rfl, _, _⟩ := hd4; have HD4 := Lib.hid hd4'; have hS4 : w4.cell? ⟨c, 0, none⟩ = some (.pointer (some ⟨b, 0, none⟩)) ∧ w4.cell? ⟨w.heap.size, 1, none⟩ = some (.int .i64 (k : Nat)) := ⟨(HCELL.out w4 hd4'.2.2).1, (HCELL.out w4 hd4'.2.2).2.2.1⟩; clear hd4'))
      all_goals
        clear hS0 hS4 HWR HSE sl hmn hw3 hw4 hw5 hw6 k0 k1 k2 k3
        by_cases g : (wrs s i y (j + 1)).1 = 0
        · have HG := Lib.hid g
          rw [g]
          clear g
          go_wp2
          refine ⟨⟨j + 1, by omega, ?_, HG.out, HD4.out.2.1, HD4.out.2.2⟩, by simp [intOf]; omega⟩
          rw [show m + (j + 1) = t + 1 by have := HT.out; omega]
          go_num
        · obtain ⟨n', hn'⟩ : ∃ n', nch y = j + 1 + n' := ⟨nch y - (j + 1), by omega⟩
          have he : wrs s i y (nch y) = wrs s i y (j + 1) := by rw [hn']; exact wrs_stop g n'
          have HS := Lib.hid (save_1 (s := s) (i := i) (x := y) (h := ⟨n, k, z⟩) (by unfold e1; rw [he]; exact g))
          have hq : ((wrs s i y (j + 1)).1 != 0) = true := by simpa using g
          have HS2 : Hid (e1 s i y = (wrs s i y (j + 1)).1 ∧ st1 s i y = (wrs s i y (j + 1)).2) := by simp only [Hid]; unfold e1 st1; rw [he]; exact ⟨rfl, rfl⟩
          clear g he hn'
          go_wp2
          go_ret
          rw [HS.out.1, HS.out.2, HS2.out.1, HS2.out.2]
          exact DoesR.of_below HB0.out HD4.out H0.out
    · have hjn : j = nch y := by
        have := HN.out
        rcases Nat.lt_or_ge j (nch y) with hh | hh
        · exact absurd (this.1 hh) hlt
        · omega
      have HE1 : Hid (e1 s i y = 0) := by simp only [Hid]; unfold e1; rw [← hjn]; exact HZ.out
      have HS1 : Hid ((wrs s i y j).2 = st1 s i y) := by simp only [Hid]; unfold st1; rw [← hjn]
      have HP1000 : Hid ((st1 s i y).pend.length ≤ 950) := by have := HPN.out j hj; rw [HS1.out] at this; exact this
      rw [HS1.out] at HD
      have HSY := Lib.hid (rsync_any HD.out)
      change Hid (Calls _ _ _ _ (DoesR _ _ _ (.int .i64 (e2 s i y)) (st2 s i y))) at HSY
      have ht100 : t ≤ 200 := by have := HNB.out; have := HT.out; omega
      have hw4 : IntKind.i64.wrap ((t : Int) * 64) = (t : Int) * 64 := IntWalk.i64_in _ (by omega)
      clear HS1 HZ hjn HPN
      go_wp2_with fail
      refine HSY.out.mono ?_
      rintro er w2 hd2
      have hd2' := DoesR.next HC.out hd2 HLT.out
      obtain ⟨rfl, _, _⟩ := hd2
      have HD2 := Lib.hid hd2'
      clear hd2' HSY HD k0 k1 k2 k3
      obtain ⟨k0, k1, k2, k3⟩ := HCELL.out w2 HD2.out.2.2
      by_cases g2 : e2 s i y = 0
      · have HE2 := Lib.hid g2
        rw [g2]
        clear g2
        obtain ⟨r2, hr2⟩ : ∃ r2, n % 2 = r2 := ⟨_, rfl⟩
        have ht' : (n : Int).tmod 2 = (r2 : Nat) := by rw [← hr2, Int.tmod_eq_emod_of_nonneg (by omega)]; omega
        have HHS : Hid (hSec ⟨n, k, z⟩ = r2) := hr2
        have HHB : Hid (encIs [(n : Int), (k : Int), (z : Int)] = hB ⟨n, k, z⟩) := rfl
        have HPN : Hid ((st2 s i y).pend.length ≤ 1000) := by have := syS_pend (st1 s i y); have := HP1000.out; simp only [Hid]; unfold st2; omega
        have HE3 : Hid (wrE (st2 s i y) (r2 : Nat) (hB ⟨n, k, z⟩) = e3 s i y ⟨n, k, z⟩ ∧ wrS (st2 s i y) (r2 : Nat) (hB ⟨n, k, z⟩) = st3 s i y ⟨n, k, z⟩) := by
          simp only [Hid]
          unfold e3 st3
          rw [HHS.out]
          exact ⟨rfl, rfl⟩
        obtain ⟨hb, hhb⟩ : ∃ hb, hB ⟨n, k, z⟩ = hb := ⟨_, rfl⟩
        rw [hhb] at HHB HE3
        have hbl := (Below.refl w2.heap.size w2).alloc (Nat.le_refl _) (.cells #[.int .i64 (n : Nat), .int .i64 (k : Nat), .int .i64 (z : Nat)] 3)
        have HIT : Hid (Calls Try.prog 77 #[.slice (some ⟨w2.heap.size, 0, none⟩) 3 3] (w2.alloc (.cells #[.int .i64 (n : Nat), .int .i64 (k : Nat), .int .i64 (z : Nat)] 3)).drew (Gives (w2.alloc (.cells #[.int .i64 (n : Nat), .int .i64 (k : Nat), .int .i64 (z : Nat)] 3)).drew.heap.size (encIs [(n : Int), (k : Int), (z : Int)]) (w2.alloc (.cells #[.int .i64 (n : Nat), .int .i64 (k : Nat), .int .i64 (z : Nat)] 3)).drew)) := by
          have hr := row_new (.int .i64) w2 3 [(n : Int), (k : Int), (z : Int)] #[.int .i64 (n : Nat), .int .i64 (k : Nat), .int .i64 (z : Nat)] rfl
          exact rints_any (w := (w2.alloc (.cells #[.int .i64 (n : Nat), .int .i64 (k : Nat), .int .i64 (z : Nat)] 3)).drew) (some ⟨w2.heap.size, 0, none⟩) [(n : Int), (k : Int), (z : Int)] 3 hr (by intro v hv; simp at hv; rcases hv with rfl | rfl | rfl <;> (constructor <;> omega)) (by simp)
        rw [HHB.out] at HIT
        have HBL := Lib.hid (show Below w2.heap.size w2 (w2.alloc (.cells #[.int .i64 (n : Nat), .int .i64 (k : Nat), .int .i64 (z : Nat)] 3)).drew from hbl.drew)
        have HCS : Hid (∀ W, Chg F W0 W → W.cell? ⟨c, 0, none⟩ = some (.pointer (some ⟨b, 0, none⟩)) ∧ W.cell? ⟨w.heap.size, 0, none⟩ = some (.int .i64 (n : Nat)) ∧ W.cell? ⟨w.heap.size, 1, none⟩ = some (.int .i64 (k : Nat)) ∧ W.cell? ⟨w.heap.size, 2, none⟩ = some (.int .i64 (z : Nat))) := HCELL.out
        have hS0 : w2.drew.cell? ⟨c, 0, none⟩ = some (.pointer (some ⟨b, 0, none⟩)) ∧ w2.drew.cell? ⟨w.heap.size, 0, none⟩ = some (.int .i64 (n : Nat)) ∧ w2.drew.cell? ⟨w.heap.size, 1, none⟩ = some (.int .i64 (k : Nat)) ∧ w2.drew.cell? ⟨w.heap.size, 2, none⟩ = some (.int .i64 (z : Nat)) := ⟨k0, k1, k2, k3⟩
        clear hr2 hhb hbl
        go_wp2_with fail
        go_region_held3 (fun W => W.cell? ⟨c, 0, none⟩ = some (.pointer (some ⟨b, 0, none⟩)) ∧ W.cell? ⟨w.heap.size, 0, none⟩ = some (.int .i64 (n : Nat)) ∧ W.cell? ⟨w.heap.size, 1, none⟩ = some (.int .i64 (k : Nat)) ∧ W.cell? ⟨w.heap.size, 2, none⟩ = some (.int .i64 (z : Nat)))
          (first | exact hS0 | exact ⟨cell_al _ k0, cell_al _ k1, cell_al _ k2, cell_al _ k3⟩ | exact hS3 | exact hS4)
          (first
            | (go_at_call 77; (with_reducible refine HIT.out.mono ?_); rintro er w3 ⟨v3, rfl, ho3, hb3⟩; replace hb3 : Below w2.heap.size w2 w3 := HBL.out.trans (hb3.mono HBL.out.size); obtain ⟨A3, c3, rfl, hbs3, hA3⟩ := ho3.open; have HP3 := Lib.hid (HD2.out.2.1.below hb3); have hc3 : Chg F W0 w3 := HD2.out.2.2.trans (Chg.below hb3); have hS3 := HCS.out w3 hc3; have HC3 := Lib.hid hc3; have hz3 := hb3.size; have hc3s := hc3.size; have HWR := Lib.hid (rwrite_any HP3.out (r2 : Nat) A3 hb c3 hbs3 (fun ad e => .inr (fun hf => by have := (hA3 ad e).2.1; have h2 := HD2.out.2.1.lt _ hf; have h3 := HBL.out.size; omega)) HPN.out); rw [HE3.out.1, HE3.out.2] at HWR; clear ho3 hbs3 hA3 hc3 hb3)
            | (go_at_call 22; (with_reducible refine HWR.out.mono ?_); rintro er w4 hd4; have hd4' := DoesR.next HC3.out (hd4.mono (G := Nu F W0 w3) (fun q hq => by rcases hq with hq | hq; exact .inl hq; exact .inr ⟨hq.1, by omega⟩) (fun q hq => by rcases hq with hq | hq; (have := H0.out q hq; have := hc3s; omega); exact hq.2)) HLT.out; obtain ⟨rfl, _, _⟩ := hd4; have HD4 := Lib.hid hd4'; have hS4 := HCS.out w4 hd4'.2.2; clear hd4'))
        obtain ⟨c0, c1, c2, c3⟩ := hS4
        clear hS0 hS3 k0 k1 k2 k3 ht' HWR HP3 HC3 HIT
        by_cases g3 : e3 s i y ⟨n, k, z⟩ = 0
        · have HS := Lib.hid (save_4 (s := s) (i := i) (x := y) (h := ⟨n, k, z⟩) HE1.out HE2.out g3)
          rw [g3]
          clear g3
          have HSY := Lib.hid (rsync_any HD4.out.2.1)
          change Hid (Calls _ _ _ _ (DoesR _ _ _ (.int .i64 (e4 s i y ⟨n, k, z⟩)) (st4 s i y ⟨n, k, z⟩))) at HSY
          go_wp2_with fail
          refine HSY.out.mono ?_
          rintro er w5 hd5
          have hd5' := DoesR.next HD4.out.2.2 hd5 HLT.out
          obtain ⟨rfl, _, _⟩ := hd5
          have HD5 := Lib.hid hd5'
          clear hd5' HSY
          go_wp2
          go_ret
          rw [HS.out.1, HS.out.2]
          exact DoesR.of_below HB0.out HD5.out H0.out
        · have HS := Lib.hid (save_3 (s := s) (i := i) (x := y) (h := ⟨n, k, z⟩) HE1.out HE2.out g3)
          have hq : (e3 s i y ⟨n, k, z⟩ != 0) = true := by simpa using g3
          clear g3
          go_wp2
          go_ret
          rw [HS.out.1, HS.out.2]
          exact DoesR.of_below HB0.out HD4.out H0.out
      · have HS := Lib.hid (save_2 (s := s) (i := i) (x := y) (h := ⟨n, k, z⟩) HE1.out g2)
        have hq : (e2 s i y != 0) = true := by simpa using g2
        clear g2
        go_wp2
        go_ret
        rw [HS.out.1, HS.out.2]
        exact DoesR.of_below HB0.out HD2.out H0.out
end
end Go.Proofs.Ytembonenaoineaa
