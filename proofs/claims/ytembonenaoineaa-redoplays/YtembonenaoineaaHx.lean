/- What lay, Append and Reset of the reference's log do: contracts. Conditions: the Drum and the Log lie in memory; lengths below 10,000. -/
import Derived.Test.YtembonenaoineaaHu
import Derived.Test.YtembonenaoineaaGz
namespace Go.Proofs.Ytembonenaoineaa
set_option maxRecDepth 100000
set_option linter.unusedVariables false
section
open Go.ChangeShapes Go.WideShapes Go.ChangeAt Go.RowKit
open Lb (encI encIs encS In64 encI_len encSs encSs_len encS_len)

/-- The reference's Drum in block b and its Log in block c, all of it in blocks of R, laid since w; bl are the Log's bytes. -/
structure RSys (w wr : World) (R : Nat → Prop) (b c : Nat) (s : DS) (L : LG) (bl : List UInt8) : Prop where
  lays : ∃ (G : Nat → Prop) (B : Option Addr) (cb : Nat), RD G wr b s ∧ (∀ k, G k → R k) ∧ ¬ G c ∧ RLM wr c b L.h B bl cb L.cnt L.dead ∧ BS wr B bl cb ∧ ∀ ad, B = some ad → bl = [] ∨ (R ad.block ∧ ¬ G ad.block ∧ ad.block ≠ c)
  rc : R c
  lt : ∀ k, R k → k < wr.heap.size
  fR : ∀ k, R k → w.heap.size ≤ k
  bl : Below w.heap.size w wr
section
variable {w wr w' : World} {R : Nat → Prop} {b c : Nat} {s s' : DS} {L L' : LG} {bl : List UInt8}
theorem RSys.chg (h : RSys w wr R b c s L bl) {X : Nat → Prop} (hc : Chg X wr w') (hX : ∀ k, R k → ¬ X k) (hw : ∀ k, X k → w.heap.size ≤ k) : RSys w w' R b c s L bl := by
  obtain ⟨⟨G, B, cb, h1, h2, h3, h4, h5, h6⟩, rc, lt, fR, hb⟩ := h
  refine ⟨⟨G, B, cb, h1.chg hc (fun k hk => hX k (h2 k hk)), h2, h3, h4.chg hc (hX _ rc), chg_bs hc h5 (fun ad e => ?_), h6⟩, rc, fun k hk => Nat.lt_of_lt_of_le (lt k hk) hc.size, fR, Chg.of_below hb hc hw⟩
  rcases h6 ad e with h | h
  · exact .inl h
  · exact .inr (hX _ h.1)
theorem RSys.below (h : RSys w wr R b c s L bl) (hb : Below wr.heap.size wr w') : RSys w w' R b c s L bl :=
  h.chg (Chg.below (F := fun _ => False) hb) (fun _ _ h => h) (fun _ h => absurd h id)
theorem RSys.ok (h : RSys w wr R b c s L bl) : DOk s := by
  obtain ⟨⟨G, B, cb, h1, _⟩, _⟩ := h
  exact h1.ok
/-- A method of the Drum alone. -/
theorem RSys.does (h : RSys w wr R b c s L bl) : ∃ G, RD G wr b s ∧ ∀ {v : Value} {e : Ending} {s' : DS} {w' : World}, DoesR G wr b v s' e w' → RSys w w' (Nu R wr w') b c s' L bl ∧ Chg R wr w' := by
  obtain ⟨⟨G, B, cb, h1, h2, h3, h4, h5, h6⟩, rc, lt, fR, hb⟩ := h
  refine ⟨G, h1, ?_⟩
  rintro v e s' w' ⟨_, d2, d3⟩
  have hsz := d3.size
  have hsz2 := hb.size
  have d4 : Chg R wr w' := d3.mono h2
  refine ⟨⟨⟨Nu G wr w', B, cb, d2, fun k hk => ?_, fun hk => ?_, h4.chg d3 h3, chg_bs d3 h5 (fun ad e => ?_), fun ad e => ?_⟩, .inl rc, fun k hk => ?_, fun k hk => ?_, Chg.of_below hb d4 fR⟩, d4⟩
  · rcases hk with hk | hk
    · exact .inl (h2 k hk)
    · exact .inr hk
  · rcases hk with hk | hk
    · exact h3 hk
    · have := lt c rc; omega
  · rcases h6 ad e with h | h
    · exact .inl h
    · exact .inr h.2.1
  · rcases h6 ad e with h | ⟨g1, g2, g3⟩
    · exact .inl h
    · refine .inr ⟨.inl g1, fun hk => ?_, g3⟩
      rcases hk with hk | hk
      · exact g2 hk
      · have := lt _ g1; omega
  · rcases hk with hk | hk
    · exact Nat.lt_of_lt_of_le (lt k hk) hsz
    · exact hk.2
  · rcases hk with hk | hk
    · exact fR k hk
    · omega
theorem RLM.dies {h : Hd} {B : Option Addr} {cb cnt : Nat} {dead : Bool} (hl : RLM w c b h B bl cb cnt dead) : RLM (w.setCell ⟨c, 6, none⟩ (.bool true)) c b h B bl cb cnt true := by
  have := heap_setCell_same w c 6 _ _ (.bool true) hl
  exact this
end
/-- What the reference's lay leaves. -/
def RLays (w wr : World) (R : Nat → Prop) (b c : Nat) (E : Int) (s' : DS) (L' : LG) (bl' : List UInt8) (e : Ending) (w' : World) : Prop :=
  e = .returned (.int .i64 E) ∧ RSys w w' (Nu R wr w') b c s' L' bl' ∧ Chg R wr w'
theorem rlays_same {w wr w' : World} {R : Nat → Prop} {b c : Nat} {s : DS} {L : LG} {bl : List UInt8} (h : RSys w wr R b c s L bl) (hb : Below wr.heap.size wr w') (E : Int) : RLays w wr R b c E s L bl (.returned (.int .i64 E)) w' := by
  have h2 := h.below hb
  have hs := hb.size
  obtain ⟨⟨G, B, cb, h1, g2, h3, h4, h5, h6⟩, rc, lt, fR, hbl⟩ := h2
  have lt0 := h.lt
  have hbs := h.bl.size
  refine ⟨rfl, ⟨⟨G, B, cb, h1, fun k hk => .inl (g2 k hk), h3, h4, h5, fun ad e => ?_⟩, .inl rc, fun k hk => ?_, fun k hk => ?_, hbl⟩, Chg.below hb⟩
  · rcases h6 ad e with h | ⟨x1, x2, x3⟩
    · exact .inl h
    · exact .inr ⟨.inl x1, x2, x3⟩
  · rcases hk with hk | hk
    · exact lt k hk
    · exact hk.2
  · rcases hk with hk | hk
    · exact fR k hk
    · omega
theorem rlays_end {w wr wc w6 w7 : World} {R G : Nat → Prop} {b c : Nat} {S' : DS} {L' : LG} {B' : Option Addr} {bl' : List UInt8} {cb' : Nat} (rc : R c) (lt : ∀ k, R k → k < wr.heap.size) (fR : ∀ k, R k → w.heap.size ≤ k) (hb : Below w.heap.size w wr) (hG : ∀ k, G k → R k) (hGc : ¬ G c)
    (hbc : Below wr.heap.size wr wc) (hd : RD (Nu G wc w6) w6 b S') (hch : Chg G wc w6) (hg : w6.grownBy w7 (some c)) (hrl : RLM w7 c b L'.h B' bl' cb' L'.cnt L'.dead) (hbs : BS w6 B' bl' cb')
    (hB : ∀ ad, B' = some ad → bl' = [] ∨ ((R ad.block ∨ wr.heap.size ≤ ad.block) ∧ ad.block < wc.heap.size ∧ ¬ G ad.block ∧ ad.block ≠ c)) (E : Int) :
    RLays w wr R b c E S' L' bl' (.returned (.int .i64 E)) w7 := by
  have s1 := hb.size
  have s2 := hbc.size
  have s3 := hch.size
  have s4 := hg.size
  have lc := lt c rc
  have c1 : Chg (fun k => k = c) w6 w7 := (Chg.refl _ _).grown hg (fun k e => by injection e with e; exact .inl e.symm)
  have c2 : Chg R wr w7 := ((Chg.below (F := R) hbc).trans (hch.mono fun k hk => .inl (hG k hk))).trans (c1.mono fun k hk => .inl (by rw [hk]; exact rc))
  have hne : ∀ k, Nu G wc w6 k → k ≠ c := fun k hk e => by
    subst e
    rcases hk with hk | hk
    · exact hGc hk
    · omega
  refine ⟨rfl, ⟨⟨Nu G wc w6, B', cb', hd.chg c1 (fun k hk e => hne k hk e), fun k hk => ?_, fun hk => hne c hk rfl, hrl, chg_bs c1 hbs (fun ad e => ?_), fun ad e => ?_⟩, .inl rc, fun k hk => ?_, fun k hk => ?_, Chg.of_below hb c2 fR⟩, c2⟩
  · rcases hk with hk | hk
    · exact .inl (hG k hk)
    · exact .inr ⟨by omega, by omega⟩
  · rcases hB ad e with h | h
    · exact .inl h
    · exact .inr h.2.2.2
  · rcases hB ad e with h | ⟨x1, x2, x3, x4⟩
    · exact .inl h
    · refine .inr ⟨?_, fun hk => ?_, x4⟩
      · rcases x1 with x1 | x1
        · exact .inl x1
        · exact .inr ⟨x1, by omega⟩
      · rcases hk with hk | hk
        · exact x3 hk
        · omega
  · rcases hk with hk | hk
    · have := lt k hk; omega
    · exact hk.2
  · rcases hk with hk | hk
    · exact fR k hk
    · omega
theorem RLM.heads {w : World} {b c : Nat} {h h' : Hd} {B B' : Option Addr} {bl bl' : List UInt8} {cb cb' cnt cnt' : Nat} {dead : Bool} (hl : RLM w c b h B bl cb cnt dead) :
    RLM (((((w.setCell ⟨c, 1, none⟩ (.int .i64 (h'.n : Nat))).setCell ⟨c, 2, none⟩ (.int .i64 (h'.k : Nat))).setCell ⟨c, 3, none⟩ (.int .i64 (h'.z : Nat))).setCell ⟨c, 4, none⟩ (.slice B' bl'.length cb')).setCell ⟨c, 5, none⟩ (.int .i64 (cnt' : Nat))) c b h' B' bl' cb' cnt' dead := by
  have h1 := heap_setCell_same w c 1 _ _ (.int .i64 (h'.n : Nat)) hl
  have h2 := heap_setCell_same _ c 2 _ _ (.int .i64 (h'.k : Nat)) h1
  have h3 := heap_setCell_same _ c 3 _ _ (.int .i64 (h'.z : Nat)) h2
  have h4 := heap_setCell_same _ c 4 _ _ (.slice B' bl'.length cb') h3
  have h5 := heap_setCell_same _ c 5 _ _ (.int .i64 (cnt' : Nat)) h4
  exact h5
theorem own_empty (w : World) : Own w.heap.size (w.alloc (.cells #[] 5)) (.slice (some ⟨w.heap.size, 0, none⟩) 0 0) [] :=
  World.ownsRow_made (base := w.heap.size) (e := 5) (size := 1) w #[] 0 (Nat.le_refl _) (by unfold maxLen; omega) rfl
set_option maxHeartbeats 4000000 in
theorem rlay_any {w wr : World} {R : Nat → Prop} {b c : Nat} {s : DS} {L : LG} {bl : List UInt8} (h : RSys w wr R b c s L bl) (X : Option Addr) (b' : List UInt8) (cx : Nat) (hX : BS wr X b' cx)
    (at' : Hd) (hk : at'.k ≤ 1) (hn : at'.n = L.h.n) (hn1 : L.h.n ≤ 1099511627776) (hz : at'.z = b'.length) (hz1 : b'.length ≤ 10000) (hcont : L.dead = false → cont s.now at' = b')
    (P : Option Addr) (p : List UInt8) (cp : Nat) (hP : BS wr P p cp) (hpl : p.length ≤ 10000) (c0 : Nat) (hc0 : c0 ≤ 100000) (h4 : 4 ≤ s.now.length) (hp : s.pend.length ≤ 800) :
    Calls Try.prog 43 #[.pointer (some ⟨c, 0, none⟩), .slice X b'.length cx, .int .i64 (at'.k : Nat), .slice P p.length cp, .int .i64 ((c0 + 1 : Nat) : Int)] wr
      (RLays w wr R b c (apE s L at' (encS p)) (apS s L at' (encS p)) (apL s L at' c0 (encS p)) (if apE s L at' (encS p) = 0 then b' ++ encS p else bl)) := by
  have H := Lib.hid h
  obtain ⟨⟨G, B, cb, h1, h2, h3, h5, h6, h7⟩, rc, lt, fR, hb⟩ := h
  obtain ⟨q0, q1, q2, q3, q4, q5, q6, qf⟩ := h5.cells
  obtain ⟨⟨n0, k0, z0⟩, cnt, dead⟩ := L
  simp only at q1 q2 q3 q5 q6 hn hn1 hcont
  have hbk := bk_few h1.ok.few
  obtain ⟨post, hpo⟩ : ∃ post, RLays w wr R b c (apE s ⟨⟨n0, k0, z0⟩, cnt, dead⟩ at' (encS p)) (apS s ⟨⟨n0, k0, z0⟩, cnt, dead⟩ at' (encS p)) (apL s ⟨⟨n0, k0, z0⟩, cnt, dead⟩ at' c0 (encS p)) (if apE s ⟨⟨n0, k0, z0⟩, cnt, dead⟩ at' (encS p) = 0 then b' ++ encS p else bl) = post := ⟨_, rfl⟩
  rw [hpo]
  have HPO := Lib.hid hpo
  clear hpo
  cases dead with
  | true =>
    obtain ⟨e1, e2, e3⟩ := ap_dead s (L := ⟨⟨n0, k0, z0⟩, cnt, true⟩) at' c0 (encS p) rfl
    rw [e1, e2, e3, if_neg (by decide)] at HPO
    clear e1 e2 e3
    go_enter Try.func43, Try.ntmps43
    go_wp2
    rw [← HPO.out]
    exact rlays_same H.out (Below.refl _ _) 9
  | false =>
    obtain ⟨na, ka, za⟩ := at'
    simp only at hk hn hz
    subst hn
    subst hz
    have HCO := Lib.hid (hcont rfl)
    have hel : (encS p).length ≤ 10 + p.length := by
      have := (encS_len (bstr p) (by rw [bstr_size]; omega)).1
      rw [bstr_size] at this
      exact this
    have hep := encS_pos (p := p) (by omega)
    have HEL := Lib.hid hel
    have hb1 := (Below.refl wr.heap.size wr).alloc (Nat.le_refl _) (.cells #[] 5)
    have HB1 : Hid (Below wr.heap.size wr (wr.alloc (.cells #[] 5)).drew) := hb1.drew
    have HOE : Hid (Own wr.heap.size (wr.alloc (.cells #[] 5)).drew (.slice (some ⟨wr.heap.size, 0, none⟩) 0 0) []) := own_empty wr
    have HX1 := Lib.hid (hX.below HB1.out)
    have HPP := Lib.hid hP
    have hcv0 : (convert 36 9 (.slice P p.length cp)).run Try.prog wr.drew = .ok (.string (bstr p)) wr.drew := (hP.drewN 1).conv p.length rfl
    have hcv1 := (hP.below HB1.out).conv p.length rfl
    have HST : Hid (∀ W : World, Calls Try.prog 63 #[.string (bstr p)] W (Gives W.heap.size (encS p) W)) := fun W => rstr_any (bstr p) (by rw [bstr_size]; omega) W
    clear hcont hb1 hX hP
    go_enter Try.func43, Try.ntmps43
    go_wp2_with fail
    go_cut [11] (fun v wx => Hid (Own wr.heap.size wx v (b' ++ encS p) ∧ Below wr.heap.size wr wx))
    case first =>
      go_region_law ((first
        | (have _ := HO2; refine st_of rfl (app_wp (.tmp 20) (.tmp 23) rfl wr.heap.size _ b' HO2.out rfl A2 (encS p) _ c2 rfl rfl HBS2.out (by have := HEL.out; omega) HB2.out.size ?_); intro v3 w3 ho3 hb3; have HO3 := Lib.hid ho3; have HB3 := Lib.hid (HB2.out.trans hb3); clear ho3 hb3)
        | (refine st_of rfl (app_wp (.tmp 18) (.tmp 19) rfl wr.heap.size _ [] HOE.out rfl X b' _ cx rfl rfl HX1.out (by simp; omega) HB1.out.size ?_); intro v1 w1 ho1 hb1; rw [List.nil_append] at ho1; have HO1 := Lib.hid ho1; have HB1' := Lib.hid (HB1.out.trans hb1); have hcv2 := (HPP.out.below HB1'.out).conv p.length rfl; clear ho1 hb1)
        | (go_simp; go_at_call 63; refine (HST.out _).mono ?_; rintro e w2 ⟨v2, rfl, ho2, hb2⟩; obtain ⟨A2, c2, rfl, hbs2, _⟩ := ho2.open; have HO2 := Lib.hid (HO1.out.below hb2); have HBS2 := Lib.hid hbs2; have HB2 := Lib.hid (HB1'.out.trans (hb2.mono HB1'.out.size)); clear ho2 hb2 hbs2)))
      all_goals
        go_wp2_with fail
        go_meet
        exact ⟨HO3.out, HB3.out⟩
    case rest =>
      obtain ⟨ho, hbw⟩ := hcut.out
      obtain ⟨x, hx⟩ : ∃ x, b' ++ encS p = x := ⟨_, rfl⟩
      have HXX := Lib.hid hx
      have hxl : x.length = b'.length + (encS p).length := by rw [← hx, List.length_append]
      have HXL := Lib.hid hxl
      rw [hx] at ho
      obtain ⟨g, cg, rfl, hg1, hg2, hcls⟩ := own_at ho (by omega)
      have HEP := Lib.hid hep
      clear hcls
      have HOX := Lib.hid ho
      have HBX := Lib.hid (own_bs ho)
      have HBW := Lib.hid hbw
      have hcl := lt c rc
      have hszw := hbw.size
      have HPC := Lib.hid (h1.below hbw)
      have HRL := Lib.hid (h5.below hbw)
      have HLT := Lib.hid lt
      have HFR := Lib.hid fR
      have HG2 := Lib.hid h2
      have HG3 := Lib.hid h3
      have HB6 := Lib.hid h6
      have HB7 := Lib.hid h7
      have HBB := Lib.hid hb
      clear lt fR h1 h2 h3 h5 h6 h7 hb
      clear hcut ho hbw q0 q1 q2 q3 q4 q5 q6 qf hx hcv0 hcv1 HST HX1 HPP HOE HB1
      obtain ⟨q0, q1, q2, q3, q4, q5, q6, qf⟩ := HRL.out.cells
      simp only at q1 q2 q3
      have v9 : (bk s.now : Int) * 64 ≤ 6400 := by omega
      have hwr : IntKind.i64.wrap ((bk s.now : Int) * 64) = (bk s.now : Int) * 64 := IntWalk.i64_in _ (by omega)
      by_cases hf : bk s.now * 64 < x.length ∨ 1099511627776 ≤ na
      · have HF : Hid (nxOk s ⟨na, ka, b'.length⟩ (encS p) = false) := by
          simp only [Hid]
          unfold nxOk hvB
          exact decide_eq_false (by simp only; omega)
        have HP1 := HPO.out
        have e1 : apE s ⟨⟨na, k0, z0⟩, cnt, false⟩ ⟨na, ka, b'.length⟩ (encS p) = 3 := by simp [apE, HF.out]
        have e2 : apS s ⟨⟨na, k0, z0⟩, cnt, false⟩ ⟨na, ka, b'.length⟩ (encS p) = s := by simp [apS, HF.out]
        have e3 : apL s ⟨⟨na, k0, z0⟩, cnt, false⟩ ⟨na, ka, b'.length⟩ c0 (encS p) = ⟨⟨na, k0, z0⟩, cnt, false⟩ := by simp [apL, HF.out]
        rw [e1, e2, e3, if_neg (by decide)] at HPO
        clear e1 e2 e3 HP1
        rcases (show (bk s.now : Int) * 64 < (x.length : Int) ∨ ((x.length : Int) ≤ (bk s.now : Int) * 64 ∧ (1099511627776 : Int) ≤ (na : Int)) by omega) with hf1 | ⟨hf1, hf2⟩
        all_goals
          clear hf hxl
          go_wp2_with fail
          refine (sectors_any HPC.out h4).mono ?_
          rintro e w' ⟨rfl, rfl⟩
          go_wp2
          rw [← HPO.out]
          exact rlays_same H.out HBW.out 3
      · have hf1 : (x.length : Int) ≤ (bk s.now : Int) * 64 := by omega
        have hf2 : (na : Int) < 1099511627776 := by omega
        have HXB : Hid (x.length ≤ bk s.now * 64) := by simp only [Hid]; omega
        have HOKK : Hid (nxOk s ⟨na, ka, b'.length⟩ (encS p) = true) := by
          simp only [Hid]
          unfold nxOk hvB
          exact decide_eq_true (by simp only; omega)
        have HN1 := Lib.hid hn1
        have HF2 := Lib.hid hf2
        obtain ⟨N, hN⟩ : ∃ N : Int, (na : Int) = N := ⟨_, rfl⟩
        have hf3 : N < 1099511627776 := by omega
        have hA : decide ((bk s.now : Int) * 64 < (x.length : Int)) = false := decide_eq_false (by omega)
        have hB : decide ((1099511627776 : Int) ≤ N) = false := decide_eq_false (by omega)
        have hwN : IntKind.i64.wrap (N + 1) = N + 1 := IntWalk.i64_in _ (by omega)
        have HF3 := Lib.hid hf3
        have HF4 : Hid (0 ≤ N) := by simp only [Hid]; omega
        clear hf1 hf3
        rw [hN] at q1
        have HNN := Lib.hid hN
        have hin := fst_bd h4 hk
        have HEE : Hid (apE s ⟨⟨na, k0, z0⟩, cnt, false⟩ ⟨na, ka, b'.length⟩ (encS p) = saveE s (fst s.now ka + b'.length / 64) (x.drop (b'.length / 64 * 64)) ⟨na + 1, ka, x.length⟩ ∧ apS s ⟨⟨na, k0, z0⟩, cnt, false⟩ ⟨na, ka, b'.length⟩ (encS p) = saveS s (fst s.now ka + b'.length / 64) (x.drop (b'.length / 64 * 64)) ⟨na + 1, ka, x.length⟩ ∧
            apL s ⟨⟨na, k0, z0⟩, cnt, false⟩ ⟨na, ka, b'.length⟩ c0 (encS p) = if saveE s (fst s.now ka + b'.length / 64) (x.drop (b'.length / 64 * 64)) ⟨na + 1, ka, x.length⟩ = 0 then ⟨⟨na + 1, ka, x.length⟩, c0 + 1, false⟩ else ⟨⟨na, k0, z0⟩, cnt, true⟩) := by
          simp only [Hid]
          have hsec : (s.now.getD (pI s ⟨na, ka, b'.length⟩) []).length = 64 := sec_len HPC.out.ok (by unfold pI; simp only; omega)
          obtain ⟨hX, hI⟩ := pX_lX (s := s) (at' := ⟨na, ka, b'.length⟩) (e := encS p) HCO.out hsec
          have hnx : nx ⟨na, ka, b'.length⟩ (encS p) = ⟨na + 1, ka, x.length⟩ := by unfold nx; simp only; rw [hxl]
          have hX2 : pX s ⟨na, ka, b'.length⟩ (encS p) = x.drop (b'.length / 64 * 64) := by rw [hX, ← HXX.out]; rfl
          have hI2 : pI s ⟨na, ka, b'.length⟩ = fst s.now ka + b'.length / 64 := hI
          refine ⟨?_, ?_, ?_⟩
          · unfold apE
            rw [hX2, hI2, hnx, HOKK.out]
            simp
          · unfold apS
            rw [hX2, hI2, hnx, HOKK.out]
            simp
          · unfold apL
            rw [hX2, hI2, hnx, HOKK.out]
            simp
        have hb5 := (Below.refl wc.heap.size wc).alloc (Nat.le_refl _) (.cells #[.int .i64 (N + 1), .int .i64 (ka : Nat), .int .i64 (x.length : Nat)] 51)
        have HB5 : Hid (Below wr.heap.size wr (wc.alloc (.cells #[.int .i64 (N + 1), .int .i64 (ka : Nat), .int .i64 (x.length : Nat)] 51))) := HBW.out.trans (hb5.mono hszw)
        have HRL5 := Lib.hid (HRL.out.below hb5)
        have HBX5 := Lib.hid (HBX.out.below hb5)
        have HOB5 := Lib.hid (HB6.out.below HB5.out)
        have hz5 : (wc.alloc (.cells #[.int .i64 (N + 1), .int .i64 (ka : Nat), .int .i64 (x.length : Nat)] 51)).heap.size = wc.heap.size + 1 := by simp
        have Y5 : Hid ((wc.alloc (.cells #[.int .i64 (N + 1), .int .i64 (ka : Nat), .int .i64 (x.length : Nat)] 51)).heap[wc.heap.size]? = some (.cells #[.int .i64 (N + 1), .int .i64 (ka : Nat), .int .i64 (x.length : Nat)] 51 (0, 0))) := heap_alloc_new wc _
        have HGl : Hid (∀ k, G k → k < wr.heap.size) := fun k hk => HLT.out k (HG2.out k hk)
        have hNV : hV ⟨na + 1, ka, x.length⟩ = .agg #[.int .i64 (N + 1), .int .i64 (ka : Nat), .int .i64 (x.length : Nat)] := by
          unfold hV hdV
          simp only
          rw [show ((na + 1 : Nat) : Int) = N + 1 by omega]
        have HPUT := Lib.hid (rput_any (HPC.out.below hb5) HRL5.out.cells.1 HG3.out (some ⟨g, 0, none⟩) x cg HBX5.out (fun ad e => .inr (by injection e with e; subst e; intro hg; have := HGl.out _ hg; simp only at this; omega)) b'.length (by omega) h4 (by omega) hp ⟨na + 1, ka, x.length⟩ (by simp only; omega) hk (by simp only; omega))
        simp only at HPUT
        rw [hNV] at HPUT
        rw [HEE.out.1, HEE.out.2.1, HEE.out.2.2] at HPO
        generalize saveE s (fst s.now ka + b'.length / 64) (x.drop (b'.length / 64 * 64)) ⟨na + 1, ka, x.length⟩ = E at *
        generalize saveS s (fst s.now ka + b'.length / 64) (x.drop (b'.length / 64 * 64)) ⟨na + 1, ka, x.length⟩ = S' at *
        clear HEE hb5 hNV hin hxl
        clear hf hn1 hf2 hN hel hep
        go_wp2_with fail
        refine (sectors_any HPC.out h4).mono ?_
        rintro e w' ⟨rfl, rfl⟩
        go_wp2_with fail
        refine HPUT.out.mono ?_
        rintro e w6 hd6
        have HD6 := Lib.hid hd6.2
        obtain ⟨rfl, _, hc6⟩ := hd6
        have HRL6 := Lib.hid (HRL5.out.chg hc6 HG3.out)
        have HBX6 := Lib.hid (chg_bs hc6 HBX5.out (fun ad e => .inr (by injection e with e; subst e; intro hg; have := HGl.out _ hg; simp only at this; omega)))
        have HOB6 := Lib.hid (chg_bs hc6 HOB5.out (fun ad e => by rcases HB7.out ad e with h | h; exact .inl h; exact .inr h.2.1))
        have y6 := (hc6.block wc.heap.size (by omega) (fun hg => by have := HGl.out _ hg; omega)).trans Y5.out
        have y60 : w6.cell? ⟨wc.heap.size, 0, none⟩ = some (.int .i64 (N + 1)) := (cell_of_row _ _ 0 _ _ _ y6).trans rfl
        have y61 : w6.cell? ⟨wc.heap.size, 1, none⟩ = some (.int .i64 (ka : Nat)) := (cell_of_row _ _ 1 _ _ _ y6).trans rfl
        have y62 : w6.cell? ⟨wc.heap.size, 2, none⟩ = some (.int .i64 (x.length : Nat)) := (cell_of_row _ _ 2 _ _ _ y6).trans rfl
        clear q0 q1 q2 q3 q4 q5 q6 qf hc6 y6 HPUT
        obtain ⟨q0, q1, q2, q3, q4, q5, q6, qf⟩ := HRL6.out.cells
        by_cases hE : E = 0
        · subst hE
          rw [if_pos rfl, if_pos rfl, HXX.out] at HPO
          go_wp2
          rw [← HPO.out, show N + 1 = ((na + 1 : Nat) : Int) by have := HNN.out; omega, show (c0 : Int) + 1 = ((c0 + 1 : Nat) : Int) by omega]
          refine rlays_end rc HLT.out HFR.out HBB.out HG2.out HG3.out HB5.out HD6.out.1 HD6.out.2 ?_ (RLM.heads (h' := ⟨na + 1, ka, x.length⟩) (B' := some ⟨g, 0, none⟩) (bl' := x) (cb' := cg) (cnt' := c0 + 1) HRL6.out) HBX6.out (fun ad e => ?_) 0
          · exact only_trans (only_trans (only_trans (only_trans (grown_set _ _ _ _) (grown_set _ _ _ _)) (grown_set _ _ _ _)) (grown_set _ _ _ _)) (grown_set _ _ _ _)
          · injection e with e
            subst e
            refine .inr ⟨.inr hg1, by simp only; omega, fun hg => ?_, by simp only; omega⟩
            have := HGl.out _ hg
            simp only at this
            omega
        · have hq : (E != 0) = true := by simpa using hE
          rw [if_neg hE, if_neg hE] at HPO
          clear hE
          go_wp2
          rw [← HPO.out]
          refine rlays_end rc HLT.out HFR.out HBB.out HG2.out HG3.out HB5.out HD6.out.1 HD6.out.2 (grown_set w6 c 6 _) (RLM.dies HRL6.out) HOB6.out (fun ad e => ?_) E
          rcases HB7.out ad e with h | ⟨x1, x2, x3⟩
          · exact .inl h
          · exact .inr ⟨.inl x1, by have := HLT.out _ x1; omega, x2, x3⟩
end
section
open Go.ChangeShapes Go.WideShapes Go.ChangeAt Go.RowKit
open Lb (encI encIs encS In64 encI_len)
theorem RSys.drew {w wr : World} {R : Nat → Prop} {b c : Nat} {s : DS} {L : LG} {bl : List UInt8} (h : RSys w wr R b c s L bl) : RSys w wr.drew R b c s L bl := h.below (Below.refl _ _).drew
theorem RLays.of_drew {w wr : World} {R : Nat → Prop} {b c : Nat} {E : Int} {s' : DS} {L' : LG} {bl' : List UInt8} {e : Ending} {w' : World} (h : RLays w wr.drew R b c E s' L' bl' e w') : RLays w wr R b c E s' L' bl' e w' := by
  obtain ⟨h1, h2, h3⟩ := h
  exact ⟨h1, h2, ⟨h3.os, h3.tape, h3.output, h3.size, h3.block⟩⟩
theorem rappend_any {w wr : World} {R : Nat → Prop} {b c : Nat} {s : DS} {L : LG} {bl : List UInt8} (h : RSys w wr R b c s L bl) (hk : L.h.k ≤ 1) (hn1 : L.h.n ≤ 1099511627776) (hz : L.h.z = bl.length) (hz1 : bl.length ≤ 10000) (hcont : L.dead = false → cont s.now L.h = bl)
    (P : Option Addr) (p : List UInt8) (cp : Nat) (hP : BS wr P p cp) (hpl : p.length ≤ 10000) (hc0 : L.cnt ≤ 100000) (h4 : 4 ≤ s.now.length) (hp : s.pend.length ≤ 800) :
    Calls Try.prog 16 #[.pointer (some ⟨c, 0, none⟩), .slice P p.length cp] wr
      (RLays w wr R b c (apE s L L.h (encS p)) (apS s L L.h (encS p)) (apL s L L.h L.cnt (encS p)) (if apE s L L.h (encS p) = 0 then bl ++ encS p else bl)) := by
  obtain ⟨G, B, cb, h1, h2, h3, h5, h6, h7⟩ := h.lays
  obtain ⟨q0, q1, q2, q3, q4, q5, q6, qf⟩ := h5.cells
  have HLA := Lib.hid (rlay_any h.drew B bl cb (h6.drewN 1) L.h hk rfl hn1 hz hz1 hcont P p cp (hP.drewN 1) hpl L.cnt hc0 h4 hp)
  obtain ⟨post, hpo⟩ : ∃ post, RLays w wr R b c (apE s L L.h (encS p)) (apS s L L.h (encS p)) (apL s L L.h L.cnt (encS p)) (if apE s L L.h (encS p) = 0 then bl ++ encS p else bl) = post := ⟨_, rfl⟩
  rw [hpo]
  have HPO : Hid (∀ e w', RLays w wr.drew R b c (apE s L L.h (encS p)) (apS s L L.h (encS p)) (apL s L L.h L.cnt (encS p)) (if apE s L L.h (encS p) = 0 then bl ++ encS p else bl) e w' → post e w' ∧ e = .returned (.int .i64 (apE s L L.h (encS p)))) := fun e w' hh => by rw [← hpo]; exact ⟨hh.of_drew, hh.1⟩
  have hce : ((L.cnt + 1 : Nat) : Int) = (L.cnt : Int) + 1 := by omega
  rw [hce] at HLA
  generalize RLays w wr.drew R b c (apE s L L.h (encS p)) (apS s L L.h (encS p)) (apL s L L.h L.cnt (encS p)) (if apE s L L.h (encS p) = 0 then bl ++ encS p else bl) = po2 at *
  clear h h1 h2 h3 h5 h6 h7 hcont hP hpo hce
  generalize apE s L L.h (encS p) = E at *
  have hw : IntKind.i64.wrap ((L.cnt : Int) + 1) = (L.cnt : Int) + 1 := IntWalk.i64_in _ (by omega)
  go_enter Try.func16, Try.ntmps16
  go_wp2_with fail
  go_still_tail 16, (by kernel_rfl)
  change wpList _ _ _ _ _ wr.drew
  go_wp2_with fail
  refine HLA.out.mono ?_
  rintro er w1 hla
  obtain ⟨hq, rfl⟩ := HPO.out _ _ hla
  have HQ := Lib.hid hq
  clear hq hla HLA
  go_wp2
  exact HQ.out
theorem rreset_any {w wr : World} {R : Nat → Prop} {b c : Nat} {s : DS} {L : LG} {bl : List UInt8} (h : RSys w wr R b c s L bl) (hk : L.h.k ≤ 1) (hn1 : L.h.n ≤ 1099511627776)
    (P : Option Addr) (p : List UInt8) (cp : Nat) (hP : BS wr P p cp) (hpl : p.length ≤ 10000) (h4 : 4 ≤ s.now.length) (hp : s.pend.length ≤ 800) :
    Calls Try.prog 18 #[.pointer (some ⟨c, 0, none⟩), .slice P p.length cp] wr
      (RLays w wr R b c (apE s L (oth L.h) (encS p)) (apS s L (oth L.h) (encS p)) (apL s L (oth L.h) 0 (encS p)) (if apE s L (oth L.h) (encS p) = 0 then [] ++ encS p else bl)) := by
  obtain ⟨G, B, cb, h1, h2, h3, h5, h6, h7⟩ := h.lays
  obtain ⟨q0, q1, q2, q3, q4, q5, q6, qf⟩ := h5.cells
  have HLA := Lib.hid (rlay_any h none [] 0 (bs_nil _) (oth L.h) (by simp only [oth]; omega) rfl hn1 rfl (by simp) (fun _ => rfl) P p cp hP hpl 0 (by omega) h4 hp)
  obtain ⟨post, hpo⟩ : ∃ post, RLays w wr R b c (apE s L (oth L.h) (encS p)) (apS s L (oth L.h) (encS p)) (apL s L (oth L.h) 0 (encS p)) (if apE s L (oth L.h) (encS p) = 0 then [] ++ encS p else bl) = post := ⟨_, rfl⟩
  have HPO : Hid (∀ e w', RLays w wr R b c (apE s L (oth L.h) (encS p)) (apS s L (oth L.h) (encS p)) (apL s L (oth L.h) 0 (encS p)) (if apE s L (oth L.h) (encS p) = 0 then [] ++ encS p else bl) e w' → post e w' ∧ e = .returned (.int .i64 (apE s L (oth L.h) (encS p)))) := fun e w' hh => by rw [← hpo]; exact ⟨hh, hh.1⟩
  rw [hpo] at HLA HPO
  rw [hpo]
  have hce : ((0 + 1 : Nat) : Int) = 1 := by omega
  have hke : (((oth L.h).k : Nat) : Int) = 1 - (L.h.k : Int) := by simp only [oth]; omega
  rw [hce, hke] at HLA
  simp only [List.length_nil] at HLA
  clear h h1 h2 h3 h5 h6 h7 hP hpo hce hke
  generalize apE s L (oth L.h) (encS p) = E at *
  have hw : IntKind.i64.wrap (1 - (L.h.k : Int)) = 1 - (L.h.k : Int) := IntWalk.i64_in _ (by omega)
  go_enter Try.func18, Try.ntmps18
  go_wp2_with fail
  refine HLA.out.mono ?_
  rintro er w1 hla
  obtain ⟨hq, rfl⟩ := HPO.out _ _ hla
  have HQ := Lib.hid hq
  clear hq hla HLA
  go_wp2
  exact HQ.out
end
end Go.Proofs.Ytembonenaoineaa
