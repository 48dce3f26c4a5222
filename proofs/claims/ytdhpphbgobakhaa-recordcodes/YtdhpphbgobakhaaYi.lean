/- Rows of writes of chapter 10 in memory; the reference's May. Conditions: the rows lie in memory, fewer than 1,000,000 writes; strings are of a length that Go allows. -/
import Derived.Test.YtdhpphbgobakhaaYh
namespace Go.Proofs.Ytdhpphbgobakhaa
set_option maxRecDepth 100000
set_option linter.unusedVariables false
open Go.ChangeShapes Go.WideShapes Go.ChangeAt Go.RowKit
open Fl (S cmpK keyN)
open Val (V cmpV isB ltT)
structure WAt (w : World) (p : Addr) (x : Wr) (s : Ns) : Prop where
  c0 : w.cell? p = some (.bool x.e)
  c1 : w.cell? ⟨p.block, p.off + 1, none⟩ = some (.int .i64 x.id)
  c2 : w.cell? ⟨p.block, p.off + 2, none⟩ = some (.bool x.gone)
  c3 : w.cell? ⟨p.block, p.off + 3, none⟩ = some (.slice s.la x.n.ls.length s.lc)
  c4 : w.cell? ⟨p.block, p.off + 4, none⟩ = some (.slice s.pa x.n.ps.length s.pc)
  c5 : w.cell? ⟨p.block, p.off + 5, none⟩ = some (.int .i64 x.g.a)
  c6 : w.cell? ⟨p.block, p.off + 6, none⟩ = some (.int .i64 x.g.b)
  c7 : w.cell? ⟨p.block, p.off + 7, none⟩ = some (.string x.g.t)
  c8 : w.cell? ⟨p.block, p.off + 8, none⟩ = some (.float .f64 x.g.w)
theorem WAt.below {w w' : World} {p : Addr} {x : Wr} {s : Ns} (h : WAt w p x s) (hb : Below w.heap.size w w') : WAt w' p x s :=
  ⟨(hb.cell (World.block_lt_of_cell? w _ h.c0)).trans h.c0, (hb.cell (World.block_lt_of_cell? w _ h.c1)).trans h.c1, (hb.cell (World.block_lt_of_cell? w _ h.c2)).trans h.c2, (hb.cell (World.block_lt_of_cell? w _ h.c3)).trans h.c3, (hb.cell (World.block_lt_of_cell? w _ h.c4)).trans h.c4, (hb.cell (World.block_lt_of_cell? w _ h.c5)).trans h.c5, (hb.cell (World.block_lt_of_cell? w _ h.c6)).trans h.c6, (hb.cell (World.block_lt_of_cell? w _ h.c7)).trans h.c7, (hb.cell (World.block_lt_of_cell? w _ h.c8)).trans h.c8⟩
/-- The writes behind A are l (each with its rows). -/
def WRow (w : World) (A : Option Addr) (l : List (Wr × Ns)) : Prop := ∀ k (h : k < l.length), ∃ ad pk, A = some ad ∧ ad.add (k * 9) = pk ∧ WAt w pk l[k].1 l[k].2 ∧ NdAt w l[k].1.n l[k].2
theorem WRow.below {w w' : World} {A : Option Addr} {l : List (Wr × Ns)} (h : WRow w A l) (hb : Below w.heap.size w w') : WRow w' A l := fun k hk => by
  obtain ⟨ad, pk, h1, h2, h3, h4⟩ := h k hk
  exact ⟨ad, pk, h1, h2, h3.below hb, h4.below hb⟩
structure WOk (x : Wr) : Prop where
  n : NdOk x.n
  t : x.g.t.size ≤ maxLen
def wd : Wr := ⟨false, 0, false, ⟨[], []⟩, ⟨0, 0, ⟨#[]⟩, 0⟩⟩
/-- Are writes i and k of one element? -/
def twinB (l : List Wr) (i k : Nat) : Bool := ((l.getD k wd).e == (l.getD i wd).e) && ((l.getD k wd).id == (l.getD i wd).id)
def mayW (nn ne : Int) (l : List Wr) (i : Nat) : Bool := writeB nn ne (l.getD i wd) && (List.range i).all (fun k => !twinB l i k)
def mayB (nn ne : Int) (l : List Wr) : Bool := decide (0 ≤ nn) && decide (nn ≤ 24) && decide (0 ≤ ne) && decide (ne ≤ 32) && (List.range l.length).all (mayW nn ne l)
set_option maxHeartbeats 4000000 in
theorem rmay_any (nn ne : Int) (A : Option Addr) (c : Nat) (l : List (Wr × Ns)) (w : World) (h : WRow w A l) (ho : ∀ x, x ∈ l → WOk x.1) (hl : l.length ≤ 1000000) : Calls Try.prog 14 #[.int .i64 nn, .int .i64 ne, .slice A l.length c] w fun r w' => r = .returned (.bool (mayB nn ne (l.map (·.1)))) ∧ Below w.heap.size w w' := by
  have HD : Hid (mayB nn ne (l.map (·.1)) = (decide (0 ≤ nn) && decide (nn ≤ 24) && decide (0 ≤ ne) && decide (ne ≤ 32) && (List.range l.length).all (mayW nn ne (l.map (·.1))))) := by simp only [Hid]; unfold mayB; rw [List.length_map]
  have HR := Lib.hid h
  have HO := Lib.hid ho
  clear h ho
  by_cases h1 : 0 ≤ nn
  case neg =>
    have HE := Lib.hid (show mayB nn ne (l.map (·.1)) = false by rw [HD.out, decide_eq_false h1]; rfl)
    go_enter Try.func14, Try.ntmps14
    go_wp2
    go_ret
    exact ⟨ret_b HE.out.symm, Below.refl _ _⟩
  by_cases h2 : nn ≤ 24
  case neg =>
    have HE := Lib.hid (show mayB nn ne (l.map (·.1)) = false by rw [HD.out, decide_eq_false h2]; simp)
    go_enter Try.func14, Try.ntmps14
    go_wp2
    go_ret
    exact ⟨ret_b HE.out.symm, Below.refl _ _⟩
  by_cases h3 : 0 ≤ ne
  case neg =>
    have HE := Lib.hid (show mayB nn ne (l.map (·.1)) = false by rw [HD.out, decide_eq_false h3]; simp)
    go_enter Try.func14, Try.ntmps14
    go_wp2
    go_ret
    exact ⟨ret_b HE.out.symm, Below.refl _ _⟩
  by_cases h4 : ne ≤ 32
  case neg =>
    have HE := Lib.hid (show mayB nn ne (l.map (·.1)) = false by rw [HD.out, decide_eq_false h4]; simp)
    go_enter Try.func14, Try.ntmps14
    go_wp2
    go_ret
    exact ⟨ret_b HE.out.symm, Below.refl _ _⟩
  have HQ := Lib.hid (show mayB nn ne (l.map (·.1)) = (List.range l.length).all (mayW nn ne (l.map (·.1))) by rw [HD.out, decide_eq_true h1, decide_eq_true h2, decide_eq_true h3, decide_eq_true h4]; rfl)
  have HG := Lib.hid (fun k (hk : k < l.length) => show (l.map (·.1)).getD k wd = l[k].1 by rw [getD_at _ _ _ (by rw [List.length_map]; exact hk), List.getElem_map])
  go_enter Try.func14, Try.ntmps14
  go_wp2
  go_loopw [7] (fun i wr => ∃ k : Nat, k ≤ l.length ∧ i = .int .i64 (k : Nat) ∧ Hid (Below w.heap.size w wr) ∧ Hid ((List.range k).all (mayW nn ne (l.map (·.1))) = true)) (fun i _ => l.length - (intOf i).toNat)
  case atStart => exact ⟨0, Nat.zero_le _, rfl, Below.refl _ _, rfl⟩
  case round =>
    obtain ⟨k, hk, rfl, HB, HA⟩ := hrel
    by_cases hlt : k < l.length
    · obtain ⟨ad, pk, e1, hp, he, hn⟩ := (HR.out.below HB.out) k hlt
      subst e1
      have HUP := Lib.hid (all_up (mayW nn ne (l.map (·.1))) k)
      have HGK := Lib.hid (HG.out k hlt)
      have hok := HO.out _ (List.getElem_mem hlt)
      have HWR := Lib.hid (rwrite_any nn ne l[k].1 l[k].2 wr hok.t hn hok.n)
      have hi5 : IntKind.i64.wrap (k : Int) = (k : Int) := wrap_small (show k ≤ 9223372036854775807 by omega)
      have hi0 : (0 : Int) ≤ (k : Int) := by omega
      have HKA := Lib.hid he
      cases hwb : writeB nn ne l[k].1 with
      | false =>
        rw [hwb] at HWR
        have HE := Lib.hid (show mayB nn ne (l.map (·.1)) = false by rw [HQ.out, all_bad hlt (show mayW nn ne (l.map (·.1)) k = false by unfold mayW; rw [HGK.out, hwb]; rfl)])
        clear hwb hn hok HKA HUP HGK
        generalize l[k] = y at *
        obtain ⟨⟨ye, yid, yg, ⟨yls, yps⟩, ⟨ya, yb, yt, yw⟩⟩, ⟨yA, yc, yB, yc2⟩⟩ := y
        obtain ⟨c0, c1, c2, c3, c4, c5, c6, c7, c8⟩ := he
        simp only at c0 c1 c2 c3 c4 c5 c6 c7 c8 HWR
        go_wp2_with (go_at_call 42; (with_reducible refine (HWR.out).mono ?_); rintro e w1 ⟨rfl, hb⟩; have B1 := Lib.hid hb; clear hb)
        go_ret
        exact ⟨ret_b HE.out.symm, bnext HB.out B1.out⟩
      | true =>
        rw [hwb] at HWR
        have HU := Lib.hid (show (List.range k).all (fun q => !twinB (l.map (·.1)) k q) = true → (List.range (k + 1)).all (mayW nn ne (l.map (·.1))) = true from fun ht => by rw [HUP.out, HA.out]; unfold mayW; rw [HGK.out, hwb, ht]; rfl)
        have HV := Lib.hid (show ∀ q, q < k → twinB (l.map (·.1)) k q = true → mayB nn ne (l.map (·.1)) = false from fun q hq ht => by
          rw [HQ.out, all_bad hlt (show mayW nn ne (l.map (·.1)) k = false by unfold mayW; rw [all_bad hq (show (!twinB (l.map (·.1)) k q) = false by rw [ht]; rfl)]; simp)])
        have HTW := Lib.hid (show ∀ q (hq : q < l.length), twinB (l.map (·.1)) k q = ((l[q].1.e == l[k].1.e) && (l[q].1.id == l[k].1.id)) from fun q hq => by unfold twinB; rw [HGK.out, HG.out q hq])
        clear hwb hn hok HUP HGK HG HA
        generalize l[k] = y at *
        obtain ⟨⟨ye, yid, yg, ⟨yls, yps⟩, ⟨ya, yb, yt, yw⟩⟩, ⟨yA, yc, yB, yc2⟩⟩ := y
        obtain ⟨c0, c1, c2, c3, c4, c5, c6, c7, c8⟩ := he
        simp only at c0 c1 c2 c3 c4 c5 c6 c7 c8 HWR HTW HKA
        go_wp2_with (go_at_call 42; (with_reducible refine (HWR.out).mono ?_); rintro e w1 ⟨rfl, hb⟩; have B1 := Lib.hid hb; clear hb)
        have HB1 := Lib.hid (bnext HB.out B1.out)
        clear c0 c1 c2 c3 c4 c5 c6 c7 c8 HWR
        go_loopw [8] (fun i wx => ∃ m : Nat, m ≤ k ∧ i = .int .i64 (m : Nat) ∧ Hid (Below w1.heap.size w1 wx) ∧ Hid ((List.range m).all (fun q => !twinB (l.map (·.1)) k q) = true)) (fun i _ => k - (intOf i).toNat)
        case atStart => exact ⟨0, Nat.zero_le _, rfl, Below.refl _ _, rfl⟩
        case round =>
          obtain ⟨m, hm, rfl, HX, HT⟩ := hrel
          by_cases hmk : m < k
          · have hml : m < l.length := Nat.lt_trans hmk hlt
            obtain ⟨ad2, qk, e2, hq, hx, hxn⟩ := (HR.out.below (bnext HB1.out HX.out)) m hml
            injection e2 with e2
            subst e2
            have HM := Lib.hid (HTW.out m hml)
            have HAU := Lib.hid (all_up (fun q => !twinB (l.map (·.1)) k q) m)
            clear hxn
            obtain ⟨c0, c1, hcn⟩ := (HKA.out.below (bnext B1.out HX.out))
            clear hcn
            obtain ⟨d0, d1, hdn⟩ := hx
            clear hdn
            simp only at c0 c1
            have hj5 : IntKind.i64.wrap (m : Int) = (m : Int) := wrap_small (show m ≤ 9223372036854775807 by omega)
            have hj0 : (0 : Int) ≤ (m : Int) := by omega
            generalize l[m].1.e = xe at *
            generalize l[m].1.id = xid at *
            by_cases q1 : xe = ye
            · subst q1
              by_cases q2 : xid = yid
              · subst q2
                have HF := Lib.hid (HV.out m hmk (by rw [HM.out]; simp))
                cases xe
                all_goals
                  go_upto_region 11 with fail
                  go_quiet (fail)
                  clear hi5 hj5
                  go_wp2
                  go_ret
                  exact ⟨ret_b HF.out.symm, bnext HB1.out (below_drewN HX.out _)⟩
              · have q3 : (xid == yid) = false := by simpa using q2
                have HT2 := Lib.hid (show (List.range (m + 1)).all (fun q => !twinB (l.map (·.1)) k q) = true by rw [HAU.out, HT.out, HM.out, q3]; simp)
                clear q2
                cases xe
                all_goals
                  go_upto_region 11 with fail
                  go_quiet (fail)
                  clear hi5 hj5
                  go_wp2
                  exact ⟨⟨m + 1, by omega, by go_num, below_drewN HX.out _, HT2.out⟩, by simp [intOf]; omega⟩
            · have q3 : (xe == ye) = false := by simpa using q1
              have HT2 := Lib.hid (show (List.range (m + 1)).all (fun q => !twinB (l.map (·.1)) k q) = true by rw [HAU.out, HT.out, HM.out, q3]; simp)
              cases xe <;> cases ye <;> first | exact absurd rfl q1 | skip
              all_goals
                clear q1 q3
                go_upto_region 11 with fail
                go_quiet (fail)
                clear hi5 hj5
                go_wp2
                exact ⟨⟨m + 1, by omega, by go_num, below_drewN HX.out _, HT2.out⟩, by simp [intOf]; omega⟩
          · have hend : ¬ m < k := hmk
            have HU2 := Lib.hid (HU.out (by rw [← show m = k by omega]; have := HT.out; rw [show k = m by omega] at this; exact this))
            go_wp2
            exact ⟨⟨k + 1, by omega, by go_num, bnext HB1.out HX.out, HU2.out⟩, by simp [intOf]; omega⟩
    · have hend : ¬ k < l.length := hlt
      have HE := Lib.hid (show mayB nn ne (l.map (·.1)) = true by rw [HQ.out, ← show k = l.length by omega]; exact HA.out)
      go_wp2
      go_ret
      exact ⟨ret_b HE.out.symm, HB.out⟩
end Go.Proofs.Ytdhpphbgobakhaa
