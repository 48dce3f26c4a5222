/- The nodes' depth, measure and lean; the order of two entries. Conditions: the nodes lie in memory, depths are small, words of float64 are below 2^64. -/
import Derived.Test.YtmbbmgkbhfnchaaXb
import Derived.Test.YtmbbmgkbhfnchaaVw
namespace Go.Proofs.Ytmbbmgkbhfnchaa
set_option maxRecDepth 100000
set_option linter.unusedVariables false
open Go.ChangeShapes Go.WideShapes Go.ChangeAt Go.RowKit
open Fl (S)
open Val (V cmpV cmpI isB)
section
variable {F G : Nat → Prop} {w w' : World} {b : Nat} {x : En} {l r p : Option Nat} {d dl dr : Nat}
theorem depth_any (h : DP w p d) : Calls Try.prog 31 #[po p] w fun e w' => e = .returned (.int .i64 (d : Nat)) ∧ w = w' := by
  cases p with
  | none =>
    have hd : d = 0 := h
    subst hd
    clear h
    rw [po_none]
    go_enter Try.func31, Try.ntmps31
    go_wp2
    go_ret
    exact ⟨rfl, rfl⟩
  | some b =>
    obtain ⟨x, l, r, h⟩ := h
    obtain ⟨_, _, _, _, _, _, _, _, k8, kf⟩ := h.cells
    clear h
    rw [po_some]
    go_enter Try.func31, Try.ntmps31
    go_wp2
    go_ret
    exact ⟨rfl, rfl⟩
theorem DP.drewN (h : DP w p d) (n : Nat) : DP (w.drewN n) p d := by
  cases p with
  | none => exact h
  | some b => obtain ⟨x, l, r, h⟩ := h; exact ⟨x, l, r, h⟩
theorem lean_any (h : NA w b x l r d) (hl : DP w l dl) (hr : DP w r dr) (h1 : dl ≤ 1000000) (h2 : dr ≤ 1000000) : Calls Try.prog 47 #[pt b] w fun e w' => e = .returned (.int .i64 ((dr : Int) - (dl : Int))) ∧ ∃ n, w' = w.drewN n := by
  obtain ⟨_, _, _, _, _, _, k6, k7, _, kf⟩ := h.cells
  have HL := Lib.hid hl
  have HR := Lib.hid hr
  clear h hl hr
  go_enter Try.func47, Try.ntmps47
  go_wp2_with fail
  go_quiet ((first | (go_at_call 31; with_reducible exact quiet_eq (depth_any (HR.out.drewN _))) | (go_at_call 31; with_reducible exact quiet_eq (depth_any (HL.out.drewN _)))))
  go_wp2
  go_ret
  exact ⟨rfl, _, rfl⟩
theorem depth_still (h : DP w p d) : Calls Try.prog 31 #[po p] w.drew fun e w' => e = .returned (.int .i64 (d : Nat)) ∧ w' = w.drew := (depth_any (w := w.drew) (h.drewN 1)).mono fun e w' ⟨h1, h2⟩ => ⟨h1, h2.symm⟩
theorem maxI (h1 : dl ≤ 1000000) (h2 : dr ≤ 1000000) : IntKind.i64.wrap (1 + if dl < dr then (dr : Int) else (dl : Int)) = ((max dl dr + 1 : Nat) : Int) := by
  have e : (1 + if dl < dr then (dr : Int) else (dl : Int)) = ((max dl dr + 1 : Nat) : Int) := by split <;> omega
  rw [e]
  exact wrapI (by omega)
theorem measure_any (h : NA w b x l r d) (hl : DP w l dl) (hr : DP w r dr) (h1 : dl ≤ 1000000) (h2 : dr ≤ 1000000) : Calls Try.prog 50 #[pt b] w fun e w' => e = .returned (.tuple #[]) ∧ NA w' b x l r (max dl dr + 1) ∧ Chg (fun k => k = b) w w' := by
  have HN := Lib.hid h
  obtain ⟨_, _, _, _, _, _, k6, k7, _, kf⟩ := h.cells
  have HL := Lib.hid hl
  have HR := Lib.hid hr
  clear h hl hr
  go_enter Try.func50, Try.ntmps50
  go_upto_region 0 with fail
  go_still_tail 15, (by kernel_rfl)
  still_call (depth_still HL.out)
  repeat still_step
  still_call (depth_still HR.out)
  repeat still_step
  refine wpStill_nil ?_
  rw [maxI h1 h2]
  generalize (if dl < dr then (dr : Int) else (dl : Int)) = q
  change wpList _ _ _ _ _ w.drew
  go_wp2
  refine bodyPost_end (results_none rfl _ _ _) rfl ?_
  have hd : NA w.drew b x l r d := HN.out
  exact ⟨rfl, hd.setD _, (chg_set (F := fun k => k = b) (Chg.refl _ w) rfl _ _).drew⟩
theorem apart2 {q : Option Nat} {a c : Nat} (h : q ≠ some a ∧ q ≠ some c) : ∀ k, q = some k → ¬ (k = a ∨ k = c) := fun k e1 e2 => by
  subst e1
  rcases e2 with rfl | rfl
  · exact h.1 rfl
  · exact h.2 rfl
/-- The node on the right of b is put above b. -/
theorem turnLeft_any {c : Nat} {y : En} {m : Option Nat} {e dm : Nat} (hb : NA w b x l (some c) d) (hc : NA w c y m r e) (hne : b ≠ c) (hl : DP w l dl) (hm : DP w m dm) (hr : DP w r dr) (nl : l ≠ some b ∧ l ≠ some c) (nm : m ≠ some b ∧ m ≠ some c) (nr : r ≠ some b ∧ r ≠ some c) (h1 : dl ≤ 900000) (h2 : dm ≤ 900000) (h3 : dr ≤ 900000) :
    Calls Try.prog 49 #[pt b] w fun e w' => e = .returned (pt c) ∧ NA w' b x l m (max dl dm + 1) ∧ NA w' c y (some b) r (max (max dl dm + 1) dr + 1) ∧ Chg (fun k => k = b ∨ k = c) w w' := by
  obtain ⟨W2, hW⟩ : ∃ W2, W2 = ((w.setCell ⟨b, 7, none⟩ (po m)).setCell ⟨c, 6, none⟩ (pt b)) := ⟨_, rfl⟩
  have HB2 := Lib.hid (show NA W2 b x l m d from by subst hW; exact ((hb.setR m).set hne 6 (pt b)))
  have HC2' := Lib.hid (show NA W2 c y (some b) r e from by subst hW; exact ((hc.set hne.symm 7 (po m)).setL (some b)))
  have HC2 := Lib.hid (show Chg (fun k => k = b ∨ k = c) w W2 from by subst hW; exact chg_set (chg_set (Chg.refl _ w) (.inl rfl) _ _) (.inr rfl) _ _)
  have HN : Hid (b ≠ c) := hne
  have HL := Lib.hid hl
  have HM := Lib.hid hm
  have HR := Lib.hid hr
  have NL := Lib.hid nl
  have NM := Lib.hid nm
  have NR := Lib.hid nr
  obtain ⟨_, _, _, _, _, _, b6, b7, _, bf⟩ := hb.cells
  obtain ⟨_, _, _, _, _, _, c6, c7, _, cf⟩ := hc.cells
  rw [po_some] at b7
  clear hb hc hne hl hm hr nl nm nr
  go_enter Try.func49, Try.ntmps49
  go_wp2_with fail
  rw [← hW]
  clear hW b6 b7 bf c6 c7 cf
  refine (measure_any HB2.out (HL.out.chg HC2.out (apart2 NL.out)) (HM.out.chg HC2.out (apart2 NM.out)) (by omega) (by omega)).mono ?_
  rintro e1 w3 ⟨rfl, hb3, hch⟩
  have HB3 := Lib.hid hb3
  have HC3 := Lib.hid (HC2'.out.chg hch (fun e => HN.out e.symm))
  have HR3 := Lib.hid ((HR.out.chg HC2.out (apart2 NR.out)).chg hch (fun k e1 e2 => NR.out.1 (by rw [e1, e2])))
  have HH := Lib.hid hch
  clear hb3 hch
  go_wp2_with fail
  refine (measure_any (HC3.out) (HB3.out.dp) (HR3.out) (by omega) (by omega)).mono ?_
  rintro e2 w4 ⟨rfl, hc4, hch⟩
  have HC4 := Lib.hid hc4
  have HB4 := Lib.hid (HB3.out.chg hch HN.out)
  have HH4 := Lib.hid hch
  clear hc4 hch
  go_wp2
  go_ret
  exact ⟨rfl, HB4.out, HC4.out, (HC2.out.then (HH.out.weak fun k e => .inl e)).then (HH4.out.weak fun k e => .inr e)⟩
/-- The node on the left of b is put above b. -/
theorem turnRight_any {c : Nat} {y : En} {m : Option Nat} {e dm : Nat} (hb : NA w b x (some c) r d) (hc : NA w c y l m e) (hne : b ≠ c) (hl : DP w l dl) (hm : DP w m dm) (hr : DP w r dr) (nl : l ≠ some b ∧ l ≠ some c) (nm : m ≠ some b ∧ m ≠ some c) (nr : r ≠ some b ∧ r ≠ some c) (h1 : dl ≤ 900000) (h2 : dm ≤ 900000) (h3 : dr ≤ 900000) :
    Calls Try.prog 48 #[pt b] w fun e w' => e = .returned (pt c) ∧ NA w' b x m r (max dm dr + 1) ∧ NA w' c y l (some b) (max dl (max dm dr + 1) + 1) ∧ Chg (fun k => k = b ∨ k = c) w w' := by
  obtain ⟨W2, hW⟩ : ∃ W2, W2 = ((w.setCell ⟨b, 6, none⟩ (po m)).setCell ⟨c, 7, none⟩ (pt b)) := ⟨_, rfl⟩
  have HB2 := Lib.hid (show NA W2 b x m r d from by subst hW; exact ((hb.setL m).set hne 7 (pt b)))
  have HC2' := Lib.hid (show NA W2 c y l (some b) e from by subst hW; exact ((hc.set hne.symm 6 (po m)).setR (some b)))
  have HC2 := Lib.hid (show Chg (fun k => k = b ∨ k = c) w W2 from by subst hW; exact chg_set (chg_set (Chg.refl _ w) (.inl rfl) _ _) (.inr rfl) _ _)
  have HN : Hid (b ≠ c) := hne
  have HL := Lib.hid hl
  have HM := Lib.hid hm
  have HR := Lib.hid hr
  have NL := Lib.hid nl
  have NM := Lib.hid nm
  have NR := Lib.hid nr
  obtain ⟨_, _, _, _, _, _, b6, b7, _, bf⟩ := hb.cells
  obtain ⟨_, _, _, _, _, _, c6, c7, _, cf⟩ := hc.cells
  rw [po_some] at b6
  clear hb hc hne hl hm hr nl nm nr
  go_enter Try.func48, Try.ntmps48
  go_wp2_with fail
  rw [← hW]
  clear hW b6 b7 bf c6 c7 cf
  refine (measure_any HB2.out (HM.out.chg HC2.out (apart2 NM.out)) (HR.out.chg HC2.out (apart2 NR.out)) (by omega) (by omega)).mono ?_
  rintro e1 w3 ⟨rfl, hb3, hch⟩
  have HB3 := Lib.hid hb3
  have HC3 := Lib.hid (HC2'.out.chg hch (fun e => HN.out e.symm))
  have HL3 := Lib.hid ((HL.out.chg HC2.out (apart2 NL.out)).chg hch (fun k e1 e2 => NL.out.1 (by rw [e1, e2])))
  have HH := Lib.hid hch
  clear hb3 hch
  go_wp2_with fail
  refine (measure_any (HC3.out) (HL3.out) (HB3.out.dp) (by omega) (by omega)).mono ?_
  rintro e2 w4 ⟨rfl, hc4, hch⟩
  have HC4 := Lib.hid hc4
  have HB4 := Lib.hid (HB3.out.chg hch HN.out)
  have HH4 := Lib.hid hch
  clear hc4 hch
  go_wp2
  go_ret
  exact ⟨rfl, HB4.out, HC4.out, (HC2.out.then (HH.out.weak fun k e => .inl e)).then (HH4.out.weak fun k e => .inr e)⟩
end
end Go.Proofs.Ytmbbmgkbhfnchaa
