/- What package value's Cmp, Same and In, and the reference's Cmp and In, return: contracts, each for every argument. Condition: words of float64 are below 2^64. -/
import Derived.Test.YtmbbmgkbhfnchaaVc
import Derived.Test.YtmbbmgkbhfnchaaKg
namespace Go.Proofs.Ytmbbmgkbhfnchaa
set_option maxRecDepth 100000
open Go.ChangeShapes Go.WideShapes Go.ChangeAt Go.RowKit
open Fl (S IR nanB normN keyN NaNw cmpK)
open Val (cmpI cmpB cmpT ltT eqT V cmpV)
/-- A value as the model holds it. -/
abbrev vv (x : V) : Value := .agg #[.int .i64 x.k, .bool x.b, .int .i64 x.n, .float .f64 x.f, .string x.t]
theorem two_boxes (w : World) (a b : Obj) : Below w.heap.size w ((w.alloc a).alloc b) := ((Below.refl _ _).alloc (Nat.le_refl _) _).alloc (by simp) _
theorem one_box (w : World) (a : Obj) : Below w.heap.size w (w.alloc a) := (Below.refl _ _).alloc (Nat.le_refl _) _
theorem cmpI_ne {a b : Int} (h : a ≠ b) : (cmpI a b != 0) = true := by
  unfold cmpI; split
  · rfl
  · rw [if_pos (by omega)]; rfl
set_option maxHeartbeats 400000 in
theorem vcmp_any (x y : V) (hx : x.f < 2 * S) (hy : y.f < 2 * S) (w : World) : Calls Try.prog 43 #[vv x, vv y] w fun e w' => e = .returned (.int .i64 (cmpV x y)) ∧ Below w.heap.size w w' := by
  obtain ⟨k, b, n, f, t⟩ := x
  obtain ⟨k2, b2, n2, f2, t2⟩ := y
  simp only at hx hy
  have Hx := Lib.hid hx
  have Hy := Lib.hid hy
  clear hx hy
  by_cases hk : k = k2
  · subst hk
    have hz : (cmpI k k != 0) = false := by rw [Val.cmpI_eq rfl]; rfl
    by_cases h1 : k = 1
    · subst h1
      go_enter Try.func43, Try.ntmps43
      go_wp2_with fail
      refine (compareI_any _ _ _).mono ?_
      rintro e w' ⟨rfl, rfl⟩
      go_wp2_with fail
      refine (compareB_any _ _ _).mono ?_
      rintro e w' ⟨rfl, rfl⟩
      go_wp2_with fail
      go_ret
      exact ⟨ret_i (by simp [cmpV]), two_boxes _ _ _⟩
    · by_cases h2 : k = 2
      · subst h2
        go_enter Try.func43, Try.ntmps43
        go_wp2_with fail
        refine (compareI_any _ _ _).mono ?_
        rintro e w' ⟨rfl, rfl⟩
        go_wp2_with fail
        refine (compareI_any _ _ _).mono ?_
        rintro e w' ⟨rfl, rfl⟩
        go_wp2_with fail
        go_ret
        exact ⟨ret_i (by simp [cmpV]), two_boxes _ _ _⟩
      · by_cases h3 : k = 3
        · subst h3
          go_enter Try.func43, Try.ntmps43
          go_wp2_with fail
          refine (compareI_any _ _ _).mono ?_
          rintro e w' ⟨rfl, rfl⟩
          go_wp2_with fail
          refine (cmp_any _ _ Hx.out Hy.out _).mono ?_
          rintro e w' ⟨rfl, rfl⟩
          go_wp2_with fail
          go_ret
          exact ⟨ret_i (by simp [cmpV]), two_boxes _ _ _⟩
        · by_cases h4 : k = 4
          · subst h4
            go_enter Try.func43, Try.ntmps43
            go_wp2_with fail
            refine (compareI_any _ _ _).mono ?_
            rintro e w' ⟨rfl, rfl⟩
            go_wp2_with fail
            refine (compareT_any _ _ _).mono ?_
            rintro e w' ⟨rfl, rfl⟩
            go_wp2_with fail
            go_ret
            exact ⟨ret_i (by simp [cmpV]), two_boxes _ _ _⟩
          · have e1 : (k == 1) = false := by simpa using h1
            have e2 : (k == 2) = false := by simpa using h2
            have e3 : (k == 3) = false := by simpa using h3
            have e4 : (k == 4) = false := by simpa using h4
            go_enter Try.func43, Try.ntmps43
            go_wp2_with fail
            refine (compareI_any _ _ _).mono ?_
            rintro e w' ⟨rfl, rfl⟩
            go_wp2_with fail
            go_ret
            exact ⟨ret_i (by simp [cmpV, h1, h2, h3, h4]), two_boxes _ _ _⟩
  · have hz := cmpI_ne hk
    have Hk := Lib.hid hk
    clear hk
    go_enter Try.func43, Try.ntmps43
    go_wp2_with fail
    refine (compareI_any _ _ _).mono ?_
    rintro e w' ⟨rfl, rfl⟩
    go_wp2_with fail
    go_ret
    exact ⟨ret_i (by simp [cmpV, Hk.out]), two_boxes _ _ _⟩
theorem three_boxes (w : World) (a b c : Obj) : Below w.heap.size w (((w.alloc a).alloc b).alloc c) := (((Below.refl _ _).alloc (Nat.le_refl _) _).alloc (by simp) _).alloc (by simp; omega) _
def inV (x y z : V) : Bool := decide (0 ≤ cmpV x y) && decide (cmpV x z ≤ 0)
set_option maxHeartbeats 400000 in
theorem rvcmp_any (x y : V) (hx : x.f < 2 * S) (hy : y.f < 2 * S) (w : World) : Calls Try.prog 45 #[vv x, vv y] w fun e w' => e = .returned (.int .i64 (cmpV x y)) ∧ Below w.heap.size w w' := by
  obtain ⟨k, b, n, f, t⟩ := x
  obtain ⟨k2, b2, n2, f2, t2⟩ := y
  simp only at hx hy
  have Hx := Lib.hid hx
  have Hy := Lib.hid hy
  clear hx hy
  by_cases hk : k = k2
  · subst hk
    have hz : (k != k) = false := by simp
    by_cases h1 : k = 1
    · subst h1
      cases b <;> cases b2 <;>
      · go_enter Try.func45, Try.ntmps45
        go_wp2_with fail
        go_ret
        exact ⟨ret_i (by simp [cmpV, cmpB]), two_boxes _ _ _⟩
    · by_cases h2 : k = 2
      · subst h2
        go_enter Try.func45, Try.ntmps45
        go_wp2_with fail
        refine (order_any _ _ _).mono ?_
        rintro e w' ⟨rfl, rfl⟩
        go_wp2_with fail
        go_ret
        exact ⟨ret_i (by simp [cmpV]), two_boxes _ _ _⟩
      · by_cases h3 : k = 3
        · subst h3
          go_enter Try.func45, Try.ntmps45
          go_wp2_with fail
          refine (rcmp_any _ _ Hx.out Hy.out _).mono ?_
          rintro e w' ⟨rfl, rfl⟩
          go_wp2_with fail
          go_ret
          exact ⟨ret_i (by simp [cmpV]), two_boxes _ _ _⟩
        · by_cases h4 : k = 4
          · subst h4
            cases g : ltT t t2
            · cases g2 : eqT t t2
              · have hc := Lib.hid (show cmpT t t2 = 1 by simp [cmpT, g, g2])
                unfold ltT at g
                unfold eqT at g2
                go_enter Try.func45, Try.ntmps45
                go_wp2_with fail
                go_ret
                exact ⟨ret_i (by simp [cmpV, hc.out]), two_boxes _ _ _⟩
              · have hc := Lib.hid (show cmpT t t2 = 0 by simp [cmpT, g, g2])
                unfold ltT at g
                unfold eqT at g2
                go_enter Try.func45, Try.ntmps45
                go_wp2_with fail
                go_ret
                exact ⟨ret_i (by simp [cmpV, hc.out]), two_boxes _ _ _⟩
            · have hc := Lib.hid (show cmpT t t2 = -1 by simp [cmpT, g])
              unfold ltT at g
              go_enter Try.func45, Try.ntmps45
              go_wp2_with fail
              go_ret
              exact ⟨ret_i (by simp [cmpV, hc.out]), two_boxes _ _ _⟩
          · have e1 : (k == 1) = false := by simpa using h1
            have e2 : (k == 2) = false := by simpa using h2
            have e3 : (k == 3) = false := by simpa using h3
            have e4 : (k == 4) = false := by simpa using h4
            go_enter Try.func45, Try.ntmps45
            go_wp2_with fail
            go_ret
            exact ⟨ret_i (by simp [cmpV, h1, h2, h3, h4]), two_boxes _ _ _⟩
  · have hz : (k != k2) = true := by simpa using hk
    have Hk := Lib.hid hk
    clear hk
    go_enter Try.func45, Try.ntmps45
    go_wp2_with fail
    refine (order_any _ _ _).mono ?_
    rintro e w' ⟨rfl, rfl⟩
    go_wp2_with fail
    go_ret
    exact ⟨ret_i (by simp [cmpV, Hk.out]), two_boxes _ _ _⟩
def sameV (x y : V) : Bool := cmpV x y == 0
set_option maxHeartbeats 400000 in
theorem vin_any (x y z : V) (hx : x.f < 2 * S) (hy : y.f < 2 * S) (hz : z.f < 2 * S) (w : World) : Calls Try.prog 44 #[vv x, vv y, vv z] w fun e w' => e = .returned (.bool (inV x y z)) ∧ Below w.heap.size w w' := by
  cases h : decide (0 ≤ cmpV x y)
  · have Hi := Lib.hid (show inV x y z = false by unfold inV; rw [h]; rfl)
    go_enter Try.func44, Try.ntmps44
    go_wp2_with fail
    refine (vcmp_any x y hx hy _).mono ?_
    rintro e w' ⟨rfl, hb⟩
    have Hb := Lib.hid hb
    obtain ⟨hc, hf⟩ := bcell hb
    have hs := hb.size
    simp at hs
    clear hb
    go_wp2_with fail
    go_ret
    exact ⟨ret_b Hi.out.symm, (three_boxes w _ _ _).trans (Hb.out.mono (by simp; omega))⟩
  · have Hi := Lib.hid (show inV x y z = decide (cmpV x z ≤ 0) by unfold inV; rw [h]; rfl)
    go_enter Try.func44, Try.ntmps44
    go_wp2_with fail
    refine (vcmp_any x y hx hy _).mono ?_
    rintro e w' ⟨rfl, hb⟩
    have Hb := Lib.hid hb
    obtain ⟨hc, hf⟩ := bcell hb
    have hs := hb.size
    simp at hs
    clear hb
    go_wp2_with fail
    refine (vcmp_any x z hx hz _).mono ?_
    rintro e w2 ⟨rfl, hb2⟩
    have Hb2 := Lib.hid hb2
    clear hb2
    go_wp2_with fail
    go_ret
    exact ⟨ret_b Hi.out.symm, (three_boxes w _ _ _).trans ((Hb.out.mono (by simp; omega)).trans (Hb2.out.mono (by omega)))⟩
set_option maxHeartbeats 400000 in
theorem rvin_any (x y z : V) (hx : x.f < 2 * S) (hy : y.f < 2 * S) (hz : z.f < 2 * S) (w : World) : Calls Try.prog 36 #[vv x, vv y, vv z] w fun e w' => e = .returned (.bool (inV x y z)) ∧ Below w.heap.size w w' := by
  cases h : decide (0 ≤ cmpV x y)
  · have Hi := Lib.hid (show inV x y z = false by unfold inV; rw [h]; rfl)
    go_enter Try.func36, Try.ntmps36
    go_wp2_with fail
    refine (rvcmp_any x y hx hy _).mono ?_
    rintro e w' ⟨rfl, hb⟩
    have Hb := Lib.hid hb
    obtain ⟨hc, hf⟩ := bcell hb
    have hs := hb.size
    simp at hs
    clear hb
    go_wp2_with fail
    go_ret
    exact ⟨ret_b Hi.out.symm, (three_boxes w _ _ _).trans (Hb.out.mono (by simp; omega))⟩
  · have Hi := Lib.hid (show inV x y z = decide (cmpV x z ≤ 0) by unfold inV; rw [h]; rfl)
    go_enter Try.func36, Try.ntmps36
    go_wp2_with fail
    refine (rvcmp_any x y hx hy _).mono ?_
    rintro e w' ⟨rfl, hb⟩
    have Hb := Lib.hid hb
    obtain ⟨hc, hf⟩ := bcell hb
    have hs := hb.size
    simp at hs
    clear hb
    go_wp2_with fail
    refine (rvcmp_any x z hx hz _).mono ?_
    rintro e w2 ⟨rfl, hb2⟩
    have Hb2 := Lib.hid hb2
    clear hb2
    go_wp2_with fail
    go_ret
    exact ⟨ret_b Hi.out.symm, (three_boxes w _ _ _).trans ((Hb.out.mono (by simp; omega)).trans (Hb2.out.mono (by omega)))⟩
end Go.Proofs.Ytmbbmgkbhfnchaa
