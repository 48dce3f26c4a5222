/- What the comparisons that package value and its reference call return: contracts, each for every argument. -/
import Derived.Test.YtmbbmgkbhfnchaaRf
import Derived.Test.YtmbbmgkbhfnchaaVal
import Derived.Below
namespace Go.Proofs.Ytmbbmgkbhfnchaa
set_option maxRecDepth 100000
open Go.ChangeShapes Go.WideShapes Go.ChangeAt Go.RowKit
open Fl (S IR nanB normN keyN NaNw cmpK)
open Val (cmpI cmpB cmpT ltT eqT V cmpV)
theorem isnI_any (k : Int) (w : World) : Calls Try.prog 57 #[.int .i64 k] w fun e w' => e = .returned (.bool false) ∧ w = w' := by
  have hb : (k != k) = false := by simp
  go_enter Try.func57, Try.ntmps57
  go_wp2
  all_goals (go_ret; exact ⟨rfl, rfl⟩)
theorem compareI_any (a b : Int) (w : World) : Calls Try.prog 46 #[.int .i64 a, .int .i64 b] w fun e w' => e = .returned (.int .i64 (cmpI a b)) ∧ w = w' := by
  rcases Int.lt_trichotomy a b with h | h | h
  · have hc := Lib.hid (Val.cmpI_lo h)
    go_enter Try.func46, Try.ntmps46
    go_wp2_with (go_at_call 57; refine (isnI_any _ _).mono ?_; rintro e w' ⟨rfl, rfl⟩)
    all_goals (go_ret; exact ⟨by rw [hc.out]; rfl, rfl⟩)
  · have hc := Lib.hid (Val.cmpI_eq h)
    have h1 : ¬ a < b := by omega
    have h2 : ¬ b < a := by omega
    clear h
    go_enter Try.func46, Try.ntmps46
    go_wp2_with (go_at_call 57; refine (isnI_any _ _).mono ?_; rintro e w' ⟨rfl, rfl⟩)
    all_goals (go_ret; exact ⟨by rw [hc.out]; rfl, rfl⟩)
  · have hc := Lib.hid (Val.cmpI_hi h)
    have h1 : ¬ a < b := by omega
    go_enter Try.func46, Try.ntmps46
    go_wp2_with (go_at_call 57; refine (isnI_any _ _).mono ?_; rintro e w' ⟨rfl, rfl⟩)
    all_goals (go_ret; exact ⟨by rw [hc.out]; rfl, rfl⟩)
theorem order_any (a b : Int) (w : World) : Calls Try.prog 55 #[.int .i64 a, .int .i64 b] w fun e w' => e = .returned (.int .i64 (cmpI a b)) ∧ w = w' := by
  rcases Int.lt_trichotomy a b with h | h | h
  · have hc := Lib.hid (Val.cmpI_lo h)
    go_enter Try.func55, Try.ntmps55
    go_wp2
    all_goals (go_ret; exact ⟨by rw [hc.out]; rfl, rfl⟩)
  · have hc := Lib.hid (Val.cmpI_eq h)
    have h1 : ¬ a < b := by omega
    have h2 : ¬ b < a := by omega
    clear h
    go_enter Try.func55, Try.ntmps55
    go_wp2
    all_goals (go_ret; exact ⟨by rw [hc.out]; rfl, rfl⟩)
  · have hc := Lib.hid (Val.cmpI_hi h)
    have h1 : ¬ a < b := by omega
    go_enter Try.func55, Try.ntmps55
    go_wp2
    all_goals (go_ret; exact ⟨by rw [hc.out]; rfl, rfl⟩)
theorem compareB_any (a b : Bool) (w : World) : Calls Try.prog 52 #[.bool a, .bool b] w fun e w' => e = .returned (.int .i64 (cmpB a b)) ∧ w = w' := by
  cases a <;> cases b <;>
  · go_enter Try.func52, Try.ntmps52
    go_wp2
    all_goals (go_ret; exact ⟨rfl, rfl⟩)
theorem isnS_any (s : ByteArray) (w : World) : Calls Try.prog 60 #[.string s] w fun e w' => e = .returned (.bool false) ∧ w = w' := by
  go_enter Try.func60, Try.ntmps60
  go_wp2
  all_goals (go_ret; exact ⟨rfl, rfl⟩)
theorem compareT_any (s t : ByteArray) (w : World) : Calls Try.prog 54 #[.string s, .string t] w fun e w' => e = .returned (.int .i64 (cmpT s t)) ∧ w = w' := by
  cases h : ltT s t
  · cases h2 : eqT s t
    · have hc := Lib.hid (show cmpT s t = 1 by simp [cmpT, h, h2])
      unfold ltT at h
      unfold eqT at h2
      go_enter Try.func54, Try.ntmps54
      go_wp2_with (go_at_call 60; refine (isnS_any _ _).mono ?_; rintro e w' ⟨rfl, rfl⟩)
      all_goals (go_ret; exact ⟨by rw [hc.out]; rfl, rfl⟩)
    · have hc := Lib.hid (show cmpT s t = 0 by simp [cmpT, h, h2])
      unfold ltT at h
      unfold eqT at h2
      go_enter Try.func54, Try.ntmps54
      go_wp2_with (go_at_call 60; refine (isnS_any _ _).mono ?_; rintro e w' ⟨rfl, rfl⟩)
      all_goals (go_ret; exact ⟨by rw [hc.out]; rfl, rfl⟩)
  · have hc := Lib.hid (show cmpT s t = -1 by simp [cmpT, h])
    unfold ltT at h
    go_enter Try.func54, Try.ntmps54
    go_wp2_with (go_at_call 60; refine (isnS_any _ _).mono ?_; rintro e w' ⟨rfl, rfl⟩)
    all_goals (go_ret; exact ⟨by rw [hc.out]; rfl, rfl⟩)
end Go.Proofs.Ytmbbmgkbhfnchaa
