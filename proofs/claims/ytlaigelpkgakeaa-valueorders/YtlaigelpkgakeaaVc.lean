/- What the comparisons that package value and its reference call return: contracts, each for every argument. -/
import Derived.Test.YtlaigelpkgakeaaRf
import Derived.Test.YtlaigelpkgakeaaVal
import Derived.Below
namespace Go.Proofs.Ytlaigelpkgakeaa
open Go.ChangeShapes Go.WideShapes Go.ChangeAt Go.RowKit
open Fl (S IR nanB normN keyN NaNw cmpK)
open Val (cmpI cmpB cmpT ltT eqT V cmpV)
theorem isnI_any (k : Int) (w : World) : Calls Try.prog 37 #[.int .i64 k] w fun e w' => e = .returned (.bool false) ∧ w = w' := by
  have hb : (k != k) = false := by simp
  go_enter Try.func37, Try.ntmps37
  go_wp2
  all_goals (go_ret; exact ⟨rfl, rfl⟩)
theorem compareI_any (a b : Int) (w : World) : Calls Try.prog 28 #[.int .i64 a, .int .i64 b] w fun e w' => e = .returned (.int .i64 (cmpI a b)) ∧ w = w' := by
  rcases Int.lt_trichotomy a b with h | h | h
  · have hc := Lib.hid (Val.cmpI_lo h)
    go_enter Try.func28, Try.ntmps28
    go_wp2_with (go_at_call 37; refine (isnI_any _ _).mono ?_; rintro e w' ⟨rfl, rfl⟩)
    all_goals (go_ret; exact ⟨by rw [hc.out]; rfl, rfl⟩)
  · have hc := Lib.hid (Val.cmpI_eq h)
    have h1 : ¬ a < b := by omega
    have h2 : ¬ b < a := by omega
    clear h
    go_enter Try.func28, Try.ntmps28
    go_wp2_with (go_at_call 37; refine (isnI_any _ _).mono ?_; rintro e w' ⟨rfl, rfl⟩)
    all_goals (go_ret; exact ⟨by rw [hc.out]; rfl, rfl⟩)
  · have hc := Lib.hid (Val.cmpI_hi h)
    have h1 : ¬ a < b := by omega
    go_enter Try.func28, Try.ntmps28
    go_wp2_with (go_at_call 37; refine (isnI_any _ _).mono ?_; rintro e w' ⟨rfl, rfl⟩)
    all_goals (go_ret; exact ⟨by rw [hc.out]; rfl, rfl⟩)
theorem order_any (a b : Int) (w : World) : Calls Try.prog 32 #[.int .i64 a, .int .i64 b] w fun e w' => e = .returned (.int .i64 (cmpI a b)) ∧ w = w' := by
  rcases Int.lt_trichotomy a b with h | h | h
  · have hc := Lib.hid (Val.cmpI_lo h)
    go_enter Try.func32, Try.ntmps32
    go_wp2
    all_goals (go_ret; exact ⟨by rw [hc.out]; rfl, rfl⟩)
  · have hc := Lib.hid (Val.cmpI_eq h)
    have h1 : ¬ a < b := by omega
    have h2 : ¬ b < a := by omega
    clear h
    go_enter Try.func32, Try.ntmps32
    go_wp2
    all_goals (go_ret; exact ⟨by rw [hc.out]; rfl, rfl⟩)
  · have hc := Lib.hid (Val.cmpI_hi h)
    have h1 : ¬ a < b := by omega
    go_enter Try.func32, Try.ntmps32
    go_wp2
    all_goals (go_ret; exact ⟨by rw [hc.out]; rfl, rfl⟩)
theorem compareB_any (a b : Bool) (w : World) : Calls Try.prog 29 #[.bool a, .bool b] w fun e w' => e = .returned (.int .i64 (cmpB a b)) ∧ w = w' := by
  cases a <;> cases b <;>
  · go_enter Try.func29, Try.ntmps29
    go_wp2
    all_goals (go_ret; exact ⟨rfl, rfl⟩)
theorem isnS_any (s : ByteArray) (w : World) : Calls Try.prog 40 #[.string s] w fun e w' => e = .returned (.bool false) ∧ w = w' := by
  go_enter Try.func40, Try.ntmps40
  go_wp2
  all_goals (go_ret; exact ⟨rfl, rfl⟩)
theorem compareT_any (s t : ByteArray) (w : World) : Calls Try.prog 31 #[.string s, .string t] w fun e w' => e = .returned (.int .i64 (cmpT s t)) ∧ w = w' := by
  cases h : ltT s t
  · cases h2 : eqT s t
    · have hc := Lib.hid (show cmpT s t = 1 by simp [cmpT, h, h2])
      unfold ltT at h
      unfold eqT at h2
      go_enter Try.func31, Try.ntmps31
      go_wp2_with (go_at_call 40; refine (isnS_any _ _).mono ?_; rintro e w' ⟨rfl, rfl⟩)
      all_goals (go_ret; exact ⟨by rw [hc.out]; rfl, rfl⟩)
    · have hc := Lib.hid (show cmpT s t = 0 by simp [cmpT, h, h2])
      unfold ltT at h
      unfold eqT at h2
      go_enter Try.func31, Try.ntmps31
      go_wp2_with (go_at_call 40; refine (isnS_any _ _).mono ?_; rintro e w' ⟨rfl, rfl⟩)
      all_goals (go_ret; exact ⟨by rw [hc.out]; rfl, rfl⟩)
  · have hc := Lib.hid (show cmpT s t = -1 by simp [cmpT, h])
    unfold ltT at h
    go_enter Try.func31, Try.ntmps31
    go_wp2_with (go_at_call 40; refine (isnS_any _ _).mono ?_; rintro e w' ⟨rfl, rfl⟩)
    all_goals (go_ret; exact ⟨by rw [hc.out]; rfl, rfl⟩)
end Go.Proofs.Ytlaigelpkgakeaa
