/- The reference's none, SameVal and SameEdge of chapter 10. Conditions: words of float64 are below 2^64. -/
import Derived.Test.YtdhpphbgobakhaaYc
namespace Go.Proofs.Ytdhpphbgobakhaa
set_option maxRecDepth 100000
set_option linter.unusedVariables false
open Go.ChangeShapes Go.WideShapes Go.ChangeAt Go.RowKit
open Fl (S cmpK keyN)
open Val (V cmpV isB ltT)
/-- The zero edge. -/
def zeroE (e : Eg) : Bool := decide (e.a = 0) && decide (e.b = 0) && decide (e.t.size = 0) && sameB e.w 0
theorem isEmpty_dec (t : ByteArray) : t.toList.isEmpty = decide (t.size = 0) := by rw [isEmpty_size]; rfl
theorem rnone_any (e : Eg) (w : World) : Calls Try.prog 69 #[egv e] w fun r w' => r = .returned (.bool (zeroE e)) ∧ Below w.heap.size w w' := by
  obtain ⟨a, b, t, f⟩ := e
  have HD : Hid (zeroE ⟨a, b, t, f⟩ = (decide (a = 0) && decide (b = 0) && decide (t.size = 0) && sameB f 0)) := rfl
  have HS := Lib.hid (fun W => same_any f 0 W)
  by_cases h1 : a = 0
  case neg =>
    have HE := Lib.hid (show zeroE ⟨a, b, t, f⟩ = false by rw [HD.out, decide_eq_false h1]; rfl)
    have q1 : (a == 0) = false := by simpa using h1
    clear h1
    go_enter Try.func69, Try.ntmps69
    go_wp2
    go_ret
    exact ⟨ret_b HE.out.symm, one_box w _⟩
  by_cases h2 : b = 0
  case neg =>
    have HE := Lib.hid (show zeroE ⟨a, b, t, f⟩ = false by rw [HD.out, decide_eq_false h2]; simp)
    have q1 : (b == 0) = false := by simpa using h2
    clear h2
    subst h1
    go_enter Try.func69, Try.ntmps69
    go_wp2
    go_ret
    exact ⟨ret_b HE.out.symm, one_box w _⟩
  by_cases h3 : t.size = 0
  case neg =>
    have HE := Lib.hid (show zeroE ⟨a, b, t, f⟩ = false by rw [HD.out, decide_eq_false h3]; simp)
    have q1 : t.toList.isEmpty = false := by rw [isEmpty_dec, decide_eq_false h3]
    clear h3
    subst h1
    subst h2
    go_enter Try.func69, Try.ntmps69
    go_wp2
    go_ret
    exact ⟨ret_b HE.out.symm, one_box w _⟩
  have HE := Lib.hid (show zeroE ⟨a, b, t, f⟩ = sameB f 0 by rw [HD.out, decide_eq_true h1, decide_eq_true h2, decide_eq_true h3]; rfl)
  have q1 : t.toList.isEmpty = true := by rw [isEmpty_dec, decide_eq_true h3]
  clear h3
  subst h1
  subst h2
  generalize sameB f 0 = g at *
  go_enter Try.func69, Try.ntmps69
  go_wp2_with (go_at_call 87; (with_reducible refine (HS.out _).mono ?_); rintro e w1 ⟨rfl, rfl⟩)
  go_ret
  exact ⟨ret_b HE.out.symm, one_box w _⟩
end Go.Proofs.Ytdhpphbgobakhaa
