/- The reference's SameVal and SameEdge of chapter 10 at equal values and edges. Condition: words of float64 are below 2^64. -/
import Derived.Test.YtdhpphbgobakhaaYd
namespace Go.Proofs.Ytdhpphbgobakhaa
set_option maxRecDepth 100000
set_option linter.unusedVariables false
open Go.ChangeShapes Go.WideShapes Go.ChangeAt Go.RowKit
open Fl (S cmpK keyN)
open Val (V cmpV isB ltT)
theorem cmpK_self (k : Nat) : cmpK k k = 0 := by unfold cmpK; simp
theorem rcmp_self (x : Nat) (hx : x < 2 * S) (w : World) : Calls Try.prog 57 #[.float .f64 x, .float .f64 x] w fun e w' => e = .returned (.int .i64 0) ∧ w = w' := by
  have := rcmp_any x x hx hx w
  rw [cmpK_self] at this
  exact this
theorem rsameval_any (x : V) (hx : x.f < 2 * S) (w : World) : Calls Try.prog 56 #[vv x, vv x] w fun e w' => e = .returned (.bool true) ∧ Below w.heap.size w w' := by
  obtain ⟨k, b, n, f, t⟩ := x
  have HC := Lib.hid (fun W => rcmp_self f hx W)
  clear hx
  cases b
  all_goals
    go_enter Try.func56, Try.ntmps56
    go_wp2_with (go_at_call 57; (with_reducible refine (HC.out _).mono ?_); rintro e w1 ⟨rfl, rfl⟩)
    go_ret
    exact ⟨ret_b (by simp), two_boxes w _ _⟩
theorem rsameedge_any (x : Eg) (hx : x.w < 2 * S) (w : World) : Calls Try.prog 32 #[egv x, egv x] w fun e w' => e = .returned (.bool true) ∧ Below w.heap.size w w' := by
  obtain ⟨a, b, t, f⟩ := x
  have HC := Lib.hid (fun W => rcmp_self f hx W)
  clear hx
  go_enter Try.func32, Try.ntmps32
  go_wp2_with (go_at_call 57; (with_reducible refine (HC.out _).mono ?_); rintro e w1 ⟨rfl, rfl⟩)
  go_ret
  exact ⟨ret_b (by simp), two_boxes w _ _⟩
end Go.Proofs.Ytdhpphbgobakhaa
