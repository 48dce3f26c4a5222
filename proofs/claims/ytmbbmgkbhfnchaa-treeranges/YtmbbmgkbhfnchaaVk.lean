/- What the laws' own helpers of chapter 2 (known, may) and the reference's Exact return. -/
import Derived.Test.YtmbbmgkbhfnchaaVr
namespace Go.Proofs.Ytmbbmgkbhfnchaa
set_option maxRecDepth 100000
open Go.ChangeShapes Go.WideShapes Go.ChangeAt Go.RowKit
open Fl (S IR nanB normN keyN NaNw cmpK)
open Val (cmpI cmpB cmpT ltT eqT V cmpV byteOk textOk blankB oddB isB plainB)
def kA : V := ⟨3, false, 0, S, ⟨#[]⟩⟩
def kB : V := ⟨3, false, 0, 0, ⟨#[]⟩⟩
theorem kA_is : isB kA = true := by decide +kernel
theorem kAB : cmpV kA kB = -1 := by decide +kernel
theorem kABs : sameV kA kB = false := by unfold sameV; rw [kAB]; rfl
def exactB (x y : V) : Bool := x.k == y.k && x.b == y.b && x.n == y.n && x.t.toList == y.t.toList && sameB x.f y.f
theorem exact_any (x y : V) (w : World) : Calls Try.prog 32 #[vv x, vv y] w fun e w' => e = .returned (.bool (exactB x y)) ∧ Below w.heap.size w w' := by
  obtain ⟨k, b, n, f, t⟩ := x
  obtain ⟨k2, b2, n2, f2, t2⟩ := y
  cases h1 : (k == k2)
  · go_enter Try.func32, Try.ntmps32
    go_wp2_with fail
    go_ret
    exact ⟨ret_b (by simp only [exactB, h1]; rfl), two_boxes _ _ _⟩
  · cases h2 : (b == b2)
    · go_enter Try.func32, Try.ntmps32
      go_wp2_with fail
      go_ret
      exact ⟨ret_b (by simp only [exactB, h1, h2]; rfl), two_boxes _ _ _⟩
    · cases h3 : (n == n2)
      · go_enter Try.func32, Try.ntmps32
        go_wp2_with fail
        go_ret
        exact ⟨ret_b (by simp only [exactB, h1, h2, h3]; rfl), two_boxes _ _ _⟩
      · cases h4 : (t.toList == t2.toList)
        · go_enter Try.func32, Try.ntmps32
          go_wp2_with fail
          go_ret
          exact ⟨ret_b (by simp only [exactB, h1, h2, h3, h4]; rfl), two_boxes _ _ _⟩
        · go_enter Try.func32, Try.ntmps32
          go_wp2_with fail
          refine (same_any _ _ _).mono ?_
          rintro e w' ⟨rfl, rfl⟩
          go_wp2_with fail
          go_ret
          exact ⟨ret_b (by simp only [exactB, h1, h2, h3, h4]; rfl), two_boxes _ _ _⟩
end Go.Proofs.Ytmbbmgkbhfnchaa
