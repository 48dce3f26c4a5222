/- What the laws' own helpers of chapter 2 (known, may) and the reference's Exact return. -/
import Derived.Test.YtlaigelpkgakeaaVr
namespace Go.Proofs.Ytlaigelpkgakeaa
open Go.ChangeShapes Go.WideShapes Go.ChangeAt Go.RowKit
open Fl (S IR nanB normN keyN NaNw cmpK)
open Val (cmpI cmpB cmpT ltT eqT V cmpV byteOk textOk blankB oddB isB plainB)
theorem bnext {W w1 w2 : World} (h : Below W.heap.size W w1) (hb : Below w1.heap.size w1 w2) : Below W.heap.size W w2 := h.trans (hb.mono h.size)
def kA : V := ⟨3, false, 0, S, ⟨#[]⟩⟩
def kB : V := ⟨3, false, 0, 0, ⟨#[]⟩⟩
theorem kA_is : isB kA = true := by decide +kernel
theorem kAB : cmpV kA kB = -1 := by decide +kernel
theorem kABs : sameV kA kB = false := by unfold sameV; rw [kAB]; rfl
set_option maxHeartbeats 400000 in
theorem known_any (w : World) : Calls Try.prog 14 #[] w fun e w' => e = .returned (.bool true) ∧ Below w.heap.size w w' := by
  have Hi := Lib.hid kA_is
  have Hc := Lib.hid kAB
  have Hs := Lib.hid kABs
  go_enter Try.func14, Try.ntmps14
  go_wp2_with fail
  refine (copysign_c _).mono ?_
  rintro e w' ⟨rfl, rfl⟩
  go_wp2_with fail
  refine (vis_any kA (by decide) _).mono ?_
  rintro e w1 ⟨rfl, hb⟩
  rw [Hi.out]
  have Hb1 := Lib.hid hb
  obtain ⟨hc1, hf1⟩ := bcell hb
  have hs1 := hb.size
  simp at hs1
  have hz0 : w.heap.size < w1.heap.size := by omega
  have hz1 : w.heap.size + 1 < w1.heap.size := by omega
  clear hb
  go_wp2_with fail
  refine (vcmp_any kA kB (by decide) (by decide) _).mono ?_
  rintro e w2 ⟨rfl, hb⟩
  rw [Hc.out]
  have Hb2 := Lib.hid hb
  obtain ⟨hc2, hf2⟩ := bcell hb
  have hs2 := hb.size
  clear hb
  go_wp2_with fail
  refine (vsame_any kA kB (by decide) (by decide) _).mono ?_
  rintro e w3 ⟨rfl, hb⟩
  rw [Hs.out]
  have Hb3 := Lib.hid hb
  clear hb
  go_wp2_with fail
  go_ret
  exact ⟨rfl, (two_boxes w _ _).trans ((Hb1.out.mono (by simp; omega)).trans ((Hb2.out.mono (by omega)).trans (Hb3.out.mono (by omega))))⟩
def exactB (x y : V) : Bool := x.k == y.k && x.b == y.b && x.n == y.n && x.t.toList == y.t.toList && sameB x.f y.f
theorem exact_any (x y : V) (w : World) : Calls Try.prog 20 #[vv x, vv y] w fun e w' => e = .returned (.bool (exactB x y)) ∧ Below w.heap.size w w' := by
  obtain ⟨k, b, n, f, t⟩ := x
  obtain ⟨k2, b2, n2, f2, t2⟩ := y
  cases h1 : (k == k2)
  · go_enter Try.func20, Try.ntmps20
    go_wp2_with fail
    go_ret
    exact ⟨ret_b (by simp only [exactB, h1]; rfl), two_boxes _ _ _⟩
  · cases h2 : (b == b2)
    · go_enter Try.func20, Try.ntmps20
      go_wp2_with fail
      go_ret
      exact ⟨ret_b (by simp only [exactB, h1, h2]; rfl), two_boxes _ _ _⟩
    · cases h3 : (n == n2)
      · go_enter Try.func20, Try.ntmps20
        go_wp2_with fail
        go_ret
        exact ⟨ret_b (by simp only [exactB, h1, h2, h3]; rfl), two_boxes _ _ _⟩
      · cases h4 : (t.toList == t2.toList)
        · go_enter Try.func20, Try.ntmps20
          go_wp2_with fail
          go_ret
          exact ⟨ret_b (by simp only [exactB, h1, h2, h3, h4]; rfl), two_boxes _ _ _⟩
        · go_enter Try.func20, Try.ntmps20
          go_wp2_with fail
          refine (same_any _ _ _).mono ?_
          rintro e w' ⟨rfl, rfl⟩
          go_wp2_with fail
          go_ret
          exact ⟨ret_b (by simp only [exactB, h1, h2, h3, h4]; rfl), two_boxes _ _ _⟩
end Go.Proofs.Ytlaigelpkgakeaa
