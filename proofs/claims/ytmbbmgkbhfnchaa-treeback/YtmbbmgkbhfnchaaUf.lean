/- Same of the reference at equal rows of entries. Conditions: fewer than 900,000 entries. -/
import Derived.Test.YtmbbmgkbhfnchaaUe
namespace Go.Proofs.Ytmbbmgkbhfnchaa
set_option maxRecDepth 100000
set_option linter.unusedVariables false
open Go.ChangeShapes Go.WideShapes Go.ChangeAt Go.RowKit
open Fl (S)
open Val (V cmpV cmpI isB)
theorem exactB_self (x : V) : exactB x x = true := by
  unfold exactB
  have h : sameB x.f x.f = true := sameB_tt rfl
  rw [h]
  simp
set_option maxHeartbeats 1000000 in
theorem esame_any (A B : Option Addr) (L : List En) (n ca cb : Nat) (w : World) (h1 : ERow w A L) (h2 : ERow w B L) (hn : L.length = n) (hl : n ≤ 900000) :
    Calls Try.prog 16 #[.slice A n ca, .slice B n cb] w fun e w' => e = .returned (.bool true) ∧ Below w.heap.size w w' := by
  have H1 := Lib.hid h1
  have H2 := Lib.hid h2
  have HN := Lib.hid hn
  have HC := Lib.hid (fun (x : V) W => show Calls Try.prog 32 #[vv x, vv x] W (fun e w' => e = .returned (.bool true) ∧ Below W.heap.size W w') from by have := exact_any x x W; rw [exactB_self] at this; exact this)
  clear h1 h2 hn
  go_enter Try.func16, Try.ntmps16
  go_wp2
  go_loopw [5] (fun i wr => ∃ k : Nat, k ≤ n ∧ i = .int .i64 (k : Nat) ∧ Hid (Below w.heap.size w wr)) (fun i _ => n - (intOf i).toNat)
  case atStart => exact ⟨0, Nat.zero_le _, rfl, Below.refl _ _⟩
  case round =>
    obtain ⟨k, hk, rfl, HB⟩ := hrel
    by_cases hlt : k < n
    · have hlt2 : k < L.length := by have := HN.out; omega
      obtain ⟨ad, pk, hA, hp, he⟩ := (H1.out.below HB.out) k hlt2
      obtain ⟨bd, qk, hB, hq, hf⟩ := (H2.out.below HB.out) k hlt2
      subst hA
      subst hB
      have hi5 : IntKind.i64.wrap (k : Int) = (k : Int) := wrapI (by omega)
      have hi0 : (0 : Int) ≤ (k : Int) := by omega
      generalize L[k] = y at he hf
      have HCC := Lib.hid (HC.out y.v)
      obtain ⟨⟨yk, yb, yn, yf, yt⟩, yi⟩ := y
      obtain ⟨e0, e1, e2, e3, e4, e5⟩ := he
      obtain ⟨f0, f1, f2, f3, f4, f5⟩ := hf
      simp only at e0 e1 e2 e3 e4 e5 f0 f1 f2 f3 f4 f5 HCC
      clear hlt2
      go_upto_region 6 with fail
      go_still_tail 22, (by kernel_rfl)
      change wpList _ _ _ _ _ wr.drew
      go_wp2_with (go_at_call 32; (with_reducible refine (HCC.out _).mono ?_); rintro e w4 ⟨rfl, hb4⟩; have HB4 := Lib.hid (bnext HB.out.drew hb4); clear hb4)
      exact ⟨⟨k + 1, by omega, by go_num, HB4.out⟩, by simp [intOf]; omega⟩
    · obtain rfl : k = n := by omega
      go_wp2
      go_ret
      exact ⟨rfl, HB.out⟩
end Go.Proofs.Ytmbbmgkbhfnchaa
