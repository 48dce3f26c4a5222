/- known of chapter 9's laws; TreeOfNothing. Conditions: the contracts of Prog9. -/
import Derived.Test.YtmbbmgkbhfnchaaUi
namespace Go.Proofs.Ytmbbmgkbhfnchaa
set_option maxRecDepth 100000
set_option linter.unusedVariables false
open Go.ChangeShapes Go.WideShapes Go.ChangeAt Go.RowKit
open Fl (S)
open Val (V cmpV cmpI isB)
section
variable {PT : (Nat → Prop) → World → Nat → List En → Prop} {G : Nat → Prop} {w wr w' : World} {a : Nat} {L L' : List En}
def k9a : List En := [e21]
def k9b : List En := [e19, e21]
def k9c : List En := [e19, e20, e21]
theorem k9' : hasE k9a e19 = false ∧ insE k9a e19 = k9b ∧ hasE k9b e20 = false ∧ insE k9b e20 = k9c := k9.2.2
theorem erow_at {w : World} {A : Option Addr} {L : List En} {x : En} (h : ERow w A L) (k : Nat) (hk : L[k]? = some x) : ∃ ad, A = some ad ∧ w.cell? ⟨(ad.add (k * 6)).block, (ad.add (k * 6)).off + 5, none⟩ = some (.int .i64 x.i) := by
  obtain ⟨hl, e⟩ := List.getElem?_eq_some_iff.1 hk
  obtain ⟨ad, pk, h1, h2, h3⟩ := h k hl
  subst h2
  rw [e] at h3
  exact ⟨ad, h1, h3.c5⟩
set_option maxHeartbeats 1000000 in
theorem known9_any (hP : Prog9 PT) (w : World) : Calls Try.prog 20 #[] w fun e w' => e = .returned (.bool true) ∧ Below w.heap.size w w' := by
  have HN := Lib.hid (s9_new (G := noG9) hP (Below.refl w.heap.size w) (fun k hk => hk.elim))
  have HQ := Lib.hid (fun n W => num_any n W)
  have HP := Lib.hid hP
  clear hP
  go_enter Try.func20, Try.ntmps20
  go_wp2_with fail
  (with_reducible refine HN.out.mono ?_)
  rintro e w1 ⟨a, rfl, h1, _⟩
  have H1 := Lib.hid h1
  clear h1 HN
  go_wp2_with fail
  (with_reducible refine (HQ.out _ _).mono ?_)
  rintro e w2 ⟨rfl, hb2⟩
  have C2 := Lib.hid (show Calls Try.prog 11 #[.pointer (some ⟨a, 0, none⟩), .agg #[.int .i64 2, .bool false, .int .i64 2, .float .f64 0, .string ⟨#[]⟩, .int .i64 1]] w2 (fun e w' => e = .returned (.bool true) ∧ S9 PT noG9 w w' a k9a ∧ Keep9 noG9 w2 w') from by have := s9_add HP.out (S9.below HP.out H1.out hb2) e21 e_ok.1 (by decide); rw [k9.1, k9.2.1] at this; exact this)
  clear hb2
  go_wp2_with fail
  (with_reducible refine C2.out.mono ?_)
  rintro e w3 ⟨rfl, h3, _⟩
  have H3 := Lib.hid h3
  clear h3 C2 H1
  go_wp2_with fail
  (with_reducible refine (HQ.out _ _).mono ?_)
  rintro e w4 ⟨rfl, hb4⟩
  have C4 := Lib.hid (show Calls Try.prog 11 #[.pointer (some ⟨a, 0, none⟩), .agg #[.int .i64 2, .bool false, .int .i64 1, .float .f64 0, .string ⟨#[]⟩, .int .i64 9]] w4 (fun e w' => e = .returned (.bool true) ∧ S9 PT noG9 w w' a k9b ∧ Keep9 noG9 w4 w') from by have := s9_add HP.out (S9.below HP.out H3.out hb4) e19 e_ok.2.1 (by decide); rw [k9'.1, k9'.2.1] at this; exact this)
  clear hb4
  go_wp2_with fail
  (with_reducible refine C4.out.mono ?_)
  rintro e w5 ⟨rfl, h5, _⟩
  have H5 := Lib.hid h5
  clear h5 C4 H3
  go_wp2_with fail
  (with_reducible refine (HQ.out _ _).mono ?_)
  rintro e w6 ⟨rfl, hb6⟩
  have C6 := Lib.hid (show Calls Try.prog 11 #[.pointer (some ⟨a, 0, none⟩), .agg #[.int .i64 2, .bool false, .int .i64 2, .float .f64 0, .string ⟨#[]⟩, .int .i64 0]] w6 (fun e w' => e = .returned (.bool true) ∧ S9 PT noG9 w w' a k9c ∧ Keep9 noG9 w6 w') from by have := s9_add HP.out (S9.below HP.out H5.out hb6) e20 e_ok.2.2 (by decide); rw [k9'.2.2.1, k9'.2.2.2] at this; exact this)
  clear hb6
  go_wp2_with fail
  (with_reducible refine C6.out.mono ?_)
  rintro e w7 ⟨rfl, h7, _⟩
  have H7 := Lib.hid h7
  clear h7 C6 H5
  have C8 := Lib.hid (show Calls Try.prog 17 #[.pointer (some ⟨a, 0, none⟩)] w7 (fun e w' => ∃ A c, e = .returned (.slice A 3 c) ∧ ERow w' A k9c ∧ Below w7.heap.size w7 w') from s9_all HP.out H7.out (by decide))
  go_wp2_with fail
  (with_reducible refine C8.out.mono ?_)
  rintro e w8 ⟨A, c, rfl, hr8, hb8⟩
  obtain ⟨ad, e1, q0⟩ := erow_at hr8 0 rfl
  obtain ⟨ad1, e2, q1⟩ := erow_at hr8 1 rfl
  obtain ⟨ad2, e3, q2⟩ := erow_at hr8 2 rfl
  subst e1
  injection e2 with e2; subst e2
  injection e3 with e3; subst e3
  have HB := Lib.hid (H7.out.all.trans (hb8.mono H7.out.all.size))
  clear hr8 hb8 C8 H7
  simp only [e19, e20, e21] at q0 q1 q2
  simp [Addr.add] at q0 q1 q2
  go_wp2
  go_ret
  exact ⟨rfl, HB.out⟩
end
end Go.Proofs.Ytmbbmgkbhfnchaa
