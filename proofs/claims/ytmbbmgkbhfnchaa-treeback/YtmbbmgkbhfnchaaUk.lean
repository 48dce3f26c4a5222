/- ligaturelaw9.TreeOfNothing, walked: it returns true for every entry. Conditions: the contracts of Prog9, a word of float64, a string of a length that Go allows. -/
import Derived.Test.YtmbbmgkbhfnchaaUj
namespace Go.Proofs.Ytmbbmgkbhfnchaa
set_option maxRecDepth 100000
set_option linter.unusedVariables false
open Go.ChangeShapes Go.WideShapes Go.ChangeAt Go.RowKit
open Fl (S)
open Val (V cmpV cmpI isB)
section
variable {PT : (Nat → Prop) → World → Nat → List En → Prop} {w : World}
theorem eat6 {W : World} {z : Nat} {x : En} (h : EAt W ⟨z, 0, none⟩ x) : W.cell? ⟨z, 0, none⟩ = some (.int .i64 x.v.k) ∧ W.cell? ⟨z, 1, none⟩ = some (.bool x.v.b) ∧ W.cell? ⟨z, 2, none⟩ = some (.int .i64 x.v.n) ∧ W.cell? ⟨z, 3, none⟩ = some (.float .f64 x.v.f) ∧ W.cell? ⟨z, 4, none⟩ = some (.string x.v.t) ∧ W.cell? ⟨z, 5, none⟩ = some (.int .i64 x.i) := by
  obtain ⟨c0, c1, c2, c3, c4, c5⟩ := h
  simp only [Nat.zero_add] at c0 c1 c2 c3 c4 c5
  exact ⟨c0, c1, c2, c3, c4, c5⟩
set_option maxHeartbeats 2000000 in
theorem nothing9_any (hP : Prog9 PT) (w : World) (x : En) (ht : x.v.t.size ≤ maxLen) :
    Calls Try.prog 6 #[ev x] w fun e w' => e = .returned (.bool true) ∧ Below w.heap.size w w' := by
  have HV := Lib.hid ((Below.refl w.heap.size w).alloc (Nat.le_refl _) (.cells #[.int .i64 x.v.k, .bool x.v.b, .int .i64 x.v.n, .float .f64 x.v.f, .string x.v.t, .int .i64 x.i] 34))
  have HX := Lib.hid (fun W (hb : Below (w.alloc (.cells #[.int .i64 x.v.k, .bool x.v.b, .int .i64 x.v.n, .float .f64 x.v.f, .string x.v.t, .int .i64 x.i] 34)).heap.size (w.alloc (.cells #[.int .i64 x.v.k, .bool x.v.b, .int .i64 x.v.n, .float .f64 x.v.f, .string x.v.t, .int .i64 x.i] 34)) W) => eat6 ((box_entry w x).below hb))
  have HIS := Lib.hid (fun W => ris_any x.v ht W)
  have HP := Lib.hid hP
  have DK := Lib.hid (known9_any hP)
  obtain ⟨b0, b1, b2, b3, b4, b5⟩ := HX.out _ (Below.refl _ _)
  clear hP ht
  obtain ⟨⟨xk, xb, xn, xf, xt⟩, xi⟩ := x
  cases hi : isB ⟨xk, xb, xn, xf, xt⟩ with
  | false =>
    simp only [hi] at HIS
    clear hi
    go_enter Try.func6, Try.ntmps6
    go_wp2_with (go_at_call 21; (with_reducible refine (HIS.out _).mono ?_); rintro e w1 ⟨rfl, hb⟩; have B1 := Lib.hid hb; clear hb)
    go_ret
    exact ⟨rfl, bnext HV.out B1.out⟩
  | true =>
    simp only [hi] at HIS
    clear hi
    go_enter Try.func6, Try.ntmps6
    go_wp2_with (first
      | (go_at_call 21; (with_reducible refine (HIS.out _).mono ?_); rintro e w1 ⟨rfl, hb⟩; have B1 := Lib.hid hb; obtain ⟨c0, c1, c2, c3, c4, c5⟩ := HX.out _ B1.out; clear hb)
      | (go_at_call 11; (with_reducible refine (HP.out.addN _ ⟨⟨xk, xb, xn, xf, xt⟩, xi⟩).mono ?_); rintro e w2 ⟨rfl, hb⟩; have B2 := Lib.hid (bnext B1.out hb); obtain ⟨d0, d1, d2, d3, d4, d5⟩ := HX.out _ B2.out; clear hb)
      | (go_at_call 13; (with_reducible refine (HP.out.delN _ ⟨⟨xk, xb, xn, xf, xt⟩, xi⟩).mono ?_); rintro e w3 ⟨rfl, hb⟩; have B3 := Lib.hid (bnext B2.out hb); obtain ⟨e0, e1, e2, e3, e4, e5⟩ := HX.out _ B3.out; clear hb)
      | (go_at_call 22; (with_reducible refine (HP.out.rangeN _ ⟨xk, xb, xn, xf, xt⟩ ⟨xk, xb, xn, xf, xt⟩).mono ?_); rintro e w4 ⟨⟨A4, c4', rfl⟩, hb⟩; have B4 := Lib.hid (bnext B3.out hb); clear hb)
      | (go_at_call 17; (with_reducible refine (HP.out.allN _).mono ?_); rintro e w5 ⟨⟨A5, c5', rfl⟩, hb⟩; have B5 := Lib.hid (bnext B4.out hb); clear hb)
      | (go_at_call 18; (with_reducible refine (HP.out.lenN _).mono ?_); rintro e w6 ⟨rfl, hb⟩; have B6 := Lib.hid (bnext B5.out hb); clear hb)
      | (go_at_call 15; (with_reducible refine (HP.out.depthN _).mono ?_); rintro e w7 ⟨rfl, hb⟩; have B7 := Lib.hid (bnext B6.out hb); clear hb)
      | (go_at_call 20; (with_reducible refine (DK.out _).mono ?_); rintro e w8 ⟨rfl, hb⟩; have B8 := Lib.hid (bnext B7.out hb); clear hb))
    go_ret
    exact ⟨rfl, bnext HV.out B8.out⟩
end
end Go.Proofs.Ytmbbmgkbhfnchaa
