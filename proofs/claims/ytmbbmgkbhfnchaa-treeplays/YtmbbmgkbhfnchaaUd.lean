/- What at and Range of the reference's Tree return; Same of the reference at equal rows. Conditions: the Tree lies in memory, its entries are valid, fewer than 900,000. -/
import Derived.Test.YtmbbmgkbhfnchaaUc
import Derived.Test.YtmbbmgkbhfnchaaVk
namespace Go.Proofs.Ytmbbmgkbhfnchaa
set_option maxRecDepth 100000
set_option linter.unusedVariables false
open Go.ChangeShapes Go.WideShapes Go.ChangeAt Go.RowKit
open Fl (S)
open Val (V cmpV cmpI isB)
theorem box_entry (w : World) (x : En) : EAt (w.alloc (.cells #[.int .i64 x.v.k, .bool x.v.b, .int .i64 x.v.n, .float .f64 x.v.f, .string x.v.t, .int .i64 x.i] 34)) ⟨w.heap.size, 0, none⟩ x :=
  eat_cells (fun j hj => by rw [Nat.zero_add, cell_of_row _ _ j _ _ _ (heap_alloc_new w _), ← Array.getElem?_toList]; rfl)
section
variable {F : Nat → Prop} {w w' : World} {a : Nat} {I : List En}
set_option maxHeartbeats 1000000 in
theorem rat_any (h : TC F w a I) (x : En) (hx : x.v.f < 2 * S) :
    Calls Try.prog 29 #[.pointer (some ⟨a, 0, none⟩), ev x] w fun e w' => e = .returned (.tuple #[.int .i64 (atE I x : Nat), .bool (hasE I x)]) ∧ Below w.heap.size w w' := by
  obtain ⟨v1, h⟩ := h
  have HM := Lib.hid h
  have hbig := h.big
  obtain ⟨A, cp, rfl⟩ := own_slice h.r1
  obtain ⟨p, hp⟩ : ∃ p, p = atE I x := ⟨_, rfl⟩
  obtain ⟨q, hq⟩ : ∃ q, q = hasE I x := ⟨_, rfl⟩
  rw [← hp, ← hq]
  have HPP := Lib.hid hp
  have HQQ := Lib.hid hq
  have hb := (Below.refl w.heap.size w).alloc (Nat.le_refl _) (.cells #[.int .i64 x.v.k, .bool x.v.b, .int .i64 x.v.n, .float .f64 x.v.f, .string x.v.t, .int .i64 x.i] 34)
  have HB0 := Lib.hid hb
  have HBX := Lib.hid (box_entry w x)
  have HC := Lib.hid (fun (y : En) (hy : y.v.f < 2 * S) W => rorder_any y x hy hx W)
  have HX : Hid (∀ k (hk : k < I.length), 0 ≤ En.cmp I[k] x → (∀ j (hj : j < I.length), j < k → En.cmp I[j] x < 0) → p = k ∧ q = (En.cmp I[k] x == 0)) := by
    intro k hk h1 h2
    have e : atE I x = k := atE_eq (Nat.le_of_lt hk) h2 (fun _ => h1)
    refine ⟨by rw [HPP.out, e], ?_⟩
    rw [HQQ.out]
    unfold hasE
    rw [e, List.getElem?_eq_getElem hk]
    rfl
  have HY : Hid ((∀ j (hj : j < I.length), j < I.length → En.cmp I[j] x < 0) → p = I.length ∧ q = false) := by
    intro h2
    have e : atE I x = I.length := atE_eq (Nat.le_refl _) h2 (fun h => absurd h (by omega))
    refine ⟨by rw [HPP.out, e], ?_⟩
    rw [HQQ.out]
    unfold hasE
    rw [e, List.getElem?_eq_none (Nat.le_refl _)]
  obtain ⟨⟨xk, xb, xn, xf, xt⟩, xi⟩ := x
  clear h hp hq hx
  obtain ⟨k0, kf⟩ := (HM.out.below HB0.out).cells
  go_enter Try.func29, Try.ntmps29
  go_wp2
  (try simp only at HB0 HBX k0 kf)
  generalize hV : w.alloc (.cells #[.int .i64 xk, .bool xb, .int .i64 xn, .float .f64 xf, .string xt, .int .i64 xi] 34) = V at *
  have HV := Lib.hid (HM.out.below HB0.out)
  clear hV k0 kf
  go_loopw [6] (fun i wr => ∃ k : Nat, k ≤ I.length ∧ i = .int .i64 (k : Nat) ∧ Hid (Below V.heap.size V wr) ∧ Hid (∀ j (hj : j < I.length), j < k → En.cmp I[j] ⟨⟨xk, xb, xn, xf, xt⟩, xi⟩ < 0)) (fun i _ => I.length - (intOf i).toNat)
  case atStart => exact ⟨0, Nat.zero_le _, rfl, Below.refl _ _, fun j hj h => absurd h (by omega)⟩
  case round =>
    obtain ⟨k, hk, rfl, HB, HN⟩ := hrel
    have hm := HV.out.below HB.out
    obtain ⟨k0, kf⟩ := hm.cells
    obtain ⟨b0, b1, b2, b3, b4, b5⟩ := HBX.out.below HB.out
    simp only [Nat.zero_add] at b0 b1 b2 b3 b4 b5
    by_cases hlt : k < I.length
    · obtain ⟨g, cp', hgg, _, he⟩ := hm.row hlt
      injection hgg with hgg _ hcp
      subst hgg
      subst hcp
      have hi5 : IntKind.i64.wrap (k : Int) = (k : Int) := wrapI (by omega)
      have hi0 : (0 : Int) ≤ (k : Int) := by omega
      have HCC := Lib.hid (HC.out I[k] (HM.out.ok _ (List.getElem_mem hlt)).2)
      have HX2 := Lib.hid (HX.out k hlt)
      have HN2 : Hid (En.cmp I[k] ⟨⟨xk, xb, xn, xf, xt⟩, xi⟩ < 0 → ∀ j (hj : j < I.length), j < k + 1 → En.cmp I[j] ⟨⟨xk, xb, xn, xf, xt⟩, xi⟩ < 0) := fun h1 j hj h => by
        by_cases e : j = k
        · subst e; exact h1
        · exact HN.out j hj (by omega)
      generalize I[k] = y at he HCC HX2 HN2
      obtain ⟨⟨yk, yb, yn, yf, yt⟩, yi⟩ := y
      obtain ⟨e0, e1, e2, e3, e4, e5⟩ := he
      simp only at e0 e1 e2 e3 e4 e5 HCC
      generalize En.cmp ⟨⟨yk, yb, yn, yf, yt⟩, yi⟩ ⟨⟨xk, xb, xn, xf, xt⟩, xi⟩ = c at HCC HX2 HN2
      clear hm
      by_cases hc : 0 ≤ c
      · have HPQ := Lib.hid (HX2.out hc HN.out)
        go_upto_region 4 with fail
        go_still_tail 8, (by kernel_rfl)
        change wpList _ _ _ _ _ wr.drew
        go_wp2_with (go_at_call 40; (with_reducible refine (HCC.out _).mono ?_); rintro e w4 ⟨rfl, hb4⟩; have HB4 := Lib.hid (bnext HB.out.drew hb4); obtain ⟨j0, jf⟩ := (HV.out.below HB4.out).cells; clear hb4)
        go_ret2
        refine ⟨?_, bnext HB0.out HB4.out⟩
        obtain ⟨h1, h2⟩ := HPQ.out
        rw [h1, h2]; rfl
      · have HN3 := Lib.hid (HN2.out (by omega))
        go_upto_region 4 with fail
        go_still_tail 8, (by kernel_rfl)
        change wpList _ _ _ _ _ wr.drew
        go_wp2_with (go_at_call 40; (with_reducible refine (HCC.out _).mono ?_); rintro e w4 ⟨rfl, hb4⟩; have HB4 := Lib.hid (bnext HB.out.drew hb4); obtain ⟨j0, jf⟩ := (HV.out.below HB4.out).cells; clear hb4)
        exact ⟨⟨k + 1, by omega, by go_num, HB4.out, HN3.out⟩, by simp [intOf]; omega⟩
    · obtain rfl : k = I.length := by omega
      have HPQ := Lib.hid (HY.out HN.out)
      clear hm
      go_wp2
      go_ret2
      refine ⟨?_, bnext HB0.out HB.out⟩
      obtain ⟨h1, h2⟩ := HPQ.out
      rw [h1, h2]; rfl
end
end Go.Proofs.Ytmbbmgkbhfnchaa
