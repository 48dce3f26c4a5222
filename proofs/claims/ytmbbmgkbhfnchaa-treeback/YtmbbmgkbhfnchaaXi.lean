/- appendRange of the program's nodes: the entries between two values in order behind a row of the call's own. Conditions: the nodes lie in memory, sorted; words of float64 are below 2^64; fewer than 900,000 entries. -/
import Derived.Test.YtmbbmgkbhfnchaaXh
namespace Go.Proofs.Ytmbbmgkbhfnchaa
set_option maxRecDepth 100000
set_option linter.unusedVariables false
open Go.ChangeShapes Go.WideShapes Go.ChangeAt Go.RowKit
open Fl (S)
open Val (V cmpV cmpI isB)
/-- The value's cells lie at the beginning of block g. -/
def VB (w : World) (g : Nat) (y : V) : Prop := w.cell? ⟨g, 0, none⟩ = some (.int .i64 y.k) ∧ w.cell? ⟨g, 1, none⟩ = some (.bool y.b) ∧ w.cell? ⟨g, 2, none⟩ = some (.int .i64 y.n) ∧ w.cell? ⟨g, 3, none⟩ = some (.float .f64 y.f) ∧ w.cell? ⟨g, 4, none⟩ = some (.string y.t)
theorem vb_box {w w' : World} {g : Nat} {y : V} (h : w.heap[g]? = some (.cells #[.int .i64 y.k, .bool y.b, .int .i64 y.n, .float .f64 y.f, .string y.t] 32 (0, 0))) (he : w'.heap[g]? = w.heap[g]?) : VB w' g y := by
  rw [h] at he
  refine ⟨?_, ?_, ?_, ?_, ?_⟩ <;> rw [cell_of_row w' g _ _ _ _ he] <;> rfl
section
variable {w0 : World} {b : Nat} {x : En} {l r p : Option Nat} {d dl dr : Nat} {Bl Br B : List Nat} {Ll Lr L : List En}
theorem rng_nil (M : List En) (W : World) (v : Value) (lo hi : V) (hb : Below w0.heap.size w0 W) (hr : RE w0.heap.size W v M) : Calls Try.prog 35 #[po none, v, vv lo, vv hi] W (AppP w0 W v M) := by
  have HR := Lib.hid ((AppS.start hr hb).grow (two_boxes W (.cells #[.int .i64 lo.k, .bool lo.b, .int .i64 lo.n, .float .f64 lo.f, .string lo.t] 32) (.cells #[.int .i64 hi.k, .bool hi.b, .int .i64 hi.n, .float .f64 hi.f, .string hi.t] 32)))
  obtain ⟨A, c, rfl⟩ := own_slice hr.r
  obtain ⟨lk, lb, ln, lf, lt⟩ := lo
  obtain ⟨mk, mb, mn, mf, mt⟩ := hi
  clear hr hb
  rw [po_none]
  go_enter Try.func35, Try.ntmps35
  go_wp2
  go_ret
  exact ⟨_, rfl, HR.out⟩
theorem NA.cells8 {w : World} (h : NA w b x l r d) : w.cell? ⟨b, 0, none⟩ = some (.int .i64 x.v.k) ∧ w.cell? ⟨b, 1, none⟩ = some (.bool x.v.b) ∧ w.cell? ⟨b, 2, none⟩ = some (.int .i64 x.v.n) ∧ w.cell? ⟨b, 3, none⟩ = some (.float .f64 x.v.f) ∧ w.cell? ⟨b, 4, none⟩ = some (.string x.v.t) ∧ w.cell? ⟨b, 5, none⟩ = some (.int .i64 x.i) ∧ w.cell? ⟨b, 6, none⟩ = some (po l) ∧ w.cell? ⟨b, 7, none⟩ = some (po r) := by
  obtain ⟨k0, k1, k2, k3, k4, k5, k6, k7, _⟩ := h.cells
  exact ⟨k0, k1, k2, k3, k4, k5, k6, k7⟩
set_option maxHeartbeats 2000000 in
theorem rng_tt (h : NA w0 b x l r d) (hx : x.v.f < 2 * S) (M K1 K3 : List En) (W : World) (v : Value) (lo hi : V) (hlo : lo.f < 2 * S) (hhi : hi.f < 2 * S) (hb : Below w0.heap.size w0 W) (hr : RE w0.heap.size W v M) (h1 : 0 ≤ cmpV x.v lo) (h2 : cmpV x.v hi ≤ 0) (hm : K1.length + 1 ≤ 900000)
    (il : ∀ W v, Below w0.heap.size w0 W → RE w0.heap.size W v M → Calls Try.prog 35 #[po l, v, vv lo, vv hi] W (AppP w0 W v K1))
    (ir : ∀ W v, Below w0.heap.size w0 W → RE w0.heap.size W v (K1 ++ [x]) → Calls Try.prog 35 #[po r, v, vv lo, vv hi] W (AppP w0 W v K3)) :
    Calls Try.prog 35 #[pt b, v, vv lo, vv hi] W (AppP w0 W v K3) := by
  have HN := Lib.hid h
  have HC1 := Lib.hid (fun W => vcmp_any x.v lo hx hlo W)
  have HC2 := Lib.hid (fun W => vcmp_any x.v hi hx hhi W)
  have HCI := Lib.hid (fun W => vin_any x.v lo hi hx hlo hhi W)
  have hin : inV x.v lo hi = true := by
    unfold inV
    rw [decide_eq_true h1, decide_eq_true h2]; rfl
  rw [hin] at HCI
  obtain ⟨c1, e1⟩ : ∃ c, c = cmpV x.v lo := ⟨_, rfl⟩
  obtain ⟨c2, e2⟩ : ∃ c, c = cmpV x.v hi := ⟨_, rfl⟩
  rw [← e1] at HC1 h1
  rw [← e2] at HC2 h2
  clear e1 e2 hin
  have hvo : ∀ g, W.heap.size ≤ g → v.ownBlock ≠ some g := fun g hg e => by have := (World.ownsRow.lt hr.r g e).2; omega
  obtain ⟨wb, hwb⟩ : ∃ wb, wb = (W.alloc (.cells #[.int .i64 lo.k, .bool lo.b, .int .i64 lo.n, .float .f64 lo.f, .string lo.t] 32)).alloc (.cells #[.int .i64 hi.k, .bool hi.b, .int .i64 hi.n, .float .f64 hi.f, .string hi.t] 32) := ⟨_, rfl⟩
  have hbb : Below W.heap.size W wb := by rw [hwb]; exact two_boxes W _ _
  have HS := Lib.hid ((AppS.start hr hb).grow hbb)
  have HW := Lib.hid (AppS.start HS.out.r HS.out.b)
  have hsz : wb.heap.size = W.heap.size + 2 := by rw [hwb]; simp
  have q1 : wb.heap[W.heap.size]? = some (.cells #[.int .i64 lo.k, .bool lo.b, .int .i64 lo.n, .float .f64 lo.f, .string lo.t] 32 (0, 0)) := by
    rw [hwb]
    have g1 := heap_alloc_new W (.cells #[.int .i64 lo.k, .bool lo.b, .int .i64 lo.n, .float .f64 lo.f, .string lo.t] 32)
    exact ((one_box _ (.cells #[.int .i64 hi.k, .bool hi.b, .int .i64 hi.n, .float .f64 hi.f, .string hi.t] 32)).block _ (block_lt g1)).trans g1
  have q2 : wb.heap[W.heap.size + 1]? = some (.cells #[.int .i64 hi.k, .bool hi.b, .int .i64 hi.n, .float .f64 hi.f, .string hi.t] 32 (0, 0)) := by
    rw [hwb]
    have g1 := heap_alloc_new (W.alloc (.cells #[.int .i64 lo.k, .bool lo.b, .int .i64 lo.n, .float .f64 lo.f, .string lo.t] 32)) (.cells #[.int .i64 hi.k, .bool hi.b, .int .i64 hi.n, .float .f64 hi.f, .string hi.t] 32)
    rw [show (W.alloc (.cells #[.int .i64 lo.k, .bool lo.b, .int .i64 lo.n, .float .f64 lo.f, .string lo.t] 32)).heap.size = W.heap.size + 1 by simp] at g1
    exact g1
  have HF := Lib.hid (fun w v2 K (hs : AppS w0 wb v w v2 K) => And.intro (h.below hs.b).cells8 (And.intro (vb_box q1 (hs.g.block _ (by omega) (fun e => hvo _ (Nat.le_refl _) e.symm))) (vb_box q2 (hs.g.block _ (by omega) (fun e => hvo _ (by omega) e.symm)))))
  have IL := Lib.hid il
  have IR := Lib.hid ir
  have HM : Hid (K1.length + 1 ≤ 900000) := hm
  obtain ⟨A, cc, rfl⟩ := own_slice hr.r
  obtain ⟨⟨xk, xb, xn, xf, xt⟩, xi⟩ := x
  obtain ⟨lk, lb, ln, lf, lt⟩ := lo
  obtain ⟨mk, mb, mn, mf, mt⟩ := hi
  simp only at hwb HF
  unfold VB at HF
  simp only at HF
  clear h hx hlo hhi hb hr il ir hm hvo hbb hsz q1 q2
  go_enter Try.func35, Try.ntmps35
  go_upto_region 3 with fail
  rw [← hwb]
  clear hwb
  obtain ⟨⟨k0, k1, k2, k3, k4, k5, k6, k7⟩, ⟨b0, b1, b2, b3, b4⟩, ⟨d0, d1, d2, d3, d4⟩⟩ := HF.out _ _ _ HW.out
  go_still_tail 6, (by kernel_rfl)
  change wpList _ _ _ _ _ wb.drew
  go_upto_region 4 with (go_at_call 43; (with_reducible refine (HC1.out _).mono ?_); rintro e w1 ⟨rfl, hq⟩; have H1 := Lib.hid (HW.out.grow ((Below.refl wb.heap.size wb).drew.trans hq)); clear hq)
  clear k0 k1 k2 k3 k4 k5 k6 k7 b0 b1 b2 b3 b4 d0 d1 d2 d3 d4
  obtain ⟨⟨k0, k1, k2, k3, k4, k5, k6, k7⟩, ⟨b0, b1, b2, b3, b4⟩, ⟨d0, d1, d2, d3, d4⟩⟩ := HF.out _ _ _ H1.out
  have HI1 := Lib.hid (IL.out w1.drew _ (H1.out.grow (Below.refl w1.heap.size w1).drew).b (H1.out.grow (Below.refl w1.heap.size w1).drew).r)
  go_still_tail 7, (by kernel_rfl)
  change wpList _ _ _ _ _ w1.drew
  go_upto_region 5 with (go_at_call 35; (with_reducible refine (HI1.out).mono ?_); rintro e w2 ⟨v2, rfl, hq⟩; have H2 := Lib.hid ((H1.out.grow (Below.refl w1.heap.size w1).drew).trans hq); obtain ⟨A2, a2, e2⟩ := own_slice hq.r.r; subst e2; clear hq)
  clear k0 k1 k2 k3 k4 k5 k6 k7 b0 b1 b2 b3 b4 d0 d1 d2 d3 d4
  obtain ⟨⟨k0, k1, k2, k3, k4, k5, k6, k7⟩, ⟨b0, b1, b2, b3, b4⟩, ⟨d0, d1, d2, d3, d4⟩⟩ := HF.out _ _ _ H2.out
  go_still_tail 7, (by kernel_rfl)
  change wpList _ _ _ _ _ w2.drew
  go_upto_region 6 with (go_at_call 44; (with_reducible refine (HCI.out _).mono ?_); rintro e w3 ⟨rfl, hq⟩; have H3 := Lib.hid (H2.out.grow ((Below.refl w2.heap.size w2).drew.trans hq)); clear hq)
  clear k0 k1 k2 k3 k4 k5 k6 k7 b0 b1 b2 b3 b4 d0 d1 d2 d3 d4
  obtain ⟨⟨k0, k1, k2, k3, k4, k5, k6, k7⟩, ⟨b0, b1, b2, b3, b4⟩, ⟨d0, d1, d2, d3, d4⟩⟩ := HF.out _ _ _ H3.out
  have H4 := Lib.hid (H3.out.grow ((Below.refl w3.heap.size w3).alloc (Nat.le_refl _) (.cells #[.int .i64 xk, .bool xb, .int .i64 xn, .float .f64 xf, .string xt, .int .i64 xi] 34)))
  have HC4 := Lib.hid (enew_cells w3 ⟨⟨xk, xb, xn, xf, xt⟩, xi⟩ 34)
  go_upto_region 7 with (refine wp_own 27 34 _ 6 56 Try.underlying27 infoEn rfl (by decide) (by decide) rfl (.tmp 36) (.tmp 41) rfl _ _ (ecs K1) H4.out.r.r rfl ⟨w3.heap.size, 0, none⟩ 1 1 (ec ⟨⟨xk, xb, xn, xf, xt⟩, xi⟩) rfl rfl HC4.out (ec_one1 _) (by have := HM.out; omega) ?_; intro v5 w5 hr5 hg5 ho5; have H5 := Lib.hid (H4.out.app hr5 hg5 ho5); obtain ⟨A5, a5, e5⟩ := own_slice hr5; subst e5; clear hr5 hg5 ho5)
  clear k0 k1 k2 k3 k4 k5 k6 k7 b0 b1 b2 b3 b4 d0 d1 d2 d3 d4
  obtain ⟨⟨k0, k1, k2, k3, k4, k5, k6, k7⟩, ⟨b0, b1, b2, b3, b4⟩, ⟨d0, d1, d2, d3, d4⟩⟩ := HF.out _ _ _ H5.out
  go_still_tail 6, (by kernel_rfl)
  change wpList _ _ _ _ _ w5.drew
  go_upto_region 8 with (go_at_call 43; (with_reducible refine (HC2.out _).mono ?_); rintro e w6 ⟨rfl, hq⟩; have H6 := Lib.hid (H5.out.grow ((Below.refl w5.heap.size w5).drew.trans hq)); clear hq)
  clear k0 k1 k2 k3 k4 k5 k6 k7 b0 b1 b2 b3 b4 d0 d1 d2 d3 d4
  obtain ⟨⟨k0, k1, k2, k3, k4, k5, k6, k7⟩, ⟨b0, b1, b2, b3, b4⟩, ⟨d0, d1, d2, d3, d4⟩⟩ := HF.out _ _ _ H6.out
  have HI6 := Lib.hid (IR.out w6.drew _ (H6.out.grow (Below.refl w6.heap.size w6).drew).b (H6.out.grow (Below.refl w6.heap.size w6).drew).r)
  go_still_tail 7, (by kernel_rfl)
  change wpList _ _ _ _ _ w6.drew
  go_wp2_with (go_at_call 35; (with_reducible refine (HI6.out).mono ?_); rintro e w7 ⟨v7, rfl, hq⟩; have H7 := Lib.hid ((H6.out.grow (Below.refl w6.heap.size w6).drew).trans hq); clear hq)
  go_ret
  exact ⟨_, rfl, HS.out.trans H7.out⟩
set_option maxHeartbeats 2000000 in
theorem rng_tf (h : NA w0 b x l r d) (hx : x.v.f < 2 * S) (M K1 : List En) (W : World) (v : Value) (lo hi : V) (hlo : lo.f < 2 * S) (hhi : hi.f < 2 * S) (hb : Below w0.heap.size w0 W) (hr : RE w0.heap.size W v M) (h1 : 0 ≤ cmpV x.v lo) (h2 : 0 < cmpV x.v hi) 
    (il : ∀ W v, Below w0.heap.size w0 W → RE w0.heap.size W v M → Calls Try.prog 35 #[po l, v, vv lo, vv hi] W (AppP w0 W v K1)) :
    Calls Try.prog 35 #[pt b, v, vv lo, vv hi] W (AppP w0 W v K1) := by
  have HN := Lib.hid h
  have HC1 := Lib.hid (fun W => vcmp_any x.v lo hx hlo W)
  have HC2 := Lib.hid (fun W => vcmp_any x.v hi hx hhi W)
  have HCI := Lib.hid (fun W => vin_any x.v lo hi hx hlo hhi W)
  have hin : inV x.v lo hi = false := by
    unfold inV
    rw [decide_eq_false (show ¬ cmpV x.v hi ≤ 0 by omega), Bool.and_false]
  rw [hin] at HCI
  obtain ⟨c1, e1⟩ : ∃ c, c = cmpV x.v lo := ⟨_, rfl⟩
  obtain ⟨c2, e2⟩ : ∃ c, c = cmpV x.v hi := ⟨_, rfl⟩
  rw [← e1] at HC1 h1
  rw [← e2] at HC2 h2
  clear e1 e2 hin
  have hvo : ∀ g, W.heap.size ≤ g → v.ownBlock ≠ some g := fun g hg e => by have := (World.ownsRow.lt hr.r g e).2; omega
  obtain ⟨wb, hwb⟩ : ∃ wb, wb = (W.alloc (.cells #[.int .i64 lo.k, .bool lo.b, .int .i64 lo.n, .float .f64 lo.f, .string lo.t] 32)).alloc (.cells #[.int .i64 hi.k, .bool hi.b, .int .i64 hi.n, .float .f64 hi.f, .string hi.t] 32) := ⟨_, rfl⟩
  have hbb : Below W.heap.size W wb := by rw [hwb]; exact two_boxes W _ _
  have HS := Lib.hid ((AppS.start hr hb).grow hbb)
  have HW := Lib.hid (AppS.start HS.out.r HS.out.b)
  have hsz : wb.heap.size = W.heap.size + 2 := by rw [hwb]; simp
  have q1 : wb.heap[W.heap.size]? = some (.cells #[.int .i64 lo.k, .bool lo.b, .int .i64 lo.n, .float .f64 lo.f, .string lo.t] 32 (0, 0)) := by
    rw [hwb]
    have g1 := heap_alloc_new W (.cells #[.int .i64 lo.k, .bool lo.b, .int .i64 lo.n, .float .f64 lo.f, .string lo.t] 32)
    exact ((one_box _ (.cells #[.int .i64 hi.k, .bool hi.b, .int .i64 hi.n, .float .f64 hi.f, .string hi.t] 32)).block _ (block_lt g1)).trans g1
  have q2 : wb.heap[W.heap.size + 1]? = some (.cells #[.int .i64 hi.k, .bool hi.b, .int .i64 hi.n, .float .f64 hi.f, .string hi.t] 32 (0, 0)) := by
    rw [hwb]
    have g1 := heap_alloc_new (W.alloc (.cells #[.int .i64 lo.k, .bool lo.b, .int .i64 lo.n, .float .f64 lo.f, .string lo.t] 32)) (.cells #[.int .i64 hi.k, .bool hi.b, .int .i64 hi.n, .float .f64 hi.f, .string hi.t] 32)
    rw [show (W.alloc (.cells #[.int .i64 lo.k, .bool lo.b, .int .i64 lo.n, .float .f64 lo.f, .string lo.t] 32)).heap.size = W.heap.size + 1 by simp] at g1
    exact g1
  have HF := Lib.hid (fun w v2 K (hs : AppS w0 wb v w v2 K) => And.intro (h.below hs.b).cells8 (And.intro (vb_box q1 (hs.g.block _ (by omega) (fun e => hvo _ (Nat.le_refl _) e.symm))) (vb_box q2 (hs.g.block _ (by omega) (fun e => hvo _ (by omega) e.symm)))))
  have IL := Lib.hid il
  
  
  obtain ⟨A, cc, rfl⟩ := own_slice hr.r
  obtain ⟨⟨xk, xb, xn, xf, xt⟩, xi⟩ := x
  obtain ⟨lk, lb, ln, lf, lt⟩ := lo
  obtain ⟨mk, mb, mn, mf, mt⟩ := hi
  simp only at hwb HF
  unfold VB at HF
  simp only at HF
  clear h hx hlo hhi hb hr il hvo hbb hsz q1 q2
  go_enter Try.func35, Try.ntmps35
  go_upto_region 3 with fail
  rw [← hwb]
  clear hwb
  obtain ⟨⟨k0, k1, k2, k3, k4, k5, k6, k7⟩, ⟨b0, b1, b2, b3, b4⟩, ⟨d0, d1, d2, d3, d4⟩⟩ := HF.out _ _ _ HW.out
  go_still_tail 6, (by kernel_rfl)
  change wpList _ _ _ _ _ wb.drew
  go_upto_region 4 with (go_at_call 43; (with_reducible refine (HC1.out _).mono ?_); rintro e w1 ⟨rfl, hq⟩; have H1 := Lib.hid (HW.out.grow ((Below.refl wb.heap.size wb).drew.trans hq)); clear hq)
  clear k0 k1 k2 k3 k4 k5 k6 k7 b0 b1 b2 b3 b4 d0 d1 d2 d3 d4
  obtain ⟨⟨k0, k1, k2, k3, k4, k5, k6, k7⟩, ⟨b0, b1, b2, b3, b4⟩, ⟨d0, d1, d2, d3, d4⟩⟩ := HF.out _ _ _ H1.out
  have HI1 := Lib.hid (IL.out w1.drew _ (H1.out.grow (Below.refl w1.heap.size w1).drew).b (H1.out.grow (Below.refl w1.heap.size w1).drew).r)
  go_still_tail 7, (by kernel_rfl)
  change wpList _ _ _ _ _ w1.drew
  go_upto_region 5 with (go_at_call 35; (with_reducible refine (HI1.out).mono ?_); rintro e w2 ⟨v2, rfl, hq⟩; have H2 := Lib.hid ((H1.out.grow (Below.refl w1.heap.size w1).drew).trans hq); obtain ⟨A2, a2, e2⟩ := own_slice hq.r.r; subst e2; clear hq)
  clear k0 k1 k2 k3 k4 k5 k6 k7 b0 b1 b2 b3 b4 d0 d1 d2 d3 d4
  obtain ⟨⟨k0, k1, k2, k3, k4, k5, k6, k7⟩, ⟨b0, b1, b2, b3, b4⟩, ⟨d0, d1, d2, d3, d4⟩⟩ := HF.out _ _ _ H2.out
  go_still_tail 7, (by kernel_rfl)
  change wpList _ _ _ _ _ w2.drew
  go_upto_region 7 with (go_at_call 44; (with_reducible refine (HCI.out _).mono ?_); rintro e w3 ⟨rfl, hq⟩; have H3 := Lib.hid (H2.out.grow ((Below.refl w2.heap.size w2).drew.trans hq)); clear hq)
  clear k0 k1 k2 k3 k4 k5 k6 k7 b0 b1 b2 b3 b4 d0 d1 d2 d3 d4
  obtain ⟨⟨k0, k1, k2, k3, k4, k5, k6, k7⟩, ⟨b0, b1, b2, b3, b4⟩, ⟨d0, d1, d2, d3, d4⟩⟩ := HF.out _ _ _ H3.out
  go_still_tail 6, (by kernel_rfl)
  change wpList _ _ _ _ _ w3.drew
  go_wp2_with (go_at_call 43; (with_reducible refine (HC2.out _).mono ?_); rintro e w6 ⟨rfl, hq⟩; have H6 := Lib.hid (H3.out.grow ((Below.refl w3.heap.size w3).drew.trans hq)); clear hq)
  go_ret
  exact ⟨_, rfl, HS.out.trans H6.out⟩
set_option maxHeartbeats 2000000 in
theorem rng_ft (h : NA w0 b x l r d) (hx : x.v.f < 2 * S) (M K3 : List En) (W : World) (v : Value) (lo hi : V) (hlo : lo.f < 2 * S) (hhi : hi.f < 2 * S) (hb : Below w0.heap.size w0 W) (hr : RE w0.heap.size W v M) (h1 : cmpV x.v lo < 0) (h2 : cmpV x.v hi ≤ 0) 
    (ir : ∀ W v, Below w0.heap.size w0 W → RE w0.heap.size W v M → Calls Try.prog 35 #[po r, v, vv lo, vv hi] W (AppP w0 W v K3)) :
    Calls Try.prog 35 #[pt b, v, vv lo, vv hi] W (AppP w0 W v K3) := by
  have HN := Lib.hid h
  have HC1 := Lib.hid (fun W => vcmp_any x.v lo hx hlo W)
  have HC2 := Lib.hid (fun W => vcmp_any x.v hi hx hhi W)
  have HCI := Lib.hid (fun W => vin_any x.v lo hi hx hlo hhi W)
  have hin : inV x.v lo hi = false := by
    unfold inV
    rw [decide_eq_false (show ¬ 0 ≤ cmpV x.v lo by omega), Bool.false_and]
  rw [hin] at HCI
  obtain ⟨c1, e1⟩ : ∃ c, c = cmpV x.v lo := ⟨_, rfl⟩
  obtain ⟨c2, e2⟩ : ∃ c, c = cmpV x.v hi := ⟨_, rfl⟩
  rw [← e1] at HC1 h1
  rw [← e2] at HC2 h2
  clear e1 e2 hin
  have hvo : ∀ g, W.heap.size ≤ g → v.ownBlock ≠ some g := fun g hg e => by have := (World.ownsRow.lt hr.r g e).2; omega
  obtain ⟨wb, hwb⟩ : ∃ wb, wb = (W.alloc (.cells #[.int .i64 lo.k, .bool lo.b, .int .i64 lo.n, .float .f64 lo.f, .string lo.t] 32)).alloc (.cells #[.int .i64 hi.k, .bool hi.b, .int .i64 hi.n, .float .f64 hi.f, .string hi.t] 32) := ⟨_, rfl⟩
  have hbb : Below W.heap.size W wb := by rw [hwb]; exact two_boxes W _ _
  have HS := Lib.hid ((AppS.start hr hb).grow hbb)
  have HW := Lib.hid (AppS.start HS.out.r HS.out.b)
  have hsz : wb.heap.size = W.heap.size + 2 := by rw [hwb]; simp
  have q1 : wb.heap[W.heap.size]? = some (.cells #[.int .i64 lo.k, .bool lo.b, .int .i64 lo.n, .float .f64 lo.f, .string lo.t] 32 (0, 0)) := by
    rw [hwb]
    have g1 := heap_alloc_new W (.cells #[.int .i64 lo.k, .bool lo.b, .int .i64 lo.n, .float .f64 lo.f, .string lo.t] 32)
    exact ((one_box _ (.cells #[.int .i64 hi.k, .bool hi.b, .int .i64 hi.n, .float .f64 hi.f, .string hi.t] 32)).block _ (block_lt g1)).trans g1
  have q2 : wb.heap[W.heap.size + 1]? = some (.cells #[.int .i64 hi.k, .bool hi.b, .int .i64 hi.n, .float .f64 hi.f, .string hi.t] 32 (0, 0)) := by
    rw [hwb]
    have g1 := heap_alloc_new (W.alloc (.cells #[.int .i64 lo.k, .bool lo.b, .int .i64 lo.n, .float .f64 lo.f, .string lo.t] 32)) (.cells #[.int .i64 hi.k, .bool hi.b, .int .i64 hi.n, .float .f64 hi.f, .string hi.t] 32)
    rw [show (W.alloc (.cells #[.int .i64 lo.k, .bool lo.b, .int .i64 lo.n, .float .f64 lo.f, .string lo.t] 32)).heap.size = W.heap.size + 1 by simp] at g1
    exact g1
  have HF := Lib.hid (fun w v2 K (hs : AppS w0 wb v w v2 K) => And.intro (h.below hs.b).cells8 (And.intro (vb_box q1 (hs.g.block _ (by omega) (fun e => hvo _ (Nat.le_refl _) e.symm))) (vb_box q2 (hs.g.block _ (by omega) (fun e => hvo _ (by omega) e.symm)))))
  
  have IR := Lib.hid ir
  
  obtain ⟨A, cc, rfl⟩ := own_slice hr.r
  obtain ⟨⟨xk, xb, xn, xf, xt⟩, xi⟩ := x
  obtain ⟨lk, lb, ln, lf, lt⟩ := lo
  obtain ⟨mk, mb, mn, mf, mt⟩ := hi
  simp only at hwb HF
  unfold VB at HF
  simp only at HF
  clear h hx hlo hhi hb hr ir hvo hbb hsz q1 q2
  go_enter Try.func35, Try.ntmps35
  go_upto_region 3 with fail
  rw [← hwb]
  clear hwb
  obtain ⟨⟨k0, k1, k2, k3, k4, k5, k6, k7⟩, ⟨b0, b1, b2, b3, b4⟩, ⟨d0, d1, d2, d3, d4⟩⟩ := HF.out _ _ _ HW.out
  go_still_tail 6, (by kernel_rfl)
  change wpList _ _ _ _ _ wb.drew
  go_upto_region 5 with (go_at_call 43; (with_reducible refine (HC1.out _).mono ?_); rintro e w1 ⟨rfl, hq⟩; have H1 := Lib.hid (HW.out.grow ((Below.refl wb.heap.size wb).drew.trans hq)); clear hq)
  clear k0 k1 k2 k3 k4 k5 k6 k7 b0 b1 b2 b3 b4 d0 d1 d2 d3 d4
  obtain ⟨⟨k0, k1, k2, k3, k4, k5, k6, k7⟩, ⟨b0, b1, b2, b3, b4⟩, ⟨d0, d1, d2, d3, d4⟩⟩ := HF.out _ _ _ H1.out
  go_still_tail 7, (by kernel_rfl)
  change wpList _ _ _ _ _ w1.drew
  go_upto_region 7 with (go_at_call 44; (with_reducible refine (HCI.out _).mono ?_); rintro e w3 ⟨rfl, hq⟩; have H3 := Lib.hid (H1.out.grow ((Below.refl w1.heap.size w1).drew.trans hq)); clear hq)
  clear k0 k1 k2 k3 k4 k5 k6 k7 b0 b1 b2 b3 b4 d0 d1 d2 d3 d4
  obtain ⟨⟨k0, k1, k2, k3, k4, k5, k6, k7⟩, ⟨b0, b1, b2, b3, b4⟩, ⟨d0, d1, d2, d3, d4⟩⟩ := HF.out _ _ _ H3.out
  go_still_tail 6, (by kernel_rfl)
  change wpList _ _ _ _ _ w3.drew
  go_upto_region 8 with (go_at_call 43; (with_reducible refine (HC2.out _).mono ?_); rintro e w6 ⟨rfl, hq⟩; have H6 := Lib.hid (H3.out.grow ((Below.refl w3.heap.size w3).drew.trans hq)); clear hq)
  clear k0 k1 k2 k3 k4 k5 k6 k7 b0 b1 b2 b3 b4 d0 d1 d2 d3 d4
  obtain ⟨⟨k0, k1, k2, k3, k4, k5, k6, k7⟩, ⟨b0, b1, b2, b3, b4⟩, ⟨d0, d1, d2, d3, d4⟩⟩ := HF.out _ _ _ H6.out
  have HI6 := Lib.hid (IR.out w6.drew _ (H6.out.grow (Below.refl w6.heap.size w6).drew).b (H6.out.grow (Below.refl w6.heap.size w6).drew).r)
  go_still_tail 7, (by kernel_rfl)
  change wpList _ _ _ _ _ w6.drew
  go_wp2_with (go_at_call 35; (with_reducible refine (HI6.out).mono ?_); rintro e w7 ⟨v7, rfl, hq⟩; have H7 := Lib.hid ((H6.out.grow (Below.refl w6.heap.size w6).drew).trans hq); clear hq)
  go_ret
  exact ⟨_, rfl, HS.out.trans H7.out⟩
set_option maxHeartbeats 2000000 in
theorem rng_ff (h : NA w0 b x l r d) (hx : x.v.f < 2 * S) (M : List En) (W : World) (v : Value) (lo hi : V) (hlo : lo.f < 2 * S) (hhi : hi.f < 2 * S) (hb : Below w0.heap.size w0 W) (hr : RE w0.heap.size W v M) (h1 : cmpV x.v lo < 0) (h2 : 0 < cmpV x.v hi)  :
    Calls Try.prog 35 #[pt b, v, vv lo, vv hi] W (AppP w0 W v M) := by
  have HN := Lib.hid h
  have HC1 := Lib.hid (fun W => vcmp_any x.v lo hx hlo W)
  have HC2 := Lib.hid (fun W => vcmp_any x.v hi hx hhi W)
  have HCI := Lib.hid (fun W => vin_any x.v lo hi hx hlo hhi W)
  have hin : inV x.v lo hi = false := by
    unfold inV
    rw [decide_eq_false (show ¬ cmpV x.v hi ≤ 0 by omega), Bool.and_false]
  rw [hin] at HCI
  obtain ⟨c1, e1⟩ : ∃ c, c = cmpV x.v lo := ⟨_, rfl⟩
  obtain ⟨c2, e2⟩ : ∃ c, c = cmpV x.v hi := ⟨_, rfl⟩
  rw [← e1] at HC1 h1
  rw [← e2] at HC2 h2
  clear e1 e2 hin
  have hvo : ∀ g, W.heap.size ≤ g → v.ownBlock ≠ some g := fun g hg e => by have := (World.ownsRow.lt hr.r g e).2; omega
  obtain ⟨wb, hwb⟩ : ∃ wb, wb = (W.alloc (.cells #[.int .i64 lo.k, .bool lo.b, .int .i64 lo.n, .float .f64 lo.f, .string lo.t] 32)).alloc (.cells #[.int .i64 hi.k, .bool hi.b, .int .i64 hi.n, .float .f64 hi.f, .string hi.t] 32) := ⟨_, rfl⟩
  have hbb : Below W.heap.size W wb := by rw [hwb]; exact two_boxes W _ _
  have HS := Lib.hid ((AppS.start hr hb).grow hbb)
  have HW := Lib.hid (AppS.start HS.out.r HS.out.b)
  have hsz : wb.heap.size = W.heap.size + 2 := by rw [hwb]; simp
  have q1 : wb.heap[W.heap.size]? = some (.cells #[.int .i64 lo.k, .bool lo.b, .int .i64 lo.n, .float .f64 lo.f, .string lo.t] 32 (0, 0)) := by
    rw [hwb]
    have g1 := heap_alloc_new W (.cells #[.int .i64 lo.k, .bool lo.b, .int .i64 lo.n, .float .f64 lo.f, .string lo.t] 32)
    exact ((one_box _ (.cells #[.int .i64 hi.k, .bool hi.b, .int .i64 hi.n, .float .f64 hi.f, .string hi.t] 32)).block _ (block_lt g1)).trans g1
  have q2 : wb.heap[W.heap.size + 1]? = some (.cells #[.int .i64 hi.k, .bool hi.b, .int .i64 hi.n, .float .f64 hi.f, .string hi.t] 32 (0, 0)) := by
    rw [hwb]
    have g1 := heap_alloc_new (W.alloc (.cells #[.int .i64 lo.k, .bool lo.b, .int .i64 lo.n, .float .f64 lo.f, .string lo.t] 32)) (.cells #[.int .i64 hi.k, .bool hi.b, .int .i64 hi.n, .float .f64 hi.f, .string hi.t] 32)
    rw [show (W.alloc (.cells #[.int .i64 lo.k, .bool lo.b, .int .i64 lo.n, .float .f64 lo.f, .string lo.t] 32)).heap.size = W.heap.size + 1 by simp] at g1
    exact g1
  have HF := Lib.hid (fun w v2 K (hs : AppS w0 wb v w v2 K) => And.intro (h.below hs.b).cells8 (And.intro (vb_box q1 (hs.g.block _ (by omega) (fun e => hvo _ (Nat.le_refl _) e.symm))) (vb_box q2 (hs.g.block _ (by omega) (fun e => hvo _ (by omega) e.symm)))))
  
  
  
  obtain ⟨A, cc, rfl⟩ := own_slice hr.r
  obtain ⟨⟨xk, xb, xn, xf, xt⟩, xi⟩ := x
  obtain ⟨lk, lb, ln, lf, lt⟩ := lo
  obtain ⟨mk, mb, mn, mf, mt⟩ := hi
  simp only at hwb HF
  unfold VB at HF
  simp only at HF
  clear h hx hlo hhi hb hr hvo hbb hsz q1 q2
  go_enter Try.func35, Try.ntmps35
  go_upto_region 3 with fail
  rw [← hwb]
  clear hwb
  obtain ⟨⟨k0, k1, k2, k3, k4, k5, k6, k7⟩, ⟨b0, b1, b2, b3, b4⟩, ⟨d0, d1, d2, d3, d4⟩⟩ := HF.out _ _ _ HW.out
  go_still_tail 6, (by kernel_rfl)
  change wpList _ _ _ _ _ wb.drew
  go_upto_region 5 with (go_at_call 43; (with_reducible refine (HC1.out _).mono ?_); rintro e w1 ⟨rfl, hq⟩; have H1 := Lib.hid (HW.out.grow ((Below.refl wb.heap.size wb).drew.trans hq)); clear hq)
  clear k0 k1 k2 k3 k4 k5 k6 k7 b0 b1 b2 b3 b4 d0 d1 d2 d3 d4
  obtain ⟨⟨k0, k1, k2, k3, k4, k5, k6, k7⟩, ⟨b0, b1, b2, b3, b4⟩, ⟨d0, d1, d2, d3, d4⟩⟩ := HF.out _ _ _ H1.out
  go_still_tail 7, (by kernel_rfl)
  change wpList _ _ _ _ _ w1.drew
  go_upto_region 7 with (go_at_call 44; (with_reducible refine (HCI.out _).mono ?_); rintro e w3 ⟨rfl, hq⟩; have H3 := Lib.hid (H1.out.grow ((Below.refl w1.heap.size w1).drew.trans hq)); clear hq)
  clear k0 k1 k2 k3 k4 k5 k6 k7 b0 b1 b2 b3 b4 d0 d1 d2 d3 d4
  obtain ⟨⟨k0, k1, k2, k3, k4, k5, k6, k7⟩, ⟨b0, b1, b2, b3, b4⟩, ⟨d0, d1, d2, d3, d4⟩⟩ := HF.out _ _ _ H3.out
  go_still_tail 6, (by kernel_rfl)
  change wpList _ _ _ _ _ w3.drew
  go_wp2_with (go_at_call 43; (with_reducible refine (HC2.out _).mono ?_); rintro e w6 ⟨rfl, hq⟩; have H6 := Lib.hid (H3.out.grow ((Below.refl w3.heap.size w3).drew.trans hq)); clear hq)
  go_ret
  exact ⟨_, rfl, HS.out.trans H6.out⟩
theorem appendRange_any {w0 : World} (lo hi : V) (hlo : lo.f < 2 * S) (hhi : hi.f < 2 * S) : ∀ (d : Nat) (p : Option Nat) (B : List Nat) (L M : List En) (W : World) (v : Value), TN w0 d p B L → Srt L → Below w0.heap.size w0 W → RE w0.heap.size W v M → M.length + L.length ≤ 800000 → Calls Try.prog 35 #[po p, v, vv lo, vv hi] W (AppP w0 W v (M ++ rngE L lo hi)) := by
  intro d
  induction d using Nat.strongRecOn with
  | _ d ih =>
    intro p B L M W v h hs hb hr hl
    cases p with
    | none =>
      obtain ⟨rfl, rfl, rfl⟩ := h.nil
      rw [show rngE [] lo hi = [] from rfl, List.append_nil]
      exact rng_nil M W v lo hi hb hr
    | some b =>
      obtain ⟨y, l, r, dl, dr, Bl, Br, Ll, Lr, rfl, h3, h4, rfl, rfl, hn, hl2, hr2⟩ := h.node
      rw [List.length_append, List.length_cons] at hl
      rw [po_some, rngE_app]
      have hle : (rngE Ll lo hi).length ≤ Ll.length := List.length_filter_le _ _
      have hy := hs.mid.2
      have il : ∀ W v, Below w0.heap.size w0 W → RE w0.heap.size W v M → Calls Try.prog 35 #[po l, v, vv lo, vv hi] W (AppP w0 W v (M ++ rngE Ll lo hi)) := fun W v hb hr => ih dl (by omega) l Bl Ll M W v hl2 hs.left hb hr (by omega)
      have ir : ∀ K : List En, K.length ≤ M.length + Ll.length + 1 → ∀ W v, Below w0.heap.size w0 W → RE w0.heap.size W v K → Calls Try.prog 35 #[po r, v, vv lo, vv hi] W (AppP w0 W v (K ++ rngE Lr lo hi)) := fun K hK W v hb hr => ih dr (by omega) r Br Lr K W v hr2 hs.right hb hr (by omega)
      rcases Int.lt_or_le (cmpV y.v lo) 0 with h1 | h1
      · have z1 := rngE_lo hs (hi := hi) h1
        have z0 : inE y lo hi = false := by unfold inE; rw [decide_eq_false (show ¬ 0 ≤ cmpV y.v lo by omega), Bool.false_and]
        rcases Int.lt_or_le 0 (cmpV y.v hi) with h2 | h2
        · rw [z1, z0, rngE_hi hs (lo := lo) h2]
          simp only [Bool.false_eq_true, if_false, List.append_nil]
          exact rng_ff hn hy M W v lo hi hlo hhi hb hr h1 h2
        · rw [z1, z0]
          simp only [Bool.false_eq_true, if_false, List.nil_append]
          exact rng_ft hn hy M _ W v lo hi hlo hhi hb hr h1 h2 (ir M (by omega))
      · rcases Int.lt_or_le 0 (cmpV y.v hi) with h2 | h2
        · have z0 : inE y lo hi = false := by unfold inE; rw [decide_eq_false (show ¬ cmpV y.v hi ≤ 0 by omega), Bool.and_false]
          rw [z0, rngE_hi hs (lo := lo) h2]
          simp only [Bool.false_eq_true, if_false, List.append_nil]
          exact rng_tf hn hy M _ W v lo hi hlo hhi hb hr h1 h2 il
        · have z0 : inE y lo hi = true := by unfold inE; rw [decide_eq_true h1, decide_eq_true h2]; rfl
          rw [z0]
          simp only [if_true]
          have := rng_tt hn hy M (M ++ rngE Ll lo hi) (((M ++ rngE Ll lo hi) ++ [y]) ++ rngE Lr lo hi) W v lo hi hlo hhi hb hr h1 h2 (by rw [List.length_append]; omega) il (ir _ (by simp only [List.length_append, List.length_cons, List.length_nil]; omega))
          rw [show M ++ (rngE Ll lo hi ++ ([y] ++ rngE Lr lo hi)) = ((M ++ rngE Ll lo hi) ++ [y]) ++ rngE Lr lo hi by simp]
          exact this
end
end Go.Proofs.Ytmbbmgkbhfnchaa
