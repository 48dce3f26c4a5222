/- appendAll of the program's nodes: the entries in order behind a row of the call's own. Conditions: the nodes lie in memory; fewer than 900,000 entries. -/
import Derived.Test.YtmbbmgkbhfnchaaXg
import Derived.Test.YtmbbmgkbhfnchaaUe
import Derived.Deep.RegionHeld3
namespace Go.Proofs.Ytmbbmgkbhfnchaa
set_option maxRecDepth 100000
set_option linter.unusedVariables false
open Go.ChangeShapes Go.WideShapes Go.ChangeAt Go.RowKit
open Fl (S)
open Val (V cmpV cmpI isB)
/-- From W, where v0 was our own row, to w, where v is: it reads K; only the row and what is new have turned. -/
structure AppS (w0 W : World) (v0 : Value) (w : World) (v : Value) (K : List En) : Prop where
  r : RE w0.heap.size w v K
  b : Below w0.heap.size w0 w
  g : W.grownBy w v0.ownBlock
  o : ∀ k, v.ownBlock = some k → v0.ownBlock = some k ∨ W.heap.size ≤ k
def AppP (w0 W : World) (v0 : Value) (K : List En) (e : Ending) (w : World) : Prop := ∃ v, e = .returned v ∧ AppS w0 W v0 w v K
section
variable {w0 W w w' : World} {v0 v v' : Value} {K K' : List En} {x : En}
theorem AppS.start (h : RE w0.heap.size W v K) (hb : Below w0.heap.size w0 W) : AppS w0 W v W v K := ⟨h, hb, ⟨rfl, rfl, rfl, Nat.le_refl _, fun _ _ _ => rfl⟩, fun k hk => .inl hk⟩
theorem AppS.trans (h : AppS w0 W v0 w v K) (k : AppS w0 w v w' v' K') : AppS w0 W v0 w' v' K' := by
  refine ⟨k.r, k.b, ⟨k.g.os.trans h.g.os, k.g.tape.trans h.g.tape, k.g.output.trans h.g.output, Nat.le_trans h.g.size k.g.size, fun j hj hne => ?_⟩, fun j hj => ?_⟩
  · refine (k.g.block j (Nat.lt_of_lt_of_le hj h.g.size) (fun e => ?_)).trans (h.g.block j hj hne)
    rcases h.o j e.symm with h1 | h1
    · exact hne h1.symm
    · omega
  · rcases k.o j hj with h1 | h1
    · exact h.o j h1
    · exact .inr (Nat.le_trans h.g.size h1)
theorem AppS.grow (h : AppS w0 W v0 w v K) (hb : Below w.heap.size w w') : AppS w0 W v0 w' v K :=
  h.trans ⟨h.r.below hb, bnext h.b hb, grown_of_below hb _, fun k hk => .inl hk⟩
theorem AppS.app (h : AppS w0 W v0 w v K) (hr : w'.ownsRow 0 34 6 v' (K.length + 1) (ecs K ++ ec x)) (hg : w.grownBy w' v.ownBlock) (ho : v'.ownBlock = v.ownBlock ∨ v'.ownBlock = some w.heap.size) : AppS w0 W v0 w' v' (K ++ [x]) :=
  h.trans ⟨h.r.app h.b.size hr ho, h.b.grown hg h.b.size h.r.n, hg, fun k hk => by
    rcases ho with e | e
    · exact .inl (by rw [← e]; exact hk)
    · rw [e] at hk; injection hk with hk; exact .inr (by omega)⟩
/-- The cells of an entry that were laid before stay. -/
theorem AppS.keep (h : AppS w0 W v0 w v K) {g : Nat} (hg : g < W.heap.size) (hn : v0.ownBlock ≠ some g) {xs : List Value} (hc : ∀ j u, xs[j]? = some u → W.cell? ((⟨g, 0, none⟩ : Addr).add j) = some u) : ∀ j u, xs[j]? = some u → w.cell? ((⟨g, 0, none⟩ : Addr).add j) = some u := fun j u hj => by
  rw [World.cell?_of_block (w := W) (h.g.block _ (by rw [add_block]; exact hg) (by rw [add_block]; exact fun e => hn e.symm))]
  exact hc j u hj
end
section
variable {w0 : World} {b : Nat} {x : En} {l r p : Option Nat} {d dl dr : Nat} {Bl Br B : List Nat} {Ll Lr L : List En}
theorem app_nil (M : List En) (W : World) (v : Value) (hb : Below w0.heap.size w0 W) (hr : RE w0.heap.size W v M) : Calls Try.prog 33 #[po none, v] W (AppP w0 W v M) := by
  have HR := Lib.hid (AppS.start hr hb)
  obtain ⟨A, c, rfl⟩ := own_slice hr.r
  clear hr hb
  rw [po_none]
  go_enter Try.func33, Try.ntmps33
  go_wp2
  go_ret
  exact ⟨_, rfl, HR.out⟩
theorem NA.cells7 {w : World} (h : NA w b x l r d) : w.cell? ⟨b, 0, none⟩ = some (.int .i64 x.v.k) ∧ w.cell? ⟨b, 1, none⟩ = some (.bool x.v.b) ∧ w.cell? ⟨b, 2, none⟩ = some (.int .i64 x.v.n) ∧ w.cell? ⟨b, 3, none⟩ = some (.float .f64 x.v.f) ∧ w.cell? ⟨b, 4, none⟩ = some (.string x.v.t) ∧ w.cell? ⟨b, 5, none⟩ = some (.int .i64 x.i) ∧ w.cell? ⟨b, 6, none⟩ = some (po l) := by
  obtain ⟨k0, k1, k2, k3, k4, k5, k6, _⟩ := h.cells
  exact ⟨k0, k1, k2, k3, k4, k5, k6⟩
theorem app_node (h : NA w0 b x l r d) (M K1 K2 : List En) (W : World) (v : Value) (hb : Below w0.heap.size w0 W) (hr : RE w0.heap.size W v M) (hm : K1.length + 1 ≤ 900000)
    (il : ∀ W v, Below w0.heap.size w0 W → RE w0.heap.size W v M → Calls Try.prog 33 #[po l, v] W (AppP w0 W v K1))
    (ir : ∀ W v, Below w0.heap.size w0 W → RE w0.heap.size W v (K1 ++ [x]) → Calls Try.prog 33 #[po r, v] W (AppP w0 W v K2)) :
    Calls Try.prog 33 #[pt b, v] W (AppP w0 W v K2) := by
  have HN := Lib.hid h
  have s0 := AppS.start hr hb
  have sd := s0.grow (Below.refl W.heap.size W).drew
  have hal := (Below.refl W.heap.size W).alloc (Nat.le_refl _) (.cells #[.int .i64 x.v.k, .bool x.v.b, .int .i64 x.v.n, .float .f64 x.v.f, .string x.v.t, .int .i64 x.i] 34)
  have sa := s0.grow hal.drew
  have HSD := Lib.hid sd
  have HSA := Lib.hid sa
  have IL := Lib.hid (il _ _ sd.b sd.r)
  have ILA := Lib.hid (il _ _ sa.b sa.r)
  have IR := Lib.hid ir
  have HLn : Hid (K1.length + 1 ≤ 900000) := hm
  have HVO : Hid (v.ownBlock ≠ some W.heap.size) := fun e => by have := (World.ownsRow.lt hr.r _ e).2; omega
  have HZ : Hid (W.heap.size < (W.alloc (.cells #[.int .i64 x.v.k, .bool x.v.b, .int .i64 x.v.n, .float .f64 x.v.f, .string x.v.t, .int .i64 x.i] 34)).drew.heap.size) := by
    have : (W.alloc (.cells #[.int .i64 x.v.k, .bool x.v.b, .int .i64 x.v.n, .float .f64 x.v.f, .string x.v.t, .int .i64 x.i] 34)).drew.heap.size = W.heap.size + 1 := by simp
    simp only [Hid]; omega
  have HCA := Lib.hid (enew_cells W x 34)
  have hS0 := (h.below sd.b).cells7
  have hSA := (h.below sa.b).cells7
  obtain ⟨A, c, rfl⟩ := own_slice hr.r
  clear h hb hr hm il ir s0 sd sa hal
  obtain ⟨⟨xk, xb, xn, xf, xt⟩, xi⟩ := x
  simp only at hS0 hSA HSA HZ HCA ILA
  go_enter Try.func33, Try.ntmps33
  go_upto_region 3 with fail
  go_region_held3 (fun V => V.cell? ⟨b, 0, none⟩ = some (.int .i64 xk) ∧ V.cell? ⟨b, 1, none⟩ = some (.bool xb) ∧ V.cell? ⟨b, 2, none⟩ = some (.int .i64 xn) ∧ V.cell? ⟨b, 3, none⟩ = some (.float .f64 xf) ∧ V.cell? ⟨b, 4, none⟩ = some (.string xt) ∧ V.cell? ⟨b, 5, none⟩ = some (.int .i64 xi) ∧ V.cell? ⟨b, 6, none⟩ = some (po l)) (first | exact hS0 | exact hSA | exact hS1 | exact hS2 | exact hS3)
    (first
      | (rw [if_pos (by rfl)]; (refine own_wp 27 34 _ 6 56 Try.underlying27 infoEn rfl (by decide) (by decide) (.tmp 13) (.tmp 18) rfl _ _ (ecs K1) H2.out.r.r rfl ⟨w1.heap.size, 0, none⟩ 1 1 (ec ⟨⟨xk, xb, xn, xf, xt⟩, xi⟩) rfl rfl HC2.out (ec_one1 _) (by have := HLn.out; omega) ?_); intro v3 w3 hr3 hg3 ho3; have H3 := Lib.hid (H2.out.app hr3 hg3 ho3); have hS3 := (HN.out.below H3.out.b).cells7; clear hr3 hg3 ho3)
      | (rw [if_pos (by rfl)]; (refine own_wp 27 34 _ 6 56 Try.underlying27 infoEn rfl (by decide) (by decide) (.tmp 13) (.tmp 18) rfl _ _ (ecs K1) H1.out.r.r rfl ⟨W.heap.size, 0, none⟩ 1 1 (ec ⟨⟨xk, xb, xn, xf, xt⟩, xi⟩) rfl rfl HC1.out (ec_one1 _) (by have := HLn.out; omega) ?_); intro v3 w3 hr3 hg3 ho3; have H3 := Lib.hid (H1.out.app hr3 hg3 ho3); have hS3 := (HN.out.below H3.out.b).cells7; clear hr3 hg3 ho3)
      | (go_at_call 33; (with_reducible refine (IL.out).mono ?_); rintro e w1 ⟨v1, rfl, h1⟩; have hS1 := (HN.out.below h1.b).cells7; have h2 := (HSD.out.trans h1).grow ((Below.refl w1.heap.size w1).alloc (Nat.le_refl _) (.cells #[.int .i64 xk, .bool xb, .int .i64 xn, .float .f64 xf, .string xt, .int .i64 xi] 34)); have H2 := Lib.hid h2; have hS2 := (HN.out.below h2.b).cells7; have HC2 := Lib.hid (enew_cells w1 ⟨⟨xk, xb, xn, xf, xt⟩, xi⟩ 34); obtain ⟨A1, c1, rfl⟩ := own_slice h1.r.r; clear h1 h2)
      | (go_at_call 33; (with_reducible refine (ILA.out).mono ?_); rintro e w1 ⟨v1, rfl, h1⟩; have hS1 := (HN.out.below h1.b).cells7; have HC1 := Lib.hid (h1.keep HZ.out HVO.out HCA.out); have H1 := Lib.hid (HSA.out.trans h1); obtain ⟨A1, c1, rfl⟩ := own_slice h1.r.r; clear h1))
  all_goals
    obtain ⟨A3, c3, e3⟩ := own_slice H3.out.r.r
    simp only [List.length_append, List.length_cons, List.length_nil, Nat.zero_add] at e3
    subst e3
    have HI := Lib.hid (IR.out w3 _ H3.out.b H3.out.r)
    obtain ⟨_, _, _, _, _, _, _, q7, _⟩ := (HN.out.below H3.out.b).cells
    clear hS0 hSA hS1 hS3
    go_wp2_with (go_at_call 33; (with_reducible refine (HI.out).mono ?_); rintro e w4 ⟨v4, rfl, h4⟩; have H4 := Lib.hid (H3.out.trans h4); clear h4)
    go_ret
    exact ⟨_, rfl, H4.out⟩
theorem appendAll_any {w0 : World} : ∀ (d : Nat) (p : Option Nat) (B : List Nat) (L M : List En) (W : World) (v : Value), TN w0 d p B L → Below w0.heap.size w0 W → RE w0.heap.size W v M → M.length + L.length ≤ 900000 → Calls Try.prog 33 #[po p, v] W (AppP w0 W v (M ++ L)) := by
  intro d
  induction d using Nat.strongRecOn with
  | _ d ih =>
    intro p B L M W v h hb hr hl
    cases p with
    | none =>
      obtain ⟨rfl, rfl, rfl⟩ := h.nil
      rw [List.append_nil]
      exact app_nil M W v hb hr
    | some b =>
      obtain ⟨y, l, r, dl, dr, Bl, Br, Ll, Lr, rfl, h3, h4, rfl, rfl, hn, hl2, hr2⟩ := h.node
      rw [List.length_append, List.length_cons] at hl
      rw [po_some]
      refine app_node hn M (M ++ Ll) (M ++ (Ll ++ y :: Lr)) W v hb hr (by rw [List.length_append]; omega) (fun W v hb hr => ih dl (by omega) l Bl Ll M W v hl2 hb hr (by omega)) (fun W v hb hr => ?_)
      have := ih dr (by omega) r Br Lr ((M ++ Ll) ++ [y]) W v hr2 hb hr (by simp only [List.length_append, List.length_cons, List.length_nil]; omega)
      rw [show M ++ (Ll ++ y :: Lr) = ((M ++ Ll) ++ [y]) ++ Lr by simp]
      exact this
end
end Go.Proofs.Ytmbbmgkbhfnchaa
