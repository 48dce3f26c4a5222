/- Entries in memory (ec, EAt, ERow), a row of them of the call's own (RE, NE); order of the reference. Conditions: words of float64 are below 2^64. -/
import Derived.Test.YtmbbmgkbhfnchaaUa
import Derived.Test.YtmbbmgkbhfnchaaKq
import Derived.Test.YtmbbmgkbhfnchaaVw
namespace Go.Proofs.Ytmbbmgkbhfnchaa
set_option maxRecDepth 100000
set_option linter.unusedVariables false
open Go.ChangeShapes Go.WideShapes Go.ChangeAt Go.RowKit
open Fl (S)
open Val (V cmpV cmpI isB)
/-- An entry as the model holds it. -/
abbrev ev (x : En) : Value := .agg #[.int .i64 x.v.k, .bool x.v.b, .int .i64 x.v.n, .float .f64 x.v.f, .string x.v.t, .int .i64 x.i]
def ec (x : En) : List Value := [.int .i64 x.v.k, .bool x.v.b, .int .i64 x.v.n, .float .f64 x.v.f, .string x.v.t, .int .i64 x.i]
def ecs (L : List En) : List Value := L.flatMap ec
theorem ec_len (L : List En) : ∀ x ∈ L, (ec x).length = 6 := fun x _ => rfl
theorem ecs_len (L : List En) : (ecs L).length = L.length * 6 := flat_len ec 6 L (ec_len L)
theorem ecs_app (I J : List En) : ecs (I ++ J) = ecs I ++ ecs J := by simp [ecs]
theorem ecs_take (I : List En) (i : Nat) (hi : i ≤ I.length) : (ecs I).take (i * 6) = ecs (I.take i) := by
  have e : I = I.take i ++ I.drop i := (List.take_append_drop i I).symm
  have hl : (ecs (I.take i)).length = i * 6 := by rw [ecs_len, List.length_take, Nat.min_eq_left hi]
  have e2 : ecs I = ecs (I.take i) ++ ecs (I.drop i) := by rw [← ecs_app, ← e]
  rw [e2, ← hl, List.take_left]
theorem ec_one (L : List En) : ∀ u ∈ ecs L, u.oneCell' = true := by
  intro u hu
  obtain ⟨x, _, hx⟩ := List.mem_flatMap.1 hu
  simp only [ec, List.mem_cons, List.not_mem_nil, or_false] at hx
  rcases hx with rfl | rfl | rfl | rfl | rfl | rfl <;> rfl
theorem infoEn : (Try.prog.info? 34).map (fun i => (i.zero, i.size, i.bytes)) = some (some (.agg #[.int .i64 0, .bool false, .int .i64 0, .float .f64 0, .string ⟨#[]⟩, .int .i64 0]), 6, 56) := by kernel_rfl
/-- At p lies the entry x. -/
structure EAt (w : World) (p : Addr) (x : En) : Prop where
  c0 : w.cell? p = some (.int .i64 x.v.k)
  c1 : w.cell? ⟨p.block, p.off + 1, none⟩ = some (.bool x.v.b)
  c2 : w.cell? ⟨p.block, p.off + 2, none⟩ = some (.int .i64 x.v.n)
  c3 : w.cell? ⟨p.block, p.off + 3, none⟩ = some (.float .f64 x.v.f)
  c4 : w.cell? ⟨p.block, p.off + 4, none⟩ = some (.string x.v.t)
  c5 : w.cell? ⟨p.block, p.off + 5, none⟩ = some (.int .i64 x.i)
theorem EAt.below {w w' : World} {p : Addr} {x : En} (h : EAt w p x) (hb : Below w.heap.size w w') : EAt w' p x :=
  ⟨(hb.cell (World.block_lt_of_cell? w _ h.c0)).trans h.c0, (hb.cell (World.block_lt_of_cell? w _ h.c1)).trans h.c1, (hb.cell (World.block_lt_of_cell? w _ h.c2)).trans h.c2, (hb.cell (World.block_lt_of_cell? w _ h.c3)).trans h.c3, (hb.cell (World.block_lt_of_cell? w _ h.c4)).trans h.c4, (hb.cell (World.block_lt_of_cell? w _ h.c5)).trans h.c5⟩
theorem eat_cells {w : World} {g o : Nat} {x : En} (h : ∀ j, j < 6 → w.cell? ⟨g, o + j, none⟩ = (ec x)[j]?) : EAt w ⟨g, o, none⟩ x :=
  ⟨by have := h 0 (by omega); simpa [ec] using this, by have := h 1 (by omega); simpa [ec] using this, by have := h 2 (by omega); simpa [ec] using this, by have := h 3 (by omega); simpa [ec] using this, by have := h 4 (by omega); simpa [ec] using this, by have := h 5 (by omega); simpa [ec] using this⟩
/-- The entries behind A are L. -/
def ERow (w : World) (A : Option Addr) (L : List En) : Prop := ∀ k (h : k < L.length), ∃ ad pk, A = some ad ∧ ad.add (k * 6) = pk ∧ EAt w pk L[k]
theorem ERow.below {w w' : World} {A : Option Addr} {L : List En} (h : ERow w A L) (hb : Below w.heap.size w w') : ERow w' A L := fun k hk => by
  obtain ⟨ad, pk, h1, h2, h3⟩ := h k hk
  exact ⟨ad, pk, h1, h2, h3.below hb⟩
theorem erow_own {w : World} {A : Option Addr} {c : Nat} {L : List En} (h : w.ownsRow 0 34 6 (.slice A L.length c) L.length (ecs L)) : ERow w A L := fun k hk => by
  obtain ⟨g, cp, e, _, hlt⟩ := World.ownsRow.form h (by omega)
  injection e with e _ _
  subst e
  refine ⟨_, ⟨g, k * 6, none⟩, rfl, by rw [Addr.add_lit, Nat.zero_add], eat_cells (fun j hj => ?_)⟩
  rw [World.ownsRow.cellAt h (k * 6 + j) (by omega)]
  exact flat_at ec 6 (ec_len L) k j hk hj
/-- v is a row of entries of our own that reads L, in a block that is B or newer. -/
structure RE (B : Nat) (W : World) (v : Value) (L : List En) : Prop where
  r : W.ownsRow 0 34 6 v L.length (ecs L)
  n : ∀ k, v.ownBlock = some k → B ≤ k
section
variable {B : Nat} {W W' : World} {v v' : Value} {L : List En} {x : En}
theorem RE.nil (B : Nat) (W : World) : RE B W (.slice none 0 0) [] := ⟨World.ownsRow_nil _ _ _ _, fun k hk => by simp [Value.ownBlock] at hk⟩
theorem RE.below (h : RE B W v L) (hb : Below W.heap.size W W') : RE B W' v L := ⟨own_same h.r (fun k hk => hb.block k (World.ownsRow.lt h.r k hk).2), h.n⟩
theorem RE.app (h : RE B W v L) {W1 : World} (hB : B ≤ W1.heap.size) (hr : W'.ownsRow 0 34 6 v' (L.length + 1) (ecs L ++ ec x)) (ho : v'.ownBlock = v.ownBlock ∨ v'.ownBlock = some W1.heap.size) : RE B W' v' (L ++ [x]) := by
  refine ⟨by rw [List.length_append, ecs_app]; exact (by simpa [ecs] using hr), fun k hk => ?_⟩
  rcases ho with e | e
  · exact h.n k (by rw [← e]; exact hk)
  · rw [e] at hk; injection hk with hk; omega
theorem RE.row (h : RE B W v L) : ∃ A c, v = .slice A L.length c ∧ ERow W A L := by
  obtain ⟨A, c, rfl⟩ := own_slice h.r
  exact ⟨A, c, rfl, erow_own h.r⟩
end
theorem enew_cells (W : World) (x : En) (t : TypeId) : ∀ j u, (ec x)[j]? = some u → (W.alloc (.cells #[.int .i64 x.v.k, .bool x.v.b, .int .i64 x.v.n, .float .f64 x.v.f, .string x.v.t, .int .i64 x.i] t)).cell? ((⟨W.heap.size, 0, none⟩ : Addr).add j) = some u := fun j u hj => by
  rw [Addr.add_lit, Nat.zero_add, cell_of_row _ _ j _ _ _ (heap_alloc_new W _)]
  rw [← Array.getElem?_toList]
  exact hj
theorem ec_one1 (x : En) : ∀ u ∈ ec x, u.oneCell' = true := by
  intro u hx
  simp only [ec, List.mem_cons, List.not_mem_nil, or_false] at hx
  rcases hx with rfl | rfl | rfl | rfl | rfl | rfl <;> rfl
theorem one_entry (W : World) (x : En) : (W.alloc (.cells #[.int .i64 x.v.k, .bool x.v.b, .int .i64 x.v.n, .float .f64 x.v.f, .string x.v.t, .int .i64 x.i] 34)).ownsRow 0 34 6 (.slice (some ⟨W.heap.size, 0, none⟩) 1 1) 1 (ecs [x]) :=
  World.ownsRow_lit W #[.int .i64 x.v.k, .bool x.v.b, .int .i64 x.v.n, .float .f64 x.v.f, .string x.v.t, .int .i64 x.i] 1 (Nat.zero_le _) (by unfold maxLen; omega) rfl
end Go.Proofs.Ytmbbmgkbhfnchaa
