/- Rows of labels, of properties and of writes of the call's own: what their cells hold. No condition but those that each fact names. -/
import Derived.Test.YtdhpphbgobakhaaZj
namespace Go.Proofs.Ytdhpphbgobakhaa
set_option maxRecDepth 100000
set_option linter.unusedVariables false
open Go.ChangeShapes Go.WideShapes Go.ChangeAt Go.RowKit
open Fl (S cmpK keyN normN)
open Val (V cmpV isB ltT)
/-- v is a row of our own in a block that is B or newer. -/
structure RO (e size B : Nat) (W : World) (v : Value) (n : Nat) (xs : List Value) : Prop where
  r : W.ownsRow 0 e size v n xs
  n : ∀ k, v.ownBlock = some k → B ≤ k
section
variable {e size B n : Nat} {W W' : World} {v v' : Value} {xs ys : List Value}
theorem RO.nil (e size B : Nat) (W : World) : RO e size B W (.slice none 0 0) 0 [] := ⟨World.ownsRow_nil _ _ _ _, fun k hk => by simp [Value.ownBlock] at hk⟩
theorem RO.below (h : RO e size B W v n xs) (hb : Below W.heap.size W W') : RO e size B W' v n xs := ⟨own_same h.r (fun k hk => hb.block k (World.ownsRow.lt h.r k hk).2), h.n⟩
theorem RO.kept {row : Option Nat} (h : RO e size B W v n xs) (hg : W.grownBy W' row) (hne : ∀ k, v.ownBlock = some k → some k ≠ row) : RO e size B W' v n xs :=
  ⟨own_same h.r (fun k hk => hg.block k (World.ownsRow.lt h.r k hk).2 (hne k hk)), h.n⟩
theorem RO.lt (h : RO e size B W v n xs) {k : Nat} (hk : v.ownBlock = some k) : k < W.heap.size := (World.ownsRow.lt h.r k hk).2
theorem RO.next (h : RO e size B W v n xs) {W1 : World} {m : Nat} (hB : B ≤ W1.heap.size) (hr : W'.ownsRow 0 e size v' m ys) (ho : v'.ownBlock = v.ownBlock ∨ v'.ownBlock = some W1.heap.size) : RO e size B W' v' m ys := by
  refine ⟨hr, fun k hk => ?_⟩
  rcases ho with e | e
  · exact h.n k (by rw [← e]; exact hk)
  · rw [e] at hk; injection hk with hk; omega
end
def prc (p : Pr) : List Value := [.string p.k, .int .i64 p.v.k, .bool p.v.b, .int .i64 p.v.n, .float .f64 p.v.f, .string p.v.t]
def pcs (l : List Pr) : List Value := l.flatMap prc
theorem prc_len (l : List Pr) : ∀ x ∈ l, (prc x).length = 6 := fun x _ => rfl
theorem pcs_snoc (l : List Pr) (x : Pr) : pcs (l ++ [x]) = pcs l ++ prc x := by simp [pcs]
theorem prc_one (x : Pr) : ∀ u ∈ prc x, u.oneCell' = true := by
  intro u hx
  simp only [prc, List.mem_cons, List.not_mem_nil, or_false] at hx
  rcases hx with rfl | rfl | rfl | rfl | rfl | rfl <;> rfl
theorem infoP : (Try.prog.info? 49).map (fun i => (i.zero, i.size, i.bytes)) = some (some (.agg #[.string ⟨#[]⟩, .int .i64 0, .bool false, .int .i64 0, .float .f64 0, .string ⟨#[]⟩]), 6, 64) := by kernel_rfl
theorem pat_cells {w : World} {g o : Nat} {x : Pr} (h : ∀ j, j < 6 → w.cell? ⟨g, o + j, none⟩ = (prc x)[j]?) : PAt w ⟨g, o, none⟩ x :=
  ⟨by have := h 0 (by omega); simpa [prc] using this, by have := h 1 (by omega); simpa [prc] using this, by have := h 2 (by omega); simpa [prc] using this, by have := h 3 (by omega); simpa [prc] using this, by have := h 4 (by omega); simpa [prc] using this, by have := h 5 (by omega); simpa [prc] using this⟩
theorem prow_own {w : World} {A : Option Addr} {c : Nat} {L : List Pr} (h : w.ownsRow 0 49 6 (.slice A L.length c) L.length (pcs L)) : PRow w A L := fun k hk => by
  obtain ⟨g, cp, e, _, hlt⟩ := World.ownsRow.form h (by omega)
  injection e with e _ _
  subst e
  refine ⟨_, ⟨g, k * 6, none⟩, rfl, by rw [Addr.add_lit, Nat.zero_add], pat_cells (fun j hj => ?_)⟩
  rw [World.ownsRow.cellAt h (k * 6 + j) (by omega)]
  exact flat_at prc 6 (prc_len L) k j hk hj
theorem new_cells (W : World) (cs : Array Value) (t : TypeId) : ∀ j u, cs.toList[j]? = some u → (W.alloc (.cells cs t)).cell? ((⟨W.heap.size, 0, none⟩ : Addr).add j) = some u := fun j u hj => by
  rw [Addr.add_lit, Nat.zero_add, cell_of_row _ _ j _ _ _ (heap_alloc_new W _), ← Array.getElem?_toList]
  exact hj
def wcs (l : List (Wr × Ns)) : List Value := l.flatMap fun x => (wrc x.1 x.2).toList
theorem wcs_snoc (l : List (Wr × Ns)) (x : Wr × Ns) : wcs (l ++ [x]) = wcs l ++ (wrc x.1 x.2).toList := by simp [wcs]
theorem wrc_one (x : Wr) (s : Ns) : ∀ u ∈ (wrc x s).toList, u.oneCell' = true := by
  intro u hx
  simp only [List.mem_cons, List.not_mem_nil, or_false] at hx
  rcases hx with rfl | rfl | rfl | rfl | rfl | rfl | rfl | rfl | rfl <;> rfl
theorem infoW : (Try.prog.info? 45).map (fun i => (i.zero, i.size, i.bytes)) = some (some (.agg #[.bool false, .int .i64 0, .bool false, .slice none 0 0, .slice none 0 0, .int .i64 0, .int .i64 0, .string ⟨#[]⟩, .float .f64 0]), 9, 112) := by kernel_rfl
theorem wat_cells {w : World} {g o : Nat} {x : Wr} {s : Ns} (h : ∀ j, j < 9 → w.cell? ⟨g, o + j, none⟩ = (wrc x s).toList[j]?) : WAt w ⟨g, o, none⟩ x s :=
  ⟨by have := h 0 (by omega); simpa [wrc] using this, by have := h 1 (by omega); simpa [wrc] using this, by have := h 2 (by omega); simpa [wrc] using this, by have := h 3 (by omega); simpa [wrc] using this, by have := h 4 (by omega); simpa [wrc] using this, by have := h 5 (by omega); simpa [wrc] using this, by have := h 6 (by omega); simpa [wrc] using this, by have := h 7 (by omega); simpa [wrc] using this, by have := h 8 (by omega); simpa [wrc] using this⟩
theorem wrow_own {w : World} {A : Option Addr} {c : Nat} {L : List (Wr × Ns)} (h : w.ownsRow 0 45 9 (.slice A L.length c) L.length (wcs L)) (hn : ∀ x ∈ L, NdAt w x.1.n x.2) : WRow w A L := fun k hk => by
  obtain ⟨g, cp, e, _, hlt⟩ := World.ownsRow.form h (by omega)
  injection e with e _ _
  subst e
  refine ⟨_, ⟨g, k * 9, none⟩, rfl, by rw [Addr.add_lit, Nat.zero_add], wat_cells (fun j hj => ?_), hn _ (List.getElem_mem hk)⟩
  rw [World.ownsRow.cellAt h (k * 9 + j) (by omega)]
  exact flat_at (fun x : Wr × Ns => (wrc x.1 x.2).toList) 9 (fun x _ => rfl) k j hk hj
section
variable {w : World} {ops : Array Oper} {rest : List Oper} {o : Oper} {a : Act} {Q : Exit → Act → World → Prop}
/-- append(v, m...) where v is our own, m any cells in memory; larger elements, fewer of them. -/
theorem own_wpL {K : Act → World → Prop} (t e : TypeId) (z : Value) (size bytes : Nat) (ht : Try.prog.underlying t = some (.slice e)) (hinfo : (Try.prog.info? e).map (fun i => (i.zero, i.size, i.bytes)) = some (some z, size, bytes)) (hzs : z.cells.size = size) (h0 : 0 < size) (hby : bytes ≤ 1000) (s x : Operand)
    (ho : o.op = .call { callee := .builtin .append, args := #[s, x], argTypes := #[t, t] }) (v : Value) (n : Nat) (xs : List Value) (hown : w.ownsRow 0 e size v n xs) (hs : a.eval s = v) (ad : Addr) (m c : Nat) (ys : List Value) (hx : a.eval x = .slice (some ad) m c) (hl : ys.length = m * size)
    (hc : ∀ j u, ys[j]? = some u → w.cell? (ad.add j) = some u) (h1 : ∀ u ∈ ys, u.oneCell' = true) (hle : n + m ≤ 10000)
    (h : ∀ v' w', w'.ownsRow 0 e size v' (n + m) (xs ++ ys) → w.grownBy w' v.ownBlock → (v'.ownBlock = v.ownBlock ∨ v'.ownBlock = some w.heap.size) → K (a.put o.dst v') w') : o.wp Try.prog a w K Q := by
  obtain ⟨i0, hi0, hz0, hz1, hz2⟩ := info_parts hinfo
  obtain ⟨v', w', hr, g1, g2, _, g4⟩ := run_append_own_at (P := Try.prog) w 0 t o.type e i0 z size bytes ht hi0 hz0 hz1 hz2 hzs h0 v n xs hown ad m c ys hl hc h1 (by unfold maxLen; omega)
    (by have : (n + m) * bytes ≤ 10000 * 1000 := Nat.mul_le_mul hle hby
        omega) (Nat.zero_le _)
  unfold Oper.wp execOp
  simp only [ho, resolve, invoke, builtin, Sem.run_bind, Sem.run_pure, Result.andThen_ok, List.map_toArray, List.map_cons, List.map_nil, hs, hx, hr]
  exact h v' w' g1 g2 g4
theorem wp_ownL (t e : TypeId) (z : Value) (size bytes : Nat) (ht : Try.prog.underlying t = some (.slice e)) (hinfo : (Try.prog.info? e).map (fun i => (i.zero, i.size, i.bytes)) = some (some z, size, bytes)) (hzs : z.cells.size = size) (h0 : 0 < size) (hby : bytes ≤ 1000) (hgd : o.guard = none) (s x : Operand)
    (ho : o.op = .call { callee := .builtin .append, args := #[s, x], argTypes := #[t, t] }) (v : Value) (n : Nat) (xs : List Value) (hown : w.ownsRow 0 e size v n xs) (hs : a.eval s = v) (ad : Addr) (m c : Nat) (ys : List Value) (hx : a.eval x = .slice (some ad) m c) (hl : ys.length = m * size)
    (hc : ∀ j u, ys[j]? = some u → w.cell? (ad.add j) = some u) (h1 : ∀ u ∈ ys, u.oneCell' = true) (hle : n + m ≤ 10000)
    (h : ∀ v' w', w'.ownsRow 0 e size v' (n + m) (xs ++ ys) → w.grownBy w' v.ownBlock → (v'.ownBlock = v.ownBlock ∨ v'.ownBlock = some w.heap.size) → wpList Try.prog ops Q rest (a.put o.dst v') w') : wpList Try.prog ops Q (o :: rest) a w :=
  wpList_plain hgd fun K hK => own_wpL t e z size bytes ht hinfo hzs h0 hby s x ho v n xs hown hs ad m c ys hx hl hc h1 hle fun v' w' h1 h2 h3 => hK _ _ (h v' w' h1 h2 h3)
end
end Go.Proofs.Ytdhpphbgobakhaa
