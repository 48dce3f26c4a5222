/- Append at rows of our own, both of them; the first elements of a row; draws added. No condition but those that each fact names. -/
import Derived.Test.YtmbbmgkbhfnchaaKg
namespace Go.Proofs.Ytmbbmgkbhfnchaa
set_option maxRecDepth 100000
set_option linter.unusedVariables false
open Go.ChangeShapes Go.WideShapes Go.ChangeAt Go.RowKit
section
variable {w : World} {ops : Array Oper} {rest : List Oper} {o : Oper} {a : Act} {Q : Exit → Act → World → Prop}
/-- append(v, m...) where both are our own. -/
theorem own_wp_row {K : Act → World → Prop} (t e : TypeId) (z : Value) (size bytes : Nat) (ht : Try.prog.underlying t = some (.slice e)) (hinfo : (Try.prog.info? e).map (fun i => (i.zero, i.size, i.bytes)) = some (some z, size, bytes)) (hzs : z.cells.size = size) (h0 : 0 < size) (hby : bytes ≤ 100) (s x : Operand)
    (ho : o.op = .call { callee := .builtin .append, args := #[s, x], argTypes := #[t, t] }) (v v2 : Value) (n m : Nat) (xs ys : List Value) (hown : w.ownsRow 0 e size v n xs) (hs : a.eval s = v) (hsrc : w.ownsRow 0 e size v2 m ys) (hx : a.eval x = v2) (h1 : ∀ u ∈ ys, u.oneCell' = true) (hle : n + m ≤ 1000000)
    (h : ∀ v' w', w'.ownsRow 0 e size v' (n + m) (xs ++ ys) → w.grownBy w' v.ownBlock → (v'.ownBlock = v.ownBlock ∨ v'.ownBlock = some w.heap.size) → K (a.put o.dst v') w') : o.wp Try.prog a w K Q := by
  rcases hsrc.2 with ⟨hv, hm0⟩ | ⟨g, cap, cur, hv, _⟩
  · obtain ⟨i0, hi0, hz0, hz1, hz2⟩ := info_parts hinfo
    have hrun := run_append_owned_none (P := Try.prog) (w := w) 0 t o.type e i0 size ht hi0 v _ _ hown
    have hys : ys = [] := List.length_eq_zero_iff.1 (by rw [hsrc.1, hm0, Nat.zero_mul])
    subst hys
    subst hm0
    unfold Oper.wp
    simp [execOp, ho, resolve, invoke, builtin, hs, hx, hv, hrun, Result.andThen]
    exact h v w (by rw [List.append_nil]; exact hown) (World.grownBy.refl _ _) (.inl rfl)
  · subst hv
    exact own_wp t e z size bytes ht hinfo hzs h0 hby s x ho v n xs hown hs ⟨g, 0, none⟩ m cap ys hx hsrc.1 (fun j u hj => World.ownsRow.cells hsrc (g := g) rfl j u hj) h1 hle h
theorem wp_own_row (t e : TypeId) (z : Value) (size bytes : Nat) (ht : Try.prog.underlying t = some (.slice e)) (hinfo : (Try.prog.info? e).map (fun i => (i.zero, i.size, i.bytes)) = some (some z, size, bytes)) (hzs : z.cells.size = size) (h0 : 0 < size) (hby : bytes ≤ 100) (hgd : o.guard = none) (s x : Operand)
    (ho : o.op = .call { callee := .builtin .append, args := #[s, x], argTypes := #[t, t] }) (v v2 : Value) (n m : Nat) (xs ys : List Value) (hown : w.ownsRow 0 e size v n xs) (hs : a.eval s = v) (hsrc : w.ownsRow 0 e size v2 m ys) (hx : a.eval x = v2) (h1 : ∀ u ∈ ys, u.oneCell' = true) (hle : n + m ≤ 1000000)
    (h : ∀ v' w', w'.ownsRow 0 e size v' (n + m) (xs ++ ys) → w.grownBy w' v.ownBlock → (v'.ownBlock = v.ownBlock ∨ v'.ownBlock = some w.heap.size) → wpList Try.prog ops Q rest (a.put o.dst v') w') : wpList Try.prog ops Q (o :: rest) a w :=
  wpList_plain hgd fun K hK => own_wp_row t e z size bytes ht hinfo hzs h0 hby s x ho v v2 n m xs ys hown hs hsrc hx h1 hle fun v' w' h1 h2 h3 => hK _ _ (h v' w' h1 h2 h3)
end
/-- The first i elements of a row. -/
theorem own_take {w : World} {e size n c g i : Nat} {xs : List Value} (h : w.ownsRow 0 e size (.slice (some ⟨g, 0, none⟩) n c) n xs) (hi : i ≤ n) : w.ownsRow 0 e size (.slice (some ⟨g, 0, none⟩) i c) i (xs.take (i * size)) := by
  obtain ⟨cur, q1, q2, q3, q4, q5⟩ := own_open h
  have hle : i * size ≤ n * size := Nat.mul_le_mul_right _ hi
  refine own_shut (by rw [List.length_take, h.1]; omega) q1 (by omega) q3 q4 ?_
  rw [← q5, List.take_take, Nat.min_eq_left hle]
theorem drewN_add (w : World) (m n : Nat) : (w.drewN m).drewN n = w.drewN (m + n) := by
  simp [World.drewN, Nat.add_assoc]
theorem drew_more {w wr : World} (h : ∃ m, wr = w.drewN m) (n : Nat) : ∃ m, wr.drewN n = w.drewN m := by
  obtain ⟨m, rfl⟩ := h
  exact ⟨_, drewN_add w m n⟩
end Go.Proofs.Ytmbbmgkbhfnchaa
