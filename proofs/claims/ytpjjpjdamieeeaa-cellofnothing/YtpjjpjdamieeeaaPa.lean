/- Rows that begin anywhere in a block (ORow): what is known of them, a part of them, append at them. No condition but those that each fact names. -/
import Derived.Test.YtpjjpjdamieeeaaNc
namespace Go.Proofs.Ytpjjpjdamieeeaa
set_option maxRecDepth 100000
set_option linter.unusedVariables false
open Go.ChangeShapes Go.WideShapes Go.ChangeAt Go.RowKit
/-- v is a row of n elements of type e, size cells each, that reads xs; it lies in a block of its own, wherever it begins there. -/
def ORow (w : World) (e size : Nat) (v : Value) (n : Nat) (xs : List Value) : Prop :=
  xs.length = n * size ∧
  ((v = .slice none 0 0 ∧ n = 0) ∨
   ∃ g o cap cur, v = .slice (some ⟨g, o, none⟩) n cap ∧ w.heap[g]? = some (.cells cur e (0, 0)) ∧ n ≤ cap ∧ cap ≤ maxLen ∧ o + cap * size ≤ cur.size ∧ (cur.toList.drop o).take (n * size) = xs)
section
variable {w w' : World} {e size n c g o : Nat} {v : Value} {xs : List Value}
theorem orow_nil (w : World) (e size : Nat) : ORow w e size (.slice none 0 0) 0 [] := ⟨by simp, .inl ⟨rfl, rfl⟩⟩
theorem orow_own (h : w.ownsRow 0 e size v n xs) : ORow w e size v n xs := by
  refine ⟨h.1, ?_⟩
  rcases h.2 with hn | ⟨g, cap, cur, rfl, _, h1, h2, h3, h4, h5⟩
  · exact .inl hn
  · exact .inr ⟨g, 0, cap, cur, rfl, h1, h2, h3, by omega, by simpa using h5⟩
theorem ORow.same (h : ORow w e size v n xs) (hw : ∀ k, v.ownBlock = some k → w'.heap[k]? = w.heap[k]?) : ORow w' e size v n xs := by
  refine ⟨h.1, ?_⟩
  rcases h.2 with hn | ⟨g', o, cap, cur, rfl, h1, rest⟩
  · exact .inl hn
  · exact .inr ⟨g', o, cap, cur, rfl, (hw g' rfl).trans h1, rest⟩
theorem ORow.lt (h : ORow w e size v n xs) : ∀ k, v.ownBlock = some k → k < w.heap.size := fun k hk => by
  rcases h.2 with ⟨rfl, _⟩ | ⟨g', o, cap, cur, rfl, h1, _⟩
  · cases hk
  · simp [Value.ownBlock] at hk; subst hk; exact block_lt h1
theorem ORow.type (h : ORow w e size v n xs) {k : Nat} (hk : v.ownBlock = some k) : ∃ cur, w.heap[k]? = some (.cells cur e (0, 0)) := by
  rcases h.2 with ⟨rfl, _⟩ | ⟨g', o, cap, cur, rfl, h1, _⟩
  · cases hk
  · simp [Value.ownBlock] at hk; subst hk; exact ⟨cur, h1⟩
theorem ORow.slice (h : ORow w e size v n xs) : ∃ A c, v = .slice A n c := by
  rcases h.2 with ⟨rfl, rfl⟩ | ⟨g, o, cap, cur, rfl, _⟩
  · exact ⟨_, _, rfl⟩
  · exact ⟨_, _, rfl⟩
theorem ORow.form (h : ORow w e size v n xs) (hn : 0 < n) : ∃ g o c, v = .slice (some ⟨g, o, none⟩) n c ∧ n ≤ c := by
  rcases h.2 with ⟨rfl, rfl⟩ | ⟨g, o, cap, cur, rfl, _, h2, _⟩
  · omega
  · exact ⟨_, _, _, rfl, h2⟩
theorem ORow.open (h : ORow w e size (.slice (some ⟨g, o, none⟩) n c) n xs) : ∃ cur, w.heap[g]? = some (.cells cur e (0, 0)) ∧ n ≤ c ∧ c ≤ maxLen ∧ o + c * size ≤ cur.size ∧ (cur.toList.drop o).take (n * size) = xs := by
  rcases h.2 with ⟨h0, _⟩ | ⟨g', o', cap, cur, hv, h1, h2, h3, h4, h5⟩
  · cases h0
  · injection hv with e1 e2 e3
    injection e1 with e1
    injection e1 with e1 e4
    subst e1; subst e3; subst e4
    exact ⟨cur, h1, h2, h3, h4, h5⟩
theorem orow_shut {cur : Array Value} (h : xs.length = n * size) (h1 : w.heap[g]? = some (.cells cur e (0, 0))) (h2 : n ≤ c) (h3 : c ≤ maxLen) (h4 : o + c * size ≤ cur.size) (h5 : (cur.toList.drop o).take (n * size) = xs) :
    ORow w e size (.slice (some ⟨g, o, none⟩) n c) n xs := ⟨h, .inr ⟨g, o, c, cur, rfl, h1, h2, h3, h4, h5⟩⟩
theorem ORow.cellAt (h : ORow w e size (.slice (some ⟨g, o, none⟩) n c) n xs) (j : Nat) (hj : j < n * size) : w.cell? ⟨g, o + j, none⟩ = xs[j]? := by
  obtain ⟨cur, h1, h2, h3, h4, h5⟩ := h.open
  rw [cell_of_row w g (o + j) cur e (0, 0) h1, ← h5, List.getElem?_take, if_pos hj, List.getElem?_drop, Array.getElem?_toList]
theorem ORow.frozenAt (h : ORow w e size (.slice (some ⟨g, o, none⟩) n c) n xs) (j : Nat) : w.frozen? ⟨g, j, none⟩ = false := by
  obtain ⟨cur, h1, _⟩ := h.open
  exact frozen_of_row w g j _ _ h1
theorem ORow.big (h : ORow w e size v n xs) : n ≤ 9223372036854775807 := by
  rcases h.2 with ⟨_, h1⟩ | ⟨g, o, cp, cur, _, _, h2, h3, _⟩
  · omega
  · unfold maxLen at h3; omega
/-- The row from element i on. -/
theorem ORow.drop (h : ORow w e size (.slice (some ⟨g, o, none⟩) n c) n xs) {i : Nat} (hi : i ≤ n) : ORow w e size (.slice (some ⟨g, o + i * size, none⟩) (n - i) (c - i)) (n - i) (xs.drop (i * size)) := by
  obtain ⟨cur, q1, q2, q3, q4, q5⟩ := h.open
  have hle : i * size ≤ n * size := Nat.mul_le_mul_right _ hi
  have hs : (n - i) * size = n * size - i * size := Nat.sub_mul _ _ _
  have hs2 : (c - i) * size = c * size - i * size := Nat.sub_mul _ _ _
  have hlc : i * size ≤ c * size := Nat.mul_le_mul_right _ (by omega)
  refine orow_shut (by rw [List.length_drop, h.1, hs]) q1 (by omega) (by omega) (by omega) ?_
  rw [← q5, ← List.drop_drop, List.drop_take, hs]
theorem ORow.take (h : ORow w e size (.slice (some ⟨g, o, none⟩) n c) n xs) {i : Nat} (hi : i ≤ n) : ORow w e size (.slice (some ⟨g, o, none⟩) i c) i (xs.take (i * size)) := by
  obtain ⟨cur, q1, q2, q3, q4, q5⟩ := h.open
  have hle : i * size ≤ n * size := Nat.mul_le_mul_right _ hi
  refine orow_shut (by rw [List.length_take, h.1]; omega) q1 (by omega) q3 q4 ?_
  rw [← q5, List.take_take, Nat.min_eq_left hle]
/-- Where no room is left behind the front, the model keeps the address. -/
theorem ORow.nothing (h : ORow w e size (.slice (some ⟨g, o, none⟩) n c) n xs) : ORow w e size (.slice (some ⟨g, o, none⟩) 0 0) 0 [] := by
  obtain ⟨cur, q1, q2, q3, q4, q5⟩ := h.open
  exact orow_shut (by simp) q1 (Nat.le_refl _) (Nat.zero_le _) (by omega) (by simp)
/-- One cell of the row is written. -/
theorem ORow.stored (h : ORow w e size (.slice (some ⟨g, o, none⟩) n c) n xs) (j : Nat) (u : Value) (hj : j < n * size) :
    ORow (w.setCell ⟨g, o + j, none⟩ u) e size (.slice (some ⟨g, o, none⟩) n c) n (xs.set j u) ∧ w.grownBy (w.setCell ⟨g, o + j, none⟩ u) (some g) := by
  obtain ⟨cur, q1, q2, q3, q4, q5⟩ := h.open
  refine ⟨orow_shut (by rw [List.length_set, h.1]) (heap_setCell_same w g (o + j) _ _ u q1) q2 q3 (by simpa using q4) ?_, grown_set _ _ _ _⟩
  rw [← q5]
  apply List.ext_getElem?
  intro k
  simp only [List.getElem?_take, List.getElem?_set, List.getElem?_drop, Array.toList_setIfInBounds]
  by_cases h1 : k < n * size
  · have hl : o + n * size ≤ cur.toList.length := by rw [Array.length_toList]; have := Nat.mul_le_mul_right size q2; omega
    by_cases h2 : j = k
    · subst h2
      rw [if_pos h1, if_pos rfl, if_pos rfl, if_pos (by omega), if_pos (by rw [List.length_take, List.length_drop]; omega)]
    · rw [if_pos h1, if_neg (by omega), if_neg h2, if_pos h1]
  · rw [if_neg h1, if_neg (show ¬ j = k by omega), if_neg h1]
/-- Cells of the row are written, one after the other. -/
theorem ORow.storeds : ∀ (vs : List Value) (w : World) (xs : List Value) (j : Nat), ORow w e size (.slice (some ⟨g, o, none⟩) n c) n xs → j + vs.length ≤ n * size → ORow (w.setCells g (o + j) vs) e size (.slice (some ⟨g, o, none⟩) n c) n (splice xs j vs) ∧ w.grownBy (w.setCells g (o + j) vs) (some g)
  | [], w, xs, j, h, _ => ⟨by simpa [World.setCells, splice] using h, World.grownBy.refl _ _⟩
  | u :: vs, w, xs, j, h, hj => by
    simp only [List.length_cons] at hj
    obtain ⟨h1, h2⟩ := h.stored j u (by omega)
    obtain ⟨h3, h4⟩ := ORow.storeds vs _ _ (j + 1) h1 (by omega)
    have e1 : w.setCells g (o + j) (u :: vs) = (w.setCell ⟨g, o + j, none⟩ u).setCells g (o + (j + 1)) vs := rfl
    rw [e1]
    refine ⟨?_, World.grownBy.trans h2 h4⟩
    have e2 : splice (xs.set j u) (j + 1) vs = splice xs j (u :: vs) := by
      have hxl : j < xs.length := by rw [h.1]; omega
      unfold splice
      rw [List.take_set, List.take_add_one, List.getElem?_eq_getElem hxl, List.drop_set_of_lt (by omega)]
      simp only [Option.toList_some, List.length_cons]
      rw [List.set_append_right _ _ (by rw [List.length_take]; omega), List.length_take, show j - min j xs.length = 0 by omega]
      simp [show j + 1 + vs.length = j + (vs.length + 1) by omega]
    rw [← e2]
    exact h3
end
section
variable {P : Program} (w : World)
theorem run_append_room_at (t ty e : TypeId) (i : TypeInfo) (ht : P.underlying t = some (.slice e)) (hi : P.info? e = some i)
    (g o sLen sCap : Nat) (cur : Array Value) (hg : w.heap[g]? = some (.cells cur e (0, 0)))
    (a : Addr) (m c : Nat) (news : List Value) (hl : news.length = m * i.size) (hnews : ∀ j u, news[j]? = some u → w.cell? (a.add j) = some u) (h1 : ∀ u ∈ news, u.oneCell' = true)
    (hroom : sLen + m ≤ sCap) (hfit : o + sLen * i.size + news.length ≤ cur.size) :
    (Builtin.append_ #[t, t] ty #[.slice (some ⟨g, o, none⟩) sLen sCap, .slice (some a) m c]).run P w =
      .ok (.slice (some ⟨g, o, none⟩) (sLen + m) sCap) (w.setRow g (cur.toList.take (o + sLen * i.size) ++ news ++ cur.toList.drop (o + sLen * i.size + news.length)).toArray) := by
  have hf := run_firstCells_some (P := P) w i.size m a m c news hl hnews
  have hst := run_storeCells_at P g (o + sLen * i.size) e news 0 cur w hg (by simpa using hfit) h1
  simp only [Nat.add_zero] at hst
  simp [Builtin.append_, run_underlying ht, sizeOf, typeInfo, hi, Builtin.lenOf, hroom, hf, Addr.add_lit, hst]
theorem run_append_orow (t ty e : TypeId) (i : TypeInfo) (z : Value) (size bytes : Nat) (ht : P.underlying t = some (.slice e)) (hi : P.info? e = some i) (hz : i.zero = some z)
    (hsize : i.size = size) (hby : i.bytes = bytes) (hzs : z.cells.size = size) (hsz : 0 < size)
    (v : Value) (n : Nat) (xs : List Value) (hown : ORow w e size v n xs)
    (a : Addr) (m c : Nat) (news : List Value) (hl : news.length = m * size) (hnews : ∀ j u, news[j]? = some u → w.cell? (a.add j) = some u) (h1 : ∀ u ∈ news, u.oneCell' = true)
    (h63 : n + m ≤ maxLen) (hbytes : (n + m) * bytes ≤ 140737488355328) :
    ∃ v' w', (Builtin.append_ #[t, t] ty #[v, .slice (some a) m c]).run P w = .ok v' w' ∧ ORow w' e size v' (n + m) (xs ++ news) ∧ w.grownBy w' v.ownBlock ∧ (v'.ownBlock = v.ownBlock ∨ v'.ownBlock = some w.heap.size) := by
  rcases hown.2 with ⟨rfl, rfl⟩ | ⟨g, o, cap, cur, rfl, hg, hnc, hcm, hcs, htake⟩
  · have hx : xs = [] := List.eq_nil_of_length_eq_zero (by simpa using hown.1)
    subst hx
    obtain ⟨v', w', hr, g1, g2, _, g4⟩ := run_append_own_at (P := P) w 0 t ty e i z size bytes ht hi hz hsize hby hzs hsz _ 0 [] (World.ownsRow_nil w 0 e size) a m c news hl hnews h1 h63 hbytes (Nat.zero_le _)
    exact ⟨v', w', hr, orow_own g1, g2, g4⟩
  · subst hsize
    subst hby
    have hlen : (xs ++ news).length = (n + m) * i.size := by rw [List.length_append, hown.1, hl, Nat.add_mul]
    by_cases hroom : n + m ≤ cap
    · have hmul : (n + m) * i.size ≤ cap * i.size := Nat.mul_le_mul_right _ hroom
      have hfit : o + n * i.size + news.length ≤ cur.size := by rw [hl]; rw [Nat.add_mul] at hmul; omega
      have hr := run_append_room_at (P := P) w t ty e i ht hi g o n cap cur hg a m c news hl hnews h1 hroom hfit
      refine ⟨_, _, hr, ⟨hlen, .inr ⟨g, o, cap, _, rfl, setRow_heap w g cur _ e _ hg, hroom, hcm, ?_, ?_⟩⟩, ⟨rfl, rfl, rfl, by simp, fun k _ hk => setRow_other w g k _ (fun e => hk (by simp [Value.ownBlock, e]))⟩, Or.inl rfl⟩
      · simp only [List.size_toArray, List.length_append, List.length_take, List.length_drop, Array.length_toList]
        omega
      · have e1 : cur.toList.take (o + n * i.size) = cur.toList.take o ++ xs := by rw [List.take_add, htake]
        have e2 : (cur.toList.take o).length = o := by rw [List.length_take, Array.length_toList]; omega
        have e3 : List.drop o (cur.toList.take o ++ (xs ++ (news ++ cur.toList.drop (o + n * i.size + news.length)))) = xs ++ (news ++ cur.toList.drop (o + n * i.size + news.length)) := by
          have := List.drop_left (l₁ := cur.toList.take o) (l₂ := xs ++ (news ++ cur.toList.drop (o + n * i.size + news.length)))
          rwa [e2] at this
        simp only [e1, List.append_assoc, e3]
        rw [← List.append_assoc, ← hlen]
        exact List.take_left
    · have holds : ∀ j u, xs[j]? = some u → w.cell? ((⟨g, o, none⟩ : Addr).add j) = some u := fun j u hj => by
        rw [Addr.add_lit]
        have hjl : j < n * i.size := by
          rw [← hown.1]
          exact (List.getElem?_eq_some_iff.1 hj).1
        rw [hown.cellAt j hjl]; exact hj
      have hr := run_append_grow (P := P) w t ty e i z ht hi hz ⟨g, o, none⟩ n cap xs hown.1 holds a m c news hl hnews (by omega) (by simp only [maxLen] at h63; omega) (growslice_fits (by omega) hbytes)
      have hge := grownCap_ge w (n + m) cap e
      have hcm2 : grownCap w (n + m) cap e ≤ maxLen := grownCap_le_maxLen w (n + m) cap e h63
      refine ⟨_, _, hr, orow_own ⟨hlen, .inr ⟨w.heap.size, _, _, rfl, Nat.zero_le _, heap_alloc_new w.drew _, hge, hcm2, ?_, ?_⟩⟩, ⟨rfl, rfl, rfl, by simp, fun k hk _ => Below.heap_alloc w.drew _ k hk⟩, Or.inr rfl⟩
      · simp only [Array.size_append, List.size_toArray, size_zeroCells, hzs, hown.1, hl, ← Nat.add_mul]
        congr 1
        omega
      · simp only [Array.toList_append, List.append_assoc]
        rw [← List.append_assoc, ← hlen]
        exact List.take_left
end
section
variable {w : World} {ops : Array Oper} {rest : List Oper} {o : Oper} {a : Act} {Q : Exit → Act → World → Prop}
theorem orow_wp {K : Act → World → Prop} (t e : TypeId) (z : Value) (size bytes : Nat) (ht : Try.prog.underlying t = some (.slice e)) (hinfo : (Try.prog.info? e).map (fun i => (i.zero, i.size, i.bytes)) = some (some z, size, bytes)) (hzs : z.cells.size = size) (h0 : 0 < size) (hby : bytes ≤ 100) (s x : Operand)
    (ho : o.op = .call { callee := .builtin .append, args := #[s, x], argTypes := #[t, t] }) (v : Value) (n : Nat) (xs : List Value) (hown : ORow w e size v n xs) (hs : a.eval s = v) (ad : Addr) (m c : Nat) (ys : List Value) (hx : a.eval x = .slice (some ad) m c) (hl : ys.length = m * size)
    (hc : ∀ j u, ys[j]? = some u → w.cell? (ad.add j) = some u) (h1 : ∀ u ∈ ys, u.oneCell' = true) (hle : n + m ≤ 1000000)
    (h : ∀ v' w', ORow w' e size v' (n + m) (xs ++ ys) → w.grownBy w' v.ownBlock → (v'.ownBlock = v.ownBlock ∨ v'.ownBlock = some w.heap.size) → K (a.put o.dst v') w') : o.wp Try.prog a w K Q := by
  obtain ⟨i0, hi0, hz0, hz1, hz2⟩ := info_parts hinfo
  obtain ⟨v', w', hr, g1, g2, g4⟩ := run_append_orow (P := Try.prog) w t o.type e i0 z size bytes ht hi0 hz0 hz1 hz2 hzs h0 v n xs hown ad m c ys hl hc h1 (by unfold maxLen; omega)
    (by have : (n + m) * bytes ≤ 1000000 * 100 := Nat.mul_le_mul hle hby
        omega)
  unfold Oper.wp execOp
  simp only [ho, resolve, invoke, builtin, Sem.run_bind, Sem.run_pure, Result.andThen_ok, List.map_toArray, List.map_cons, List.map_nil, hs, hx, hr]
  exact h v' w' g1 g2 g4
theorem wp_orow (t e : TypeId) (z : Value) (size bytes : Nat) (ht : Try.prog.underlying t = some (.slice e)) (hinfo : (Try.prog.info? e).map (fun i => (i.zero, i.size, i.bytes)) = some (some z, size, bytes)) (hzs : z.cells.size = size) (h0 : 0 < size) (hby : bytes ≤ 100) (hgd : o.guard = none) (s x : Operand)
    (ho : o.op = .call { callee := .builtin .append, args := #[s, x], argTypes := #[t, t] }) (v : Value) (n : Nat) (xs : List Value) (hown : ORow w e size v n xs) (hs : a.eval s = v) (ad : Addr) (m c : Nat) (ys : List Value) (hx : a.eval x = .slice (some ad) m c) (hl : ys.length = m * size)
    (hc : ∀ j u, ys[j]? = some u → w.cell? (ad.add j) = some u) (h1 : ∀ u ∈ ys, u.oneCell' = true) (hle : n + m ≤ 1000000)
    (h : ∀ v' w', ORow w' e size v' (n + m) (xs ++ ys) → w.grownBy w' v.ownBlock → (v'.ownBlock = v.ownBlock ∨ v'.ownBlock = some w.heap.size) → wpList Try.prog ops Q rest (a.put o.dst v') w') : wpList Try.prog ops Q (o :: rest) a w :=
  wpList_plain hgd fun K hK => orow_wp t e z size bytes ht hinfo hzs h0 hby s x ho v n xs hown hs ad m c ys hx hl hc h1 hle fun v' w' h1 h2 h3 => hK _ _ (h v' w' h1 h2 h3)
end
end Go.Proofs.Ytpjjpjdamieeeaa
