/- What may change in memory (Chg), append at rows of whatever size: general facts beside those of slices of bytes. No condition but those that each fact names. -/
import Derived.Test.YtdhpphbgobakhaaLq
import Derived.Test.YtdhpphbgobakhaaYc
import Derived.WalkKit
import Derived.WalkLawsBesides
import Derived.ProofKit
import Derived.OpenShut
import Derived.Lib.Hide
import Derived.Maps.AppendAt
import Derived.OwnWalk
import Derived.Laws.AppendOwnNone
import Derived.Laws.OwnMore
import Derived.Deep.Onto
import Derived.Deep.AppendLies
import Derived.Below
import Derived.Deep.MidRow
import Derived.Deep.WholeRow
import Derived.Deep.RegionLaw
import Derived.StillTailTactics
import Derived.ChangeOld
import Derived.Deep.Draws
import Derived.BigQuiet
import Derived.Deep.QuietTactic
import Derived.Deep.Grids
import Derived.Deep.Slices
import Derived.Lib.SliceRun
import Derived.Laws.CopyOwn
namespace Go.Proofs.Ytdhpphbgobakhaa
set_option maxRecDepth 100000
set_option linter.unusedVariables false
open Go.ChangeShapes Go.WideShapes Go.ChangeAt Go.RowKit
/-- Of what was there in w, only blocks of F have changed in w'. -/
structure Chg (F : Nat → Prop) (w w' : World) : Prop where
  os : w'.os = w.os
  tape : w'.tape = w.tape
  output : w'.output = w.output
  size : w.heap.size ≤ w'.heap.size
  block : ∀ k, k < w.heap.size → ¬ F k → w'.heap[k]? = w.heap[k]?
theorem Chg.refl (F : Nat → Prop) (w : World) : Chg F w w := ⟨rfl, rfl, rfl, Nat.le_refl _, fun _ _ _ => rfl⟩
theorem Chg.grown {F : Nat → Prop} {w w1 w2 : World} {row : Option Nat} (h : Chg F w w1) (hg : w1.grownBy w2 row) (hr : ∀ k, row = some k → F k ∨ w.heap.size ≤ k) : Chg F w w2 :=
  ⟨hg.os.trans h.os, hg.tape.trans h.tape, hg.output.trans h.output, Nat.le_trans h.size hg.size, fun k hk hF =>
    (hg.block k (Nat.lt_of_lt_of_le hk h.size) (fun e => by rcases hr k e.symm with h | h; exact hF h; omega)).trans (h.block k hk hF)⟩
/-- F, and all that is new in w'. -/
def Nu (F : Nat → Prop) (w w' : World) : Nat → Prop := fun k => F k ∨ (w.heap.size ≤ k ∧ k < w'.heap.size)
theorem Chg.trans {F : Nat → Prop} {w w1 w2 : World} (h : Chg F w w1) (k : Chg (Nu F w w1) w1 w2) : Chg F w w2 :=
  ⟨k.os.trans h.os, k.tape.trans h.tape, k.output.trans h.output, Nat.le_trans h.size k.size, fun j hj hF =>
    (k.block j (Nat.lt_of_lt_of_le hj h.size) (fun e => by rcases e with e | e; exact hF e; omega)).trans (h.block j hj hF)⟩
theorem Chg.mono {F G : Nat → Prop} {w w' : World} (h : Chg F w w') (hG : ∀ k, F k → G k) : Chg G w w' := ⟨h.os, h.tape, h.output, h.size, fun k hk hn => h.block k hk (fun e => hn (hG k e))⟩
theorem Chg.below {F : Nat → Prop} {w w' : World} (h : Below w.heap.size w w') : Chg F w w' := ⟨h.os, h.tape, h.output, h.size, fun k hk _ => h.block k hk⟩
theorem Chg.of_base {B : Nat} {w w' : World} (h : Below B w w') : Chg (fun k => B ≤ k) w w' := ⟨h.os, h.tape, h.output, h.size, fun k hk hn => h.block k (by omega)⟩
/-- As seen from an earlier world. -/
theorem Chg.of_below {F : Nat → Prop} {w0 w w' : World} (hb : Below w0.heap.size w0 w) (h : Chg F w w') (hF : ∀ k, F k → w0.heap.size ≤ k) : Below w0.heap.size w0 w' :=
  hb.trans ⟨h.os, h.tape, h.output, h.size, fun k hk => h.block k (Nat.lt_of_lt_of_le hk hb.size) (fun e => by have := hF k e; omega)⟩
theorem nu_ge {F : Nat → Prop} {w w' : World} {B : Nat} (hF : ∀ k, F k → B ≤ k) (hB : B ≤ w.heap.size) : ∀ k, Nu F w w' k → B ≤ k := fun k hk => by
  rcases hk with hk | hk
  · exact hF k hk
  · omega
theorem nu_apart {F G : Nat → Prop} {w w' : World} (h : ∀ k, F k → ¬ G k) (hG : ∀ k, G k → k < w.heap.size) : ∀ k, Nu F w w' k → ¬ G k := fun k hk hg => by
  rcases hk with hk | hk
  · exact h k hk hg
  · have := hG k hg; omega
theorem grown_row (w : World) (g : Nat) (cs : Array Value) : w.grownBy (w.setRow g cs) (some g) :=
  ⟨rfl, rfl, rfl, by simp, fun k _ hk => setRow_other w g k cs (fun e => hk (by rw [e]))⟩
theorem grown_drew (w : World) (row : Option Nat) : w.grownBy w.drew row := ⟨rfl, rfl, rfl, Nat.le_refl _, fun _ _ _ => rfl⟩
theorem Row.chg {α : Type} {f : α → Value} {F : Nat → Prop} {w w' : World} {A : Option Addr} {l : List α} (h : Row f w A l) (hc : Chg F w w') (hA : ∀ ad, A = some ad → l = [] ∨ ¬ F ad.block) : Row f w' A l := by
  intro i hi
  obtain ⟨ad, e, he⟩ := h i hi
  have hF : ¬ F ad.block := (hA ad e).resolve_left (fun hl => by subst hl; simp at hi)
  have hlt := World.block_lt_of_cell? w _ he
  refine ⟨ad, e, ?_⟩
  rw [World.cell?_of_block (w := w) (hc.block _ hlt (by rw [add_block]; exact hF))]
  exact he

/-! Rows. -/
/-! Rows. -/
section
variable {w w' : World} {e size n c g : Nat} {v : Value} {xs : List Value}
theorem own_open (h : w.ownsRow 0 e size (.slice (some ⟨g, 0, none⟩) n c) n xs) : ∃ cur, w.heap[g]? = some (.cells cur e (0, 0)) ∧ n ≤ c ∧ c ≤ maxLen ∧ cur.size = c * size ∧ cur.toList.take (n * size) = xs := by
  rcases h.2 with ⟨h0, _⟩ | ⟨g', cap, cur, hv, _, h1, h2, h3, h4, h5⟩
  · cases h0
  · injection hv with e1 e2 e3
    injection e1 with e1
    injection e1 with e1
    subst e1; subst e3
    exact ⟨cur, h1, h2, h3, h4, h5⟩
theorem own_shut {cur : Array Value} (h : xs.length = n * size) (h1 : w.heap[g]? = some (.cells cur e (0, 0))) (h2 : n ≤ c) (h3 : c ≤ maxLen) (h4 : cur.size = c * size) (h5 : cur.toList.take (n * size) = xs) :
    w.ownsRow 0 e size (.slice (some ⟨g, 0, none⟩) n c) n xs := ⟨h, .inr ⟨g, c, cur, rfl, Nat.zero_le _, h1, h2, h3, h4, h5⟩⟩
theorem own_type (h : w.ownsRow 0 e size v n xs) {k : Nat} (hk : v.ownBlock = some k) : ∃ cur, w.heap[k]? = some (.cells cur e (0, 0)) := by
  rcases h.2 with ⟨rfl, _⟩ | ⟨g', cap, cur, rfl, _, h1, _⟩
  · cases hk
  · simp [Value.ownBlock] at hk; subst hk; exact ⟨cur, h1⟩
theorem own_same (h : w.ownsRow 0 e size v n xs) (hw : ∀ k, v.ownBlock = some k → w'.heap[k]? = w.heap[k]?) : w'.ownsRow 0 e size v n xs := by
  refine ⟨h.1, ?_⟩
  rcases h.2 with hn | ⟨g', cap, cur, rfl, hb, h1, rest⟩
  · exact .inl hn
  · exact .inr ⟨g', cap, cur, rfl, hb, (hw g' rfl).trans h1, rest⟩
theorem block_lt {o : Obj} (h : w.heap[g]? = some o) : g < w.heap.size := (Array.getElem?_eq_some_iff.1 h).1
theorem take_splice {L : List Value} {o m : Nat} {vs : List Value} (h : o + vs.length ≤ m) (hm : m ≤ L.length) : (splice L o vs).take m = splice (L.take m) o vs := by
  unfold splice
  rw [List.take_append, List.take_append, List.length_take, List.take_take, List.take_take, List.drop_take]
  have e1 : min o L.length = o := by omega
  have e2 : min m o = o := by omega
  have e3 : min o m = o := by omega
  rw [e1, e2, e3, List.take_of_length_le (show vs.length ≤ m - o by omega), show m - o - vs.length = m - (o + vs.length) by omega]
/-- Cells written over a row. -/
theorem own_splice {cur : Array Value} (h : w.ownsRow 0 e size (.slice (some ⟨g, 0, none⟩) n c) n xs) (hg : w.heap[g]? = some (.cells cur e (0, 0))) (o : Nat) (vs : List Value) (ho : o + vs.length ≤ n * size) :
    (w.setRow g (splice cur.toList o vs).toArray).ownsRow 0 e size (.slice (some ⟨g, 0, none⟩) n c) n (splice xs o vs) := by
  obtain ⟨cur', h1, h2, h3, h4, h5⟩ := own_open h
  rw [hg] at h1
  injection h1 with h1
  injection h1 with h1
  subst h1
  have hle : n * size ≤ cur.toList.length := by rw [Array.length_toList, h4]; exact Nat.mul_le_mul_right _ h2
  refine own_shut ?_ (setRow_heap w g cur _ e _ hg) h2 h3 ?_ ?_
  · rw [length_splice _ _ _ (by rw [h.1]; exact ho), h.1]
  · rw [List.size_toArray, length_splice _ _ _ (by omega), Array.length_toList, h4]
  · rw [← h5]
    exact take_splice ho hle
end
section
variable {P : Program} {w : World} {ops : Array Oper} {rest : List Oper} {o : Oper} {a : Act} {Q : Exit → Act → World → Prop}
theorem range_blk {w : World} {b : Nat} {cur : Array Value} {t : TypeId} (hb : w.heap[b]? = some (.cells cur t (0, 0))) {p n : Nat} {cs : List Value} (h : (cur.toList.drop p).take n = cs) : w.rangeAt b p cs := fun j v hv => by
  rw [cell_of_row w b (p + j) cur t (0, 0) hb]
  subst h
  rw [List.getElem?_take] at hv
  split at hv
  · rw [List.getElem?_drop] at hv; simpa using hv
  · cases hv
theorem wp_alloc (hgd : o.guard = none) (ty : TypeId) (ho : o.op = .alloc ty) (z : Value) (hz : ∀ w, (zeroValue ty).run P w = .ok z w)
    (h : wpList P ops Q rest (a.put o.dst (.pointer (some ⟨w.heap.size, 0, none⟩))) (w.alloc (.cells z.cells ty))) : wpList P ops Q (o :: rest) a w := by
  refine wpList_plain hgd fun K hK => ?_
  unfold Oper.wp execOp
  simp [ho, Instr.alloc, hz, newVar, newRow]
  exact hK _ _ h
end
theorem load_still {P : Program} {ops : Array Oper} {w : World} {Q : Act → Prop} {a : Act} {o : Oper} {rest : List Oper} (hgd : o.guard = none) (ty : TypeId) (x : Operand) (ho : o.op = .load ty x) (b p : Nat) (hx : a.eval x = .pointer (some ⟨b, p, none⟩))
    (cs : List Value) (d : TypeDesc) (hc : w.rangeAt b p cs) (hu : P.underlying ty = some d) (hd : d.isRow = true) (hi : (P.info? ty).map (·.size) = some cs.length)
    (h : wpStill P ops w Q rest (a.put o.dst (.agg cs.toArray))) : wpStill P ops w Q (o :: rest) a := by
  refine wpStill_step fun K hK => ?_
  have hw : Region.wanted o (yielded ops a.tmps) = true := by simp [Region.wanted, hgd]
  rw [if_pos hw]
  unfold Oper.still execOp
  simp only [ho, hx, Instr.loadAt, Instr.sureAddr, Sem.run_bind, Sem.run_pure, Result.andThen_ok, run_loadVar_mid w b p ty cs d hc hu hd hi]
  exact ⟨rfl, hK _ h⟩
theorem st_of {P : Program} {ops : Array Oper} {w : World} {a : Act} {o : Oper} {K : Act → World → Prop} {Q : Exit → Act → World → Prop} {E : Prop} (hgd : o.guard = none) (h : o.wp P a w K Q) : if Region.wanted o (yielded ops a.tmps) = true then o.wp P a w K Q else E := by
  have hw : Region.wanted o (yielded ops a.tmps) = true := by simp [Region.wanted, hgd]
  rw [if_pos hw]; exact h
/-! Lists of equal pieces, end to end. -/
section
variable {α : Type} (f : α → List Value) (n : Nat)
theorem flat_len : ∀ (l : List α), (∀ x ∈ l, (f x).length = n) → (l.flatMap f).length = l.length * n
  | [], _ => by simp
  | x :: l, h => by
    rw [List.flatMap_cons, List.length_append, flat_len l (fun y hy => h y (by simp [hy])), h x (by simp), List.length_cons, Nat.add_mul, Nat.one_mul, Nat.add_comm]
theorem flat_get : ∀ (l : List α), (∀ x ∈ l, (f x).length = n) → ∀ i (hi : i < l.length), ((l.flatMap f).drop (i * n)).take n = f l[i]
  | x :: l, h, 0, _ => by
    rw [List.flatMap_cons, Nat.zero_mul, List.drop_zero, ← h x (by simp), List.take_left]; rfl
  | x :: l, h, i + 1, hi => by
    have hx := h x (by simp)
    rw [List.flatMap_cons, show (i + 1) * n = (f x).length + i * n by rw [hx, Nat.add_mul, Nat.one_mul, Nat.add_comm], ← List.drop_drop, List.drop_left]
    exact flat_get l (fun y hy => h y (by simp [hy])) i (by simpa using hi)
theorem flat_set : ∀ (l : List α), (∀ x ∈ l, (f x).length = n) → ∀ (y : α), (f y).length = n → ∀ i, i < l.length → splice (l.flatMap f) (i * n) (f y) = (l.set i y).flatMap f
  | x :: l, h, y, hy, 0, _ => by
    have hx := h x (by simp)
    simp only [splice, Nat.zero_mul, List.take_zero, List.nil_append, Nat.zero_add, List.set_cons_zero, List.flatMap_cons]
    rw [hy, ← hx, List.drop_left]
  | x :: l, h, y, hy, i + 1, hi => by
    have hx := h x (by simp)
    have ih := flat_set l (fun z hz => h z (by simp [hz])) y hy i (by simpa using hi)
    unfold splice at ih ⊢
    rw [List.set_cons_succ, List.flatMap_cons, List.flatMap_cons, ← ih, show (i + 1) * n = (f x).length + i * n by rw [hx, Nat.add_mul, Nat.one_mul, Nat.add_comm]]
    rw [List.take_append, List.take_of_length_le (by omega), show (f x).length + i * n - (f x).length = i * n by omega, Nat.add_assoc, ← List.drop_drop, List.drop_left, List.append_assoc]
end
theorem flat_at {α : Type} (f : α → List Value) (n : Nat) {l : List α} (h : ∀ x ∈ l, (f x).length = n) (i j : Nat) (hi : i < l.length) (hj : j < n) : (l.flatMap f)[i * n + j]? = (f l[i])[j]? := by
  rw [← flat_get f n l h i hi, List.getElem?_take, if_pos hj, List.getElem?_drop]
theorem flat_set1 {α : Type} (f : α → List Value) (n : Nat) {l : List α} (h : ∀ x ∈ l, (f x).length = n) (i j : Nat) (hi : i < l.length) (hj : j < n) (y : α) (u : Value) (hy : f y = (f l[i]).set j u) : (l.flatMap f).set (i * n + j) u = (l.set i y).flatMap f := by
  have hln : (f l[i]).length = n := h _ (List.getElem_mem hi)
  rw [← flat_set f n l h y (by rw [hy, List.length_set, hln]) i hi, hy]
  have hg := flat_get f n l h i hi
  have hle : i * n + n ≤ (l.flatMap f).length := by rw [flat_len f n l h, ← Nat.succ_mul]; exact Nat.mul_le_mul_right _ hi
  apply List.ext_getElem?
  intro k
  unfold splice
  rw [List.getElem?_set, List.getElem?_append]
  by_cases h1 : k < i * n
  · rw [if_neg (by omega), if_pos (by rw [List.length_take]; omega), List.getElem?_take, if_pos h1]
  · rw [if_neg (show ¬ k < ((l.flatMap f).take (i * n)).length by rw [List.length_take]; omega), List.length_take, Nat.min_eq_left (by omega), List.getElem?_append, List.length_set, hln]
    by_cases h2 : k - i * n < n
    · rw [if_pos h2, List.getElem?_set, ← hg]
      by_cases h3 : i * n + j = k
      · rw [if_pos h3, if_pos (by omega), if_pos (by omega), if_pos (by rw [hg, hln]; omega)]
      · rw [if_neg h3, if_neg (by omega), List.getElem?_take, if_pos h2, List.getElem?_drop, show i * n + (k - i * n) = k by omega]
    · rw [if_neg (by omega), if_neg h2, List.getElem?_drop]
      congr 1
      omega
section
variable {w : World} {ops : Array Oper} {rest : List Oper} {o : Oper} {a : Act} {Q : Exit → Act → World → Prop}
/-- append(v, m...) where v is our own, m any cells in memory. -/
theorem own_wp {K : Act → World → Prop} (t e : TypeId) (z : Value) (size bytes : Nat) (ht : Try.prog.underlying t = some (.slice e)) (hinfo : (Try.prog.info? e).map (fun i => (i.zero, i.size, i.bytes)) = some (some z, size, bytes)) (hzs : z.cells.size = size) (h0 : 0 < size) (hby : bytes ≤ 100) (s x : Operand)
    (ho : o.op = .call { callee := .builtin .append, args := #[s, x], argTypes := #[t, t] }) (v : Value) (n : Nat) (xs : List Value) (hown : w.ownsRow 0 e size v n xs) (hs : a.eval s = v) (ad : Addr) (m c : Nat) (ys : List Value) (hx : a.eval x = .slice (some ad) m c) (hl : ys.length = m * size)
    (hc : ∀ j u, ys[j]? = some u → w.cell? (ad.add j) = some u) (h1 : ∀ u ∈ ys, u.oneCell' = true) (hle : n + m ≤ 1000000)
    (h : ∀ v' w', w'.ownsRow 0 e size v' (n + m) (xs ++ ys) → w.grownBy w' v.ownBlock → (v'.ownBlock = v.ownBlock ∨ v'.ownBlock = some w.heap.size) → K (a.put o.dst v') w') : o.wp Try.prog a w K Q := by
  obtain ⟨i0, hi0, hz0, hz1, hz2⟩ := info_parts hinfo
  obtain ⟨v', w', hr, g1, g2, _, g4⟩ := run_append_own_at (P := Try.prog) w 0 t o.type e i0 z size bytes ht hi0 hz0 hz1 hz2 hzs h0 v n xs hown ad m c ys hl hc h1 (by unfold maxLen; omega)
    (by have : (n + m) * bytes ≤ 1000000 * 100 := Nat.mul_le_mul hle hby
        omega) (Nat.zero_le _)
  unfold Oper.wp execOp
  simp only [ho, resolve, invoke, builtin, Sem.run_bind, Sem.run_pure, Result.andThen_ok, List.map_toArray, List.map_cons, List.map_nil, hs, hx, hr]
  exact h v' w' g1 g2 g4
theorem wp_own (t e : TypeId) (z : Value) (size bytes : Nat) (ht : Try.prog.underlying t = some (.slice e)) (hinfo : (Try.prog.info? e).map (fun i => (i.zero, i.size, i.bytes)) = some (some z, size, bytes)) (hzs : z.cells.size = size) (h0 : 0 < size) (hby : bytes ≤ 100) (hgd : o.guard = none) (s x : Operand)
    (ho : o.op = .call { callee := .builtin .append, args := #[s, x], argTypes := #[t, t] }) (v : Value) (n : Nat) (xs : List Value) (hown : w.ownsRow 0 e size v n xs) (hs : a.eval s = v) (ad : Addr) (m c : Nat) (ys : List Value) (hx : a.eval x = .slice (some ad) m c) (hl : ys.length = m * size)
    (hc : ∀ j u, ys[j]? = some u → w.cell? (ad.add j) = some u) (h1 : ∀ u ∈ ys, u.oneCell' = true) (hle : n + m ≤ 1000000)
    (h : ∀ v' w', w'.ownsRow 0 e size v' (n + m) (xs ++ ys) → w.grownBy w' v.ownBlock → (v'.ownBlock = v.ownBlock ∨ v'.ownBlock = some w.heap.size) → wpList Try.prog ops Q rest (a.put o.dst v') w') : wpList Try.prog ops Q (o :: rest) a w :=
  wpList_plain hgd fun K hK => own_wp t e z size bytes ht hinfo hzs h0 hby s x ho v n xs hown hs ad m c ys hx hl hc h1 hle fun v' w' h1 h2 h3 => hK _ _ (h v' w' h1 h2 h3)
end
theorem wrapI {m : Nat} (h : m ≤ 9223372036854775807) : IntKind.i64.wrap (m : Int) = (m : Int) := by
  unfold IntKind.wrap
  simp [IntKind.signed, IntKind.bits]
  omega
theorem i64_of {n : Int} (h : (Lit.int .i64 n).wf = true) : -9223372036854775808 ≤ n ∧ n ≤ 9223372036854775807 := by simpa [Lit.wf, IntKind.min, IntKind.max, IntKind.signed, IntKind.bits] using h
section
variable {w : World} {ops : Array Oper} {rest : List Oper} {o : Oper} {a : Act} {Q : Exit → Act → World → Prop}
/-- append(v, m...) where both are our own. -/
theorem own_wp_row {K : Act → World → Prop} (t e : TypeId) (z : Value) (size bytes : Nat) (ht : Try.prog.underlying t = some (.slice e)) (hinfo : (Try.prog.info? e).map (fun i => (i.zero, i.size, i.bytes)) = some (some z, size, bytes)) (hzs : z.cells.size = size) (h0 : 0 < size) (hby : bytes ≤ 100) (s x : Operand)
    (ho : o.op = .call { callee := .builtin .append, args := #[s, x], argTypes := #[t, t] }) (v v2 : Value) (n m : Nat) (xs ys : List Value) (hown : w.ownsRow 0 e size v n xs) (hs : a.eval s = v) (hsrc : w.ownsRow 0 e size v2 m ys) (hx : a.eval x = v2) (h1 : ∀ u ∈ ys, u.oneCell' = true) (hle : n + m ≤ 1000000)
    (h : ∀ v' w', w'.ownsRow 0 e size v' (n + m) (xs ++ ys) → w.grownBy w' v.ownBlock → (v'.ownBlock = v.ownBlock ∨ v'.ownBlock = some w.heap.size) → K (a.put o.dst v') w') : o.wp Try.prog a w K Q := by
  rcases hsrc.2 with ⟨hv, hm0⟩ | ⟨g, cap, cur, hv, _⟩
  · obtain ⟨i0, hi0, hz0, hz1, hz2⟩ := info_parts hinfo
    have hrun := run_append_owned_none (P := Try.prog) (w := w) 0 t o.type e i0 size ht hi0 v _ _ hown
    have hys : ys = [] := List.length_eq_zero_iff.1 (by rw [hsrc.1, hm0, Nat.zero_mul])
    subst hys
    subst hm0
    unfold Oper.wp
    simp [execOp, ho, resolve, invoke, builtin, hs, hx, hv, hrun, Result.andThen]
    exact h v w (by rw [List.append_nil]; exact hown) (World.grownBy.refl _ _) (.inl rfl)
  · subst hv
    exact own_wp t e z size bytes ht hinfo hzs h0 hby s x ho v n xs hown hs ⟨g, 0, none⟩ m cap ys hx hsrc.1 (fun j u hj => World.ownsRow.cells hsrc (g := g) rfl j u hj) h1 hle h
theorem wp_own_row (t e : TypeId) (z : Value) (size bytes : Nat) (ht : Try.prog.underlying t = some (.slice e)) (hinfo : (Try.prog.info? e).map (fun i => (i.zero, i.size, i.bytes)) = some (some z, size, bytes)) (hzs : z.cells.size = size) (h0 : 0 < size) (hby : bytes ≤ 100) (hgd : o.guard = none) (s x : Operand)
    (ho : o.op = .call { callee := .builtin .append, args := #[s, x], argTypes := #[t, t] }) (v v2 : Value) (n m : Nat) (xs ys : List Value) (hown : w.ownsRow 0 e size v n xs) (hs : a.eval s = v) (hsrc : w.ownsRow 0 e size v2 m ys) (hx : a.eval x = v2) (h1 : ∀ u ∈ ys, u.oneCell' = true) (hle : n + m ≤ 1000000)
    (h : ∀ v' w', w'.ownsRow 0 e size v' (n + m) (xs ++ ys) → w.grownBy w' v.ownBlock → (v'.ownBlock = v.ownBlock ∨ v'.ownBlock = some w.heap.size) → wpList Try.prog ops Q rest (a.put o.dst v') w') : wpList Try.prog ops Q (o :: rest) a w :=
  wpList_plain hgd fun K hK => own_wp_row t e z size bytes ht hinfo hzs h0 hby s x ho v v2 n m xs ys hown hs hsrc hx h1 hle fun v' w' h1 h2 h3 => hK _ _ (h v' w' h1 h2 h3)
end
/-- The first i elements of a row. -/
theorem own_take {w : World} {e size n c g i : Nat} {xs : List Value} (h : w.ownsRow 0 e size (.slice (some ⟨g, 0, none⟩) n c) n xs) (hi : i ≤ n) : w.ownsRow 0 e size (.slice (some ⟨g, 0, none⟩) i c) i (xs.take (i * size)) := by
  obtain ⟨cur, q1, q2, q3, q4, q5⟩ := own_open h
  have hle : i * size ≤ n * size := Nat.mul_le_mul_right _ hi
  refine own_shut (by rw [List.length_take, h.1]; omega) q1 (by omega) q3 q4 ?_
  rw [← q5, List.take_take, Nat.min_eq_left hle]
theorem drewN_add (w : World) (m n : Nat) : (w.drewN m).drewN n = w.drewN (m + n) := by
  simp [World.drewN, Nat.add_assoc]
theorem drew_more {w wr : World} (h : ∃ m, wr = w.drewN m) (n : Nat) : ∃ m, wr.drewN n = w.drewN m := by
  obtain ⟨m, rfl⟩ := h
  exact ⟨_, drewN_add w m n⟩
end Go.Proofs.Ytdhpphbgobakhaa
