/- What may change in memory (Chg), rows of pieces in memory, arrays and structs read and written whole, a Drum of package drum in memory (PM, PD). -/
import Derived.Test.YtembonenaoineaaDp
import Derived.Deep.MidRow
import Derived.Deep.WholeRow
import Derived.Deep.RegionLaw
import Derived.StillTailTactics
namespace Go.Proofs.Ytembonenaoineaa
set_option maxRecDepth 100000
set_option linter.unusedVariables false
open Go.ChangeShapes Go.WideShapes Go.ChangeAt Go.RowKit

/-- Of what was there in w, only blocks of F have changed in w'. -/
structure Chg (F : Nat → Prop) (w w' : World) : Prop where
  os : w'.os = w.os
  tape : w'.tape = w.tape
  output : w'.output = w.output
  size : w.heap.size ≤ w'.heap.size
  block : ∀ k, k < w.heap.size → ¬ F k → w'.heap[k]? = w.heap[k]?
theorem Chg.refl (F : Nat → Prop) (w : World) : Chg F w w := ⟨rfl, rfl, rfl, Nat.le_refl _, fun _ _ _ => rfl⟩
theorem Chg.grown {F : Nat → Prop} {w w1 w2 : World} {row : Option Nat} (h : Chg F w w1) (hg : w1.grownBy w2 row) (hr : ∀ k, row = some k → F k ∨ w.heap.size ≤ k) : Chg F w w2 :=
  ⟨hg.os.trans h.os, hg.tape.trans h.tape, hg.output.trans h.output, Nat.le_trans h.size hg.size, fun k hk hF =>
    (hg.block k (Nat.lt_of_lt_of_le hk h.size) (fun e => by rcases hr k e.symm with h | h; exact hF h; omega)).trans (h.block k hk hF)⟩
/-- F, and all that is new in w'. -/
def Nu (F : Nat → Prop) (w w' : World) : Nat → Prop := fun k => F k ∨ (w.heap.size ≤ k ∧ k < w'.heap.size)
theorem Chg.trans {F : Nat → Prop} {w w1 w2 : World} (h : Chg F w w1) (k : Chg (Nu F w w1) w1 w2) : Chg F w w2 :=
  ⟨k.os.trans h.os, k.tape.trans h.tape, k.output.trans h.output, Nat.le_trans h.size k.size, fun j hj hF =>
    (k.block j (Nat.lt_of_lt_of_le hj h.size) (fun e => by rcases e with e | e; exact hF e; omega)).trans (h.block j hj hF)⟩
theorem Chg.mono {F G : Nat → Prop} {w w' : World} (h : Chg F w w') (hG : ∀ k, F k → G k) : Chg G w w' := ⟨h.os, h.tape, h.output, h.size, fun k hk hn => h.block k hk (fun e => hn (hG k e))⟩
theorem Chg.below {F : Nat → Prop} {w w' : World} (h : Below w.heap.size w w') : Chg F w w' := ⟨h.os, h.tape, h.output, h.size, fun k hk _ => h.block k hk⟩
theorem Chg.of_base {B : Nat} {w w' : World} (h : Below B w w') : Chg (fun k => B ≤ k) w w' := ⟨h.os, h.tape, h.output, h.size, fun k hk hn => h.block k (by omega)⟩
/-- As seen from an earlier world. -/
theorem Chg.of_below {F : Nat → Prop} {w0 w w' : World} (hb : Below w0.heap.size w0 w) (h : Chg F w w') (hF : ∀ k, F k → w0.heap.size ≤ k) : Below w0.heap.size w0 w' :=
  hb.trans ⟨h.os, h.tape, h.output, h.size, fun k hk => h.block k (Nat.lt_of_lt_of_le hk hb.size) (fun e => by have := hF k e; omega)⟩
theorem nu_ge {F : Nat → Prop} {w w' : World} {B : Nat} (hF : ∀ k, F k → B ≤ k) (hB : B ≤ w.heap.size) : ∀ k, Nu F w w' k → B ≤ k := fun k hk => by
  rcases hk with hk | hk
  · exact hF k hk
  · omega
theorem nu_apart {F G : Nat → Prop} {w w' : World} (h : ∀ k, F k → ¬ G k) (hG : ∀ k, G k → k < w.heap.size) : ∀ k, Nu F w w' k → ¬ G k := fun k hk hg => by
  rcases hk with hk | hk
  · exact h k hk hg
  · have := hG k hg; omega
theorem grown_row (w : World) (g : Nat) (cs : Array Value) : w.grownBy (w.setRow g cs) (some g) :=
  ⟨rfl, rfl, rfl, by simp, fun k _ hk => setRow_other w g k cs (fun e => hk (by rw [e]))⟩
theorem grown_drew (w : World) (row : Option Nat) : w.grownBy w.drew row := ⟨rfl, rfl, rfl, Nat.le_refl _, fun _ _ _ => rfl⟩
theorem BS.chg {F : Nat → Prop} {w w' : World} {A : Option Addr} {l : List UInt8} {c : Nat} (h : BS w A l c) (hc : Chg F w w') (hA : ∀ ad, A = some ad → l = [] ∨ ¬ F ad.block) : BS w' A l c :=
  ⟨fun i hi => by
    obtain ⟨ad, e, he⟩ := h.cells i hi
    have hF : ¬ F ad.block := (hA ad e).resolve_left (fun hl => by subst hl; simp at hi)
    have hlt := World.block_lt_of_cell? w _ he
    refine ⟨ad, e, ?_⟩
    rw [World.cell?_of_block (w := w) (hc.block _ hlt (by rw [add_block]; exact hF))]
    exact he, h.cap, h.bare⟩
theorem Row.chg {α : Type} {f : α → Value} {F : Nat → Prop} {w w' : World} {A : Option Addr} {l : List α} (h : Row f w A l) (hc : Chg F w w') (hA : ∀ ad, A = some ad → l = [] ∨ ¬ F ad.block) : Row f w' A l := by
  intro i hi
  obtain ⟨ad, e, he⟩ := h i hi
  have hF : ¬ F ad.block := (hA ad e).resolve_left (fun hl => by subst hl; simp at hi)
  have hlt := World.block_lt_of_cell? w _ he
  refine ⟨ad, e, ?_⟩
  rw [World.cell?_of_block (w := w) (hc.block _ hlt (by rw [add_block]; exact hF))]
  exact he

/-! Rows. -/
section
variable {w w' : World} {e size n c g : Nat} {v : Value} {xs : List Value}
theorem own_open (h : w.ownsRow 0 e size (.slice (some ⟨g, 0, none⟩) n c) n xs) : ∃ cur, w.heap[g]? = some (.cells cur e (0, 0)) ∧ n ≤ c ∧ c ≤ maxLen ∧ cur.size = c * size ∧ cur.toList.take (n * size) = xs := by
  rcases h.2 with ⟨h0, _⟩ | ⟨g', cap, cur, hv, _, h1, h2, h3, h4, h5⟩
  · cases h0
  · injection hv with e1 e2 e3
    injection e1 with e1
    injection e1 with e1
    subst e1; subst e3
    exact ⟨cur, h1, h2, h3, h4, h5⟩
theorem own_shut {cur : Array Value} (h : xs.length = n * size) (h1 : w.heap[g]? = some (.cells cur e (0, 0))) (h2 : n ≤ c) (h3 : c ≤ maxLen) (h4 : cur.size = c * size) (h5 : cur.toList.take (n * size) = xs) :
    w.ownsRow 0 e size (.slice (some ⟨g, 0, none⟩) n c) n xs := ⟨h, .inr ⟨g, c, cur, rfl, Nat.zero_le _, h1, h2, h3, h4, h5⟩⟩
theorem own_type (h : w.ownsRow 0 e size v n xs) {k : Nat} (hk : v.ownBlock = some k) : ∃ cur, w.heap[k]? = some (.cells cur e (0, 0)) := by
  rcases h.2 with ⟨rfl, _⟩ | ⟨g', cap, cur, rfl, _, h1, _⟩
  · cases hk
  · simp [Value.ownBlock] at hk; subst hk; exact ⟨cur, h1⟩
theorem own_same (h : w.ownsRow 0 e size v n xs) (hw : ∀ k, v.ownBlock = some k → w'.heap[k]? = w.heap[k]?) : w'.ownsRow 0 e size v n xs := by
  refine ⟨h.1, ?_⟩
  rcases h.2 with hn | ⟨g', cap, cur, rfl, hb, h1, rest⟩
  · exact .inl hn
  · exact .inr ⟨g', cap, cur, rfl, hb, (hw g' rfl).trans h1, rest⟩
theorem block_lt {o : Obj} (h : w.heap[g]? = some o) : g < w.heap.size := (Array.getElem?_eq_some_iff.1 h).1
theorem take_splice {L : List Value} {o m : Nat} {vs : List Value} (h : o + vs.length ≤ m) (hm : m ≤ L.length) : (splice L o vs).take m = splice (L.take m) o vs := by
  unfold splice
  rw [List.take_append, List.take_append, List.length_take, List.take_take, List.take_take, List.drop_take]
  have e1 : min o L.length = o := by omega
  have e2 : min m o = o := by omega
  have e3 : min o m = o := by omega
  rw [e1, e2, e3, List.take_of_length_le (show vs.length ≤ m - o by omega), show m - o - vs.length = m - (o + vs.length) by omega]
/-- Cells written over a row. -/
theorem own_splice {cur : Array Value} (h : w.ownsRow 0 e size (.slice (some ⟨g, 0, none⟩) n c) n xs) (hg : w.heap[g]? = some (.cells cur e (0, 0))) (o : Nat) (vs : List Value) (ho : o + vs.length ≤ n * size) :
    (w.setRow g (splice cur.toList o vs).toArray).ownsRow 0 e size (.slice (some ⟨g, 0, none⟩) n c) n (splice xs o vs) := by
  obtain ⟨cur', h1, h2, h3, h4, h5⟩ := own_open h
  rw [hg] at h1
  injection h1 with h1
  injection h1 with h1
  subst h1
  have hle : n * size ≤ cur.toList.length := by rw [Array.length_toList, h4]; exact Nat.mul_le_mul_right _ h2
  refine own_shut ?_ (setRow_heap w g cur _ e _ hg) h2 h3 ?_ ?_
  · rw [length_splice _ _ _ (by rw [h.1]; exact ho), h.1]
  · rw [List.size_toArray, length_splice _ _ _ (by omega), Array.length_toList, h4]
  · rw [← h5]
    exact take_splice ho hle
end
/-! Arrays and structs by value. -/
section
variable {P : Program} {w : World} {ops : Array Oper} {rest : List Oper} {o : Oper} {a : Act} {Q : Exit → Act → World → Prop}
theorem cells_part {cur cs : List Value} {p n : Nat} (h : (cur.drop p).take n = cs) (hn : cs.length = n) : p + n ≤ cur.length ∨ n = 0 := by
  subst h
  simp at hn
  omega
theorem range_blk {w : World} {b : Nat} {cur : Array Value} {t : TypeId} (hb : w.heap[b]? = some (.cells cur t (0, 0))) {p n : Nat} {cs : List Value} (h : (cur.toList.drop p).take n = cs) : w.rangeAt b p cs := fun j v hv => by
  rw [cell_of_row w b (p + j) cur t (0, 0) hb]
  subst h
  rw [List.getElem?_take] at hv
  split at hv
  · rw [List.getElem?_drop] at hv; simpa using hv
  · cases hv
theorem run_storeVar_blk {b p : Nat} {ty : TypeId} {cells cur : Array Value} {t : TypeId} (hb : w.heap[b]? = some (.cells cur t (0, 0))) (hfit : p + cells.size ≤ cur.size) (hi : (P.info? ty).map (·.size) = some cells.size) (h1 : ∀ u ∈ cells.toList, u.oneCell' = true) :
    (storeVar ty ⟨b, p, none⟩ (.agg cells)).run P w = .ok () (w.setRow b (splice cur.toList p cells.toList).toArray) := by
  have hst := run_storeCells_at P b p t cells.toList 0 cur w hb (by simpa using hfit) h1
  cases hq : P.info? ty with
  | none => simp [hq] at hi
  | some i =>
    have hs : cells.size = i.size := by simp [hq] at hi; omega
    simp only [Nat.add_zero, List.append_assoc] at hst
    change _ = Result.ok () (w.setRow b (splice cur.toList p cells.toList).toArray) at hst
    simp [storeVar, sizeOf, typeInfo, hq, Value.cells, hs, hst]
theorem wp_store_blk (hgd : o.guard = none) (ty : TypeId) (x y : Operand) (ho : o.op = .store ty x y) (b p : Nat) (cells cur : Array Value) (t : TypeId) (hx : a.eval x = .pointer (some ⟨b, p, none⟩)) (hy : a.eval y = .agg cells)
    (hb : w.heap[b]? = some (.cells cur t (0, 0))) (hfit : p + cells.size ≤ cur.size) (hi : (P.info? ty).map (·.size) = some cells.size) (h1 : ∀ u ∈ cells.toList, u.oneCell' = true)
    (h : wpList P ops Q rest (a.put o.dst undef) (w.setRow b (splice cur.toList p cells.toList).toArray)) : wpList P ops Q (o :: rest) a w := by
  refine wpList_plain hgd fun K hK => ?_
  unfold Oper.wp execOp
  simp only [ho, hx, hy, Instr.storeAt, Instr.sureAddr, Sem.run_bind, Sem.run_pure, Result.andThen_ok, run_storeVar_blk hb hfit hi h1]
  exact hK _ _ h
/-- copy, the elements of 'size' cells each. -/
theorem run_copyK {dT sT ty elem : TypeId} {size g p dLen dCap sLen sCap : Nat} {A : Option Addr} {cur : Array Value} {t : TypeId} {cs : List Value}
    (hu : P.underlying dT = some (.slice elem)) (hs : (P.info? elem).map (·.size) = some size) (hg : w.heap[g]? = some (.cells cur t (0, 0))) (hn : cs.length = Nat.min sLen dLen * size)
    (hsrc : ∀ j v, cs[j]? = some v → ∃ ad, A = some ad ∧ w.cell? (ad.add j) = some v) (hfit : p + cs.length ≤ cur.size) (h1 : ∀ v ∈ cs, v.oneCell' = true) :
    (Builtin.copy_ #[dT, sT] ty #[.slice (some ⟨g, p, none⟩) dLen dCap, .slice A sLen sCap]).run P w = .ok (goInt (Nat.min sLen dLen)) (w.setRow g (splice cur.toList p cs).toArray) := by
  have hst := run_storeCells_at P g p t cs 0 cur w hg (by simpa using hfit) h1
  simp only [Nat.add_zero, List.append_assoc] at hst
  cases hq : P.info? elem with
  | none => simp [hq] at hs
  | some i =>
    have hi : i.size = size := by simpa [hq] using hs
    cases A with
    | none =>
      have hcs : cs = [] := by
        cases cs with
        | nil => rfl
        | cons v vs => obtain ⟨ad, e, _⟩ := hsrc 0 v rfl; cases e
      subst hcs
      simp [Builtin.copy_, run_underlying hu, Builtin.lenOf, Builtin.firstCells, sizeOf, typeInfo, hq, splice, storeCells]
      rw [setRow_self w g cur t (0, 0) hg]
    | some ad =>
      have hl := run_loadCells_list (P := P) w ad cs (fun j v hv => by obtain ⟨ad', e, h⟩ := hsrc j v hv; injection e with e; subst e; exact h)
      rw [hn] at hl
      simp [Builtin.copy_, run_underlying hu, Builtin.lenOf, Builtin.firstCells, sizeOf, typeInfo, hq, hi, hl, hst, splice]
theorem wp_copyK (hgd : o.guard = none) (d x : Operand) (dT sT : TypeId) (ho : o.op = .call { callee := .builtin .copy, args := #[d, x], argTypes := #[dT, sT] }) (elem : TypeId) (size : Nat)
    (hu : P.underlying dT = some (.slice elem)) (hs : (P.info? elem).map (·.size) = some size) (g p dLen dCap sLen sCap : Nat) (A : Option Addr) (hd : a.eval d = .slice (some ⟨g, p, none⟩) dLen dCap) (hx : a.eval x = .slice A sLen sCap)
    (cur : Array Value) (t : TypeId) (cs : List Value) (hg : w.heap[g]? = some (.cells cur t (0, 0))) (hn : cs.length = Nat.min sLen dLen * size)
    (hsrc : ∀ j v, cs[j]? = some v → ∃ ad, A = some ad ∧ w.cell? (ad.add j) = some v) (hfit : p + cs.length ≤ cur.size) (h1 : ∀ v ∈ cs, v.oneCell' = true)
    (h : wpList P ops Q rest (a.put o.dst (goInt (Nat.min sLen dLen))) (w.setRow g (splice cur.toList p cs).toArray)) : wpList P ops Q (o :: rest) a w := by
  refine wpList_plain hgd fun K hK => ?_
  have hrun := run_copyK (P := P) (w := w) (ty := o.type) (dCap := dCap) (sCap := sCap) (sT := sT) hu hs hg hn hsrc hfit h1
  unfold Oper.wp
  simp [execOp, ho, resolve, invoke, builtin, hd, hx, hrun, Result.andThen]
  exact hK _ _ h
theorem wp_alloc (hgd : o.guard = none) (ty : TypeId) (ho : o.op = .alloc ty) (z : Value) (hz : ∀ w, (zeroValue ty).run P w = .ok z w)
    (h : wpList P ops Q rest (a.put o.dst (.pointer (some ⟨w.heap.size, 0, none⟩))) (w.alloc (.cells z.cells ty))) : wpList P ops Q (o :: rest) a w := by
  refine wpList_plain hgd fun K hK => ?_
  unfold Oper.wp execOp
  simp [ho, Instr.alloc, hz, newVar, newRow]
  exact hK _ _ h
end
theorem load_still {P : Program} {ops : Array Oper} {w : World} {Q : Act → Prop} {a : Act} {o : Oper} {rest : List Oper} (hgd : o.guard = none) (ty : TypeId) (x : Operand) (ho : o.op = .load ty x) (b p : Nat) (hx : a.eval x = .pointer (some ⟨b, p, none⟩))
    (cs : List Value) (d : TypeDesc) (hc : w.rangeAt b p cs) (hu : P.underlying ty = some d) (hd : d.isRow = true) (hi : (P.info? ty).map (·.size) = some cs.length)
    (h : wpStill P ops w Q rest (a.put o.dst (.agg cs.toArray))) : wpStill P ops w Q (o :: rest) a := by
  refine wpStill_step fun K hK => ?_
  have hw : Region.wanted o (yielded ops a.tmps) = true := by simp [Region.wanted, hgd]
  rw [if_pos hw]
  unfold Oper.still execOp
  simp only [ho, hx, Instr.loadAt, Instr.sureAddr, Sem.run_bind, Sem.run_pure, Result.andThen_ok, run_loadVar_mid w b p ty cs d hc hu hd hi]
  exact ⟨rfl, hK _ h⟩
end Go.Proofs.Ytembonenaoineaa
