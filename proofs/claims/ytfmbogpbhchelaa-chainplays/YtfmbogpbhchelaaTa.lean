/- A map of the program's Lists in memory, its keys listed (MP): a look-up, a store at a new key, delete, len. Conditions: the map lies in memory. -/
import Derived.Test.YtfmbogpbhchelaaSf
import Derived.Maps.OwnSet
import Derived.Laws.StructEq
import Derived.Laws.Pointers
import Derived.Laws.Cover3
namespace Go.Proofs.Ytfmbogpbhchelaa
set_option maxRecDepth 100000
set_option linter.unusedVariables false
open Go.ChangeShapes Go.WideShapes Go.ChangeAt Go.RowKit
open Go.MapKept Go.ChangeMaps
/-- A pointer to the beginning of block b. -/
abbrev pt (b : Nat) : Value := .pointer (some ⟨b, 0, none⟩)
/-- A key of the map of links, of the map of ends. -/
def kvI (x : It) : Value := .agg #[.int .i64 x.l, .int .i64 x.i]
def kvE (l : Int) : Value := .int .i64 l
/-- Entries whose keys are ks and whose values are pointers to the blocks f. -/
def ME {κ : Type} (kv : κ → Value) (f : κ → Nat) (es : List MapEntry) (ks : List κ) : Prop := es.map (fun e => (e.key, e.val)) = ks.map (fun k => (kv k, pt (f k)))
section
variable {κ : Type} {kv : κ → Value} {f g : κ → Nat} {es : List MapEntry} {ks : List κ} {x : κ}
theorem ME.len (h : ME kv f es ks) : es.length = ks.length := by have := congrArg List.length h; simpa using this
theorem ME.snoc (h : ME kv f es ks) (hg : ∀ k, k ∈ ks → g k = f k) (n : Nat) (b : Nat) (hb : g x = b) : ME kv g (es ++ [⟨kv x, pt b, n⟩]) (ks ++ [x]) := by
  unfold ME at *
  rw [List.map_append, List.map_append, h]
  congr 1
  · exact List.map_congr_left (fun k hk => by rw [hg k hk])
  · simp [hb]
theorem ME.erase [DecidableEq κ] (h : ME kv f es ks) (x : κ) : ME kv f (es.eraseIdx (ks.idxOf x)) (ks.erase x) := by
  unfold ME at *
  rw [List.erase_eq_eraseIdx_of_idxOf rfl, Go.ChangeMaps.map_eraseIdx, Go.ChangeMaps.map_eraseIdx, h]
/-- How findKey finds. -/
def Finds [DecidableEq κ] (kt : TypeId) (kv : κ → Value) : Prop := (∀ (w : World) (em : Bool) (x : κ), (Instr.checkKey em 10000 kt (kv x)).run Try.prog w = .ok () w) ∧
  ∀ (w : World) (x : κ) (f : κ → Nat) (es : List MapEntry) (ks : List κ), ME kv f es ks → (Instr.findKey kt (kv x) es).run Try.prog w = .ok (if x ∈ ks then some (ks.idxOf x, pt (f x)) else none) w
end
theorem undE : Try.prog.underlying 3 = some (.int .i64) := by kernel_rfl
theorem undK : Try.prog.underlying 41 = some (.map 49 45) := by kernel_rfl
theorem undM : Try.prog.underlying 42 = some (.map 3 45) := by kernel_rfl
theorem zeroL (w : World) : (zeroValue 45).run Try.prog w = .ok (.pointer none) w := by kernel_rfl
theorem now_int (x : Int) (f : Int → Nat) : ∀ (es : List MapEntry) (ks : List Int) (n : Nat), ME kvE f es ks → Instr.findNow (.int .i64) (kvE x) es n = some (if x ∈ ks then some (n + ks.idxOf x, pt (f x)) else none)
  | [], [], n, _ => by simp [Instr.findNow]
  | [], k :: ks, n, h => by simp [ME] at h
  | e :: es, [], n, h => by simp [ME] at h
  | e :: es, k :: ks, n, h => by
    unfold ME at h
    simp only [List.map_cons, List.cons.injEq, Prod.mk.injEq] at h
    obtain ⟨⟨h1, h2⟩, h3⟩ := h
    unfold Instr.findNow
    rw [h1, h2]
    by_cases e1 : x = k
    · subst e1
      simp [kvE, Instr.sameNow]
    · have e2 : (x == k) = false := by simpa using e1
      simp only [kvE, Instr.sameNow, if_true, e2]
      have ih := now_int x f es ks (n + 1) h3
      unfold kvE at ih
      rw [ih]
      have e3 : (k == x) = false := by simpa using fun e => e1 e.symm
      by_cases hm : x ∈ ks
      · rw [if_pos hm, if_pos (by simp [hm]), List.idxOf_cons, e3]
        simp; omega
      · rw [if_neg hm, if_neg (by simp [hm, e1])]
theorem finds_int : Finds 3 kvE := by
  refine ⟨fun w em x => ?_, fun w x f es ks h => ?_⟩
  · exact run_checkKey undE (by simp [IsKey, kvE]) em 9999
  · rw [run_findKey undE (now_int x f es ks 0 h)]
    simp
theorem check_it (w : World) (em : Bool) (x : It) : (Instr.checkKey em 10000 49 (kvI x)).run Try.prog w = .ok () w := by kernel_rfl
theorem eq_it (w : World) (x y : It) : (Op.equal 49 (kvI x) (kvI y)).run Try.prog w = .ok (decide (x = y)) w := by
  have e : (Op.equalIn 10000 49 (kvI x) (kvI y)).run Try.prog w = .ok (x.l == y.l && x.i == y.i) w := by
    unfold kvI
    have u3 := Try.underlying3
    have a3 := Try.isAgg3
    have z3 := Try.sizeOf3
    have hS : Try.prog.underlying 49 = some (.struct (Try.prog.fieldsOf 49)) := by kernel_rfl
    have hp : Try.prog.stoodInHeld 49 = false := by kernel_rfl
    rw [show (10000 : Nat) = 9999 + 1 from rfl, run_equalIn_agg w 9999 49 _ _ hS hp]
    simp only [Program.fieldsOf, Try.underlying49]
    go_simp
    by_cases h1 : x.l = y.l <;> by_cases h2 : x.i = y.i <;> simp [h1, h2]
  unfold Op.equal Op.maxDepth
  rw [e]
  congr 1
  obtain ⟨a, b⟩ := x
  obtain ⟨c, d⟩ := y
  by_cases h : a = c <;> by_cases h2 : b = d <;> simp [h, h2]
theorem ask_it (w : World) (x : It) (f : It → Nat) : ∀ (es : List MapEntry) (ks : List It) (n : Nat), ME kvI f es ks → (Instr.findAsking 49 (kvI x) es n).run Try.prog w = .ok (if x ∈ ks then some (n + ks.idxOf x, pt (f x)) else none) w
  | [], [], n, _ => by simp [Instr.findAsking]
  | [], k :: ks, n, h => by simp [ME] at h
  | e :: es, [], n, h => by simp [ME] at h
  | e :: es, k :: ks, n, h => by
    unfold ME at h
    simp only [List.map_cons, List.cons.injEq, Prod.mk.injEq] at h
    obtain ⟨⟨h1, h2⟩, h3⟩ := h
    unfold Instr.findAsking
    rw [h1, h2]
    simp only [Sem.run_bind, eq_it, Result.andThen_ok]
    by_cases e1 : x = k
    · subst e1
      simp
    · have e2 : decide (x = k) = false := by simpa using e1
      have e3 : (k == x) = false := by simpa using fun e => e1 e.symm
      rw [e2]
      simp only [Bool.false_eq_true, if_false]
      rw [ask_it w x f es ks (n + 1) h3]
      by_cases hm : x ∈ ks
      · rw [if_pos hm, if_pos (by simp [hm]), List.idxOf_cons, e3]
        simp; omega
      · rw [if_neg hm, if_neg (by simp [hm, e1])]
theorem finds_it : Finds 49 kvI := by
  refine ⟨check_it, fun w x f es ks h => ?_⟩
  have hq : (Instr.findKey 49 (kvI x) es).run Try.prog w = (Instr.findAsking 49 (kvI x) es).run Try.prog w := run_findKey_eq w (by kernel_rfl) _ _
  rw [hq, ask_it w x f es ks 0 h]
  simp
/-- The map at m (nil, or a block) has the keys ks, and at each a pointer to the block f. -/
def MP {κ : Type} (kv : κ → Value) (f : κ → Nat) (w : World) (m : Option Nat) (ks : List κ) : Prop := match m with
  | none => ks = []
  | some b => ∃ es clock, w.heap[b]? = some (.map es clock) ∧ ME kv f es.toList ks
section
variable {κ : Type} [DecidableEq κ] {kv : κ → Value} {f g : κ → Nat} {ks : List κ} {x : κ} {w w' : World} {m : Option Nat} {b : Nat} {T kt : TypeId}
omit [DecidableEq κ] in
theorem MP.same (h : MP kv f w m ks) (hw : ∀ b, m = some b → w'.heap[b]? = w.heap[b]?) : MP kv f w' m ks := by
  cases m with
  | none => exact h
  | some b => obtain ⟨es, c, h1, h2⟩ := h; exact ⟨es, c, (hw b rfl).trans h1, h2⟩
omit [DecidableEq κ] in
theorem MP.re (h : MP kv f w m ks) (hg : ∀ k, k ∈ ks → g k = f k) : MP kv g w m ks := by
  cases m with
  | none => exact h
  | some b =>
    obtain ⟨es, c, h1, h2⟩ := h
    refine ⟨es, c, h1, ?_⟩
    unfold ME at *
    rw [h2]
    exact List.map_congr_left (fun k hk => by rw [hg k hk])
omit [DecidableEq κ] in
theorem MP.lt (h : MP kv f w (some b) ks) : b < w.heap.size := by obtain ⟨es, c, h1, h2⟩ := h; exact block_lt h1
omit [DecidableEq κ] in
theorem MP.made (kv : κ → Value) (f : κ → Nat) (w : World) : MP kv f (w.alloc (.map #[] 0)) (some w.heap.size) [] := ⟨#[], 0, (MapKept.heap_alloc w _).1, rfl⟩
theorem MP.look (hF : Finds kt kv) (ht : Try.prog.underlying T = some (.map kt 45)) (h : MP kv f w m ks) (x : κ) : (Instr.lookup T (.map m) (kv x) false).run Try.prog w = .ok (if x ∈ ks then pt (f x) else .pointer none) w := by
  cases m with
  | none =>
    have h : ks = [] := h
    subst h
    have hf := hF.2 w x f [] [] rfl
    simp [Instr.lookup, run_underlying ht, hF.1 w _ x, hf, Result.andThen]
  | some b =>
    obtain ⟨es, c, hb, hE⟩ := h
    have hf := hF.2 w x f es.toList ks hE
    by_cases hx : x ∈ ks
    · rw [if_pos hx] at hf ⊢
      simp [Instr.lookup, run_underlying ht, MapKept.run_getObj_map hb, hF.1 w _ x, hf, Result.andThen]
    · rw [if_neg hx] at hf ⊢
      simp [Instr.lookup, run_underlying ht, MapKept.run_getObj_map hb, hF.1 w _ x, hf, Result.andThen]
theorem MP.store (hF : Finds kt kv) (ht : Try.prog.underlying T = some (.map kt 45)) (h : MP kv f w (some b) ks) (x : κ) (hx : x ∉ ks) (g : κ → Nat) (hg : ∀ k, k ∈ ks → g k = f k) (v : Nat) (hv : g x = v) :
    ∃ w', (Instr.mapUpdate T (.map (some b)) (kv x) (pt v)).run Try.prog w = .ok () w' ∧ MP kv g w' (some b) (ks ++ [x]) ∧ w.grownBy w' (some b) := by
  obtain ⟨es, c, hb, hE⟩ := h
  have hf := hF.2 w x f es.toList ks hE
  rw [if_neg hx] at hf
  refine ⟨setBlock w b (.map (es.push ⟨kv x, pt v, c⟩) (c + 1)), ?_, ⟨_, _, heap_setBlock_same hb _, ?_⟩, ⟨rfl, rfl, rfl, by simp [setBlock], fun i _ hi => heap_setBlock_other hb _ (fun e => hi (by rw [e]))⟩⟩
  · simp [Instr.mapUpdate, run_underlying ht, MapKept.run_getObj_map hb, hF.1 w false x, hf, MapKept.run_setObj_map _ hb, Result.andThen, setBlock]
  · rw [Array.toList_push]
    exact hE.snoc hg c v hv
theorem MP.drop (hF : Finds kt kv) (ht : Try.prog.underlying T = some (.map kt 45)) (h : MP kv f w (some b) ks) (x : κ) (hx : x ∈ ks) (ty : TypeId) :
    ∃ w', (Builtin.delete_ #[T, kt] ty #[.map (some b), kv x]).run Try.prog w = .ok (.tuple #[]) w' ∧ MP kv f w' (some b) (ks.erase x) ∧ w.grownBy w' (some b) := by
  obtain ⟨es, c, hb, hE⟩ := h
  have hf := hF.2 w x f es.toList ks hE
  rw [if_pos hx] at hf
  refine ⟨setBlock w b (.map (es.eraseIdxIfInBounds (ks.idxOf x)) c), ?_, ⟨_, _, heap_setBlock_same hb _, ?_⟩, ⟨rfl, rfl, rfl, by simp [setBlock], fun i _ hi => heap_setBlock_other hb _ (fun e => hi (by rw [e]))⟩⟩
  · simp [Builtin.delete_, run_underlying ht, MapKept.run_getObj_map hb, hF.1 w _ x, hf, MapKept.run_setObj_map _ hb, Result.andThen, setBlock]
  · have hl := hE.len
    have hj : ks.idxOf x < es.size := by rw [← Array.length_toList, hl]; exact List.idxOf_lt_length_iff.2 hx
    have hsub : (es.eraseIdxIfInBounds (ks.idxOf x)).toList = es.toList.eraseIdx (ks.idxOf x) := by
      unfold Array.eraseIdxIfInBounds
      rw [dif_pos hj]
      simp
    rw [hsub]
    exact hE.erase x
omit [DecidableEq κ] in
theorem MP.len (ht : Try.prog.underlying T = some (.map kt 45)) (h : MP kv f w m ks) (ty : TypeId) : (Builtin.len_ #[T] ty #[.map m]).run Try.prog w = .ok (.int .i64 (ks.length : Nat)) w := by
  cases m with
  | none =>
    have h : ks = [] := h
    subst h
    simp [Builtin.len_, run_underlying ht, goInt, Result.andThen]
  | some b =>
    obtain ⟨es, c, hb, hE⟩ := h
    have hl := hE.len
    rw [Array.length_toList] at hl
    simp [Builtin.len_, run_underlying ht, MapKept.run_getObj_map hb, goInt, Result.andThen, hl]
variable {ops : Array Oper} {rest : List Oper} {o : Oper} {a : Act} {Q : Exit → Act → World → Prop}
theorem wp_mstore (hgd : o.guard = none) (M X V : Operand) (hop : o.op = Op.mapUpdate T M X V) (hF : Finds kt kv) (ht : Try.prog.underlying T = some (.map kt 45)) (h : MP kv f w (some b) ks) (x : κ) (hx : x ∉ ks) (g : κ → Nat) (hg : ∀ k, k ∈ ks → g k = f k) (v : Nat) (hv : g x = v)
    (hm : a.eval M = .map (some b)) (hX : a.eval X = kv x) (hV : a.eval V = pt v) (hK : ∀ w', MP kv g w' (some b) (ks ++ [x]) → w.grownBy w' (some b) → wpList Try.prog ops Q rest (a.put o.dst undef) w') : wpList Try.prog ops Q (o :: rest) a w := by
  refine wpList_plain hgd fun K' hK' => ?_
  obtain ⟨w', hrun, r1, r2⟩ := h.store hF ht x hx g hg v hv
  unfold Oper.wp
  simp [execOp, hop, hm, hX, hV, hrun, Result.andThen]
  exact hK' _ _ (hK w' r1 r2)
theorem wp_mdrop (hgd : o.guard = none) (M X : Operand) (hop : o.op = Op.call { callee := Callee.builtin Builtin.delete, args := #[M, X], argTypes := #[T, kt] }) (hF : Finds kt kv) (ht : Try.prog.underlying T = some (.map kt 45)) (h : MP kv f w (some b) ks) (x : κ) (hx : x ∈ ks)
    (hm : a.eval M = .map (some b)) (hX : a.eval X = kv x) (hK : ∀ w', MP kv f w' (some b) (ks.erase x) → w.grownBy w' (some b) → wpList Try.prog ops Q rest (a.put o.dst (.tuple #[])) w') : wpList Try.prog ops Q (o :: rest) a w := by
  refine wpList_plain hgd fun K' hK' => ?_
  obtain ⟨w', hrun, r1, r2⟩ := h.drop hF ht x hx o.type
  unfold Oper.wp
  simp [execOp, hop, resolve, invoke, builtin, hm, hX, hrun, Result.andThen]
  exact hK' _ _ (hK w' r1 r2)
end
end Go.Proofs.Ytfmbogpbhchelaa
