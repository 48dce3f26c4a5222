/- A map from ints to true in memory, its keys listed (MB): a look-up, a store at a new key and at one that is there, len. Conditions: the map lies in memory. -/
import Derived.Test.YtmbbmgkbhfnchaaUj
import Derived.Maps.OwnSet
import Derived.Laws.Cover3
namespace Go.Proofs.Ytmbbmgkbhfnchaa
set_option maxRecDepth 100000
set_option linter.unusedVariables false
open Go.ChangeShapes Go.WideShapes Go.ChangeAt Go.RowKit
open Go.MapKept Go.ChangeMaps
def kvE (l : Int) : Value := .int .i64 l
/-- Entries whose keys are ks and whose values are true. -/
def ME (es : List MapEntry) (ks : List Int) : Prop := es.map (fun e => (e.key, e.val)) = ks.map (fun k => (kvE k, Value.bool true))
theorem ME.len {es : List MapEntry} {ks : List Int} (h : ME es ks) : es.length = ks.length := by have := congrArg List.length h; simpa using this
theorem undI : Try.prog.underlying 3 = some (.int .i64) := by kernel_rfl
theorem undB : Try.prog.underlying 54 = some (.map 3 4) := by kernel_rfl
theorem zeroB (w : World) : (zeroValue 4).run Try.prog w = .ok (.bool false) w := by kernel_rfl
theorem now_int (x : Int) : ∀ (es : List MapEntry) (ks : List Int) (n : Nat), ME es ks → Instr.findNow (.int .i64) (kvE x) es n = some (if x ∈ ks then some (n + ks.idxOf x, .bool true) else none)
  | [], [], n, _ => by simp [Instr.findNow]
  | [], k :: ks, n, h => by simp [ME] at h
  | e :: es, [], n, h => by simp [ME] at h
  | e :: es, k :: ks, n, h => by
    unfold ME at h
    simp only [List.map_cons, List.cons.injEq, Prod.mk.injEq] at h
    obtain ⟨⟨h1, h2⟩, h3⟩ := h
    unfold Instr.findNow
    rw [h1, h2]
    by_cases e1 : x = k
    · subst e1
      simp [kvE, Instr.sameNow]
    · have e2 : (x == k) = false := by simpa using e1
      simp only [kvE, Instr.sameNow, if_true, e2]
      have ih := now_int x es ks (n + 1) h3
      unfold kvE at ih
      rw [ih]
      have e3 : (k == x) = false := by simpa using fun e => e1 e.symm
      by_cases hm : x ∈ ks
      · rw [if_pos hm, if_pos (by simp [hm]), List.idxOf_cons, e3]
        simp; omega
      · rw [if_neg hm, if_neg (by simp [hm, e1])]
theorem check_int (w : World) (em : Bool) (x : Int) : (Instr.checkKey em 10000 3 (kvE x)).run Try.prog w = .ok () w := run_checkKey undI (by simp [IsKey, kvE]) em 9999
theorem find_int {w : World} {x : Int} {es : List MapEntry} {ks : List Int} (h : ME es ks) : (Instr.findKey 3 (kvE x) es).run Try.prog w = .ok (if x ∈ ks then some (ks.idxOf x, .bool true) else none) w := by
  rw [run_findKey undI (now_int x es ks 0 h)]
  simp
theorem stays_int (w : World) (x : Int) : (Instr.keyThatStays (kvE x) (kvE x)).run Try.prog w = .ok (kvE x) w := by
  have e : Instr.sameBits 10000 (kvE x) (kvE x) = true := by simp [Instr.sameBits, kvE]
  unfold Instr.keyThatStays
  rw [e]
  rfl
/-- The map at block b has the keys ks, and true at each. -/
def MB (w : World) (b : Nat) (ks : List Int) : Prop := ∃ es clock, w.heap[b]? = some (.map es clock) ∧ ME es.toList ks
section
variable {ks : List Int} {w w' : World} {b : Nat}
theorem MB.same (h : MB w b ks) (hw : w'.heap[b]? = w.heap[b]?) : MB w' b ks := by obtain ⟨es, c, h1, h2⟩ := h; exact ⟨es, c, hw.trans h1, h2⟩
theorem MB.lt (h : MB w b ks) : b < w.heap.size := by obtain ⟨es, c, h1, h2⟩ := h; exact block_lt h1
theorem mb_made (w : World) : MB (w.alloc (.map #[] 0)) w.heap.size [] := ⟨#[], 0, (MapKept.heap_alloc w _).1, rfl⟩
theorem MB.look (h : MB w b ks) (x : Int) : (Instr.lookup 54 (.map (some b)) (.int .i64 x) false).run Try.prog w = .ok (.bool (decide (x ∈ ks))) w := by
  obtain ⟨es, c, hb, hE⟩ := h
  have hf := find_int (w := w) (x := x) hE
  have hc := check_int w
  unfold kvE at hf hc
  by_cases hx : x ∈ ks
  · rw [if_pos hx] at hf
    simp [Instr.lookup, run_underlying undB, MapKept.run_getObj_map hb, hc, hf, Result.andThen, hx]
  · rw [if_neg hx] at hf
    simp [Instr.lookup, run_underlying undB, MapKept.run_getObj_map hb, hc, hf, Result.andThen, hx]
theorem MB.store (h : MB w b ks) (x : Int) :
    ∃ w', (Instr.mapUpdate 54 (.map (some b)) (.int .i64 x) (.bool true)).run Try.prog w = .ok () w' ∧ MB w' b (if x ∈ ks then ks else ks ++ [x]) ∧ w.grownBy w' (some b) := by
  obtain ⟨es, c, hb, hE⟩ := h
  have hf := find_int (w := w) (x := x) hE
  have hc := check_int w
  have hs := stays_int w x
  by_cases hx : x ∈ ks
  · rw [if_pos hx] at hf ⊢
    have hl := hE.len
    have hj : ks.idxOf x < es.toList.length := by rw [hl]; exact List.idxOf_lt_length_iff.2 hx
    have hj2 : ks.idxOf x < es.size := by simpa using hj
    have hp : (es.toList[ks.idxOf x]'hj).key = kvE x ∧ (es.toList[ks.idxOf x]'hj).val = .bool true := by
      have h0 : (es.toList.map (fun e => (e.key, e.val)))[ks.idxOf x]? = (ks.map (fun k => (kvE k, Value.bool true)))[ks.idxOf x]? := by rw [show es.toList.map (fun e => (e.key, e.val)) = _ from hE]
      rw [List.getElem?_map, List.getElem?_map, List.getElem?_eq_getElem hj, List.getElem?_eq_getElem (List.idxOf_lt_length_iff.2 hx)] at h0
      simp only [Option.map_some, Option.some.injEq, Prod.mk.injEq, List.getElem_idxOf] at h0
      exact h0
    have hp1 : (es[ks.idxOf x]'hj2).key = kvE x := by simpa using hp.1
    have hp2 : (es[ks.idxOf x]'hj2).val = .bool true := by simpa using hp.2
    unfold kvE at hf hc hs hp1
    refine ⟨setBlock w b (.map (es.modify (ks.idxOf x) (fun e => { e with key := .int .i64 x, val := .bool true })) c), ?_, ⟨_, _, heap_setBlock_same hb _, ?_⟩, ⟨rfl, rfl, rfl, by simp [setBlock], fun i _ hi => heap_setBlock_other hb _ (fun e => hi (by rw [e]))⟩⟩
    · simp [Instr.mapUpdate, run_underlying undB, MapKept.run_getObj_map hb, hc, hf, hj2, hp1, hs, MapKept.run_setObj_map _ hb, Result.andThen, setBlock]
    · have e : (es.modify (ks.idxOf x) (fun e => { e with key := .int .i64 x, val := .bool true })).toList = es.toList := by
        rw [Array.toList_modify]
        apply List.ext_getElem?
        intro i
        rw [List.getElem?_modify]
        split
        · rename_i hi
          subst hi
          rw [List.getElem?_eq_getElem hj]
          simp only [Option.map_eq_map, Option.map_some, Option.some.injEq]
          have h1 := hp.1
          have h2 := hp.2
          unfold kvE at h1
          rw [← h1, ← h2]
        · simp
      rw [e]; exact hE
  · rw [if_neg hx] at hf ⊢
    unfold kvE at hf hc
    refine ⟨setBlock w b (.map (es.push ⟨.int .i64 x, .bool true, c⟩) (c + 1)), ?_, ⟨_, _, heap_setBlock_same hb _, ?_⟩, ⟨rfl, rfl, rfl, by simp [setBlock], fun i _ hi => heap_setBlock_other hb _ (fun e => hi (by rw [e]))⟩⟩
    · simp [Instr.mapUpdate, run_underlying undB, MapKept.run_getObj_map hb, hc, hf, MapKept.run_setObj_map _ hb, Result.andThen, setBlock]
    · rw [Array.toList_push]
      unfold ME at *
      rw [List.map_append, List.map_append, hE]
      simp [kvE]
theorem MB.len (h : MB w b ks) (ty : TypeId) : (Builtin.len_ #[54] ty #[.map (some b)]).run Try.prog w = .ok (.int .i64 (ks.length : Nat)) w := by
  obtain ⟨es, c, hb, hE⟩ := h
  have hl := hE.len
  rw [Array.length_toList] at hl
  simp [Builtin.len_, run_underlying undB, MapKept.run_getObj_map hb, goInt, Result.andThen, hl]
end
end Go.Proofs.Ytmbbmgkbhfnchaa
