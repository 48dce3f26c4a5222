/- The program's encodable of chapter 10: its contract. Conditions: the rows lie in memory, fewer than 1,000,000 writes; words of float64 are below 2^64; strings are of a length that Go allows. -/
import Derived.Test.YtdhpphbgobakhaaZd
namespace Go.Proofs.Ytdhpphbgobakhaa
set_option maxRecDepth 100000
set_option linter.unusedVariables false
open Go.ChangeShapes Go.WideShapes Go.ChangeAt Go.RowKit
open Fl (S cmpK keyN normN)
open Val (V cmpV isB ltT)
theorem infoT : (Try.prog.info? 4).map (fun i => (i.zero, i.size, i.bytes)) = some (some (.bool false), 1, 1) := by kernel_rfl
/-- Which numbers stand there already. -/
def sn (e : Bool) (L : List Wr) (m : Nat) : List Bool := (List.range m).map fun (j : Nat) => L.any fun x => (x.e == e) && (x.id == (j : Int))
theorem sn_len (e : Bool) (L : List Wr) (m : Nat) : (sn e L m).length = m := by unfold sn; simp
theorem sn_nil (e : Bool) (m : Nat) : (sn e [] m).map Value.bool = List.replicate m (Value.bool false) := by
  unfold sn
  apply List.ext_getElem?
  intro j
  simp only [List.any_nil, List.getElem?_map, List.getElem?_replicate]
  by_cases h : j < m <;> simp [h]
theorem sn_at (e : Bool) (L : List Wr) (m j : Nat) (h : j < m) : ((sn e L m).map Value.bool)[j]? = some (.bool (L.any fun x => (x.e == e) && (x.id == (j : Int)))) := by
  unfold sn; simp [h]
theorem any_up (L : List Wr) (k : Nat) (h : k < L.length) (f : Wr → Bool) : (L.take (k + 1)).any f = ((L.take k).any f || f L[k]) := by
  rw [List.take_succ_eq_append_getElem h, List.any_append]; simp
theorem sn_other (e : Bool) (L : List Wr) (m k : Nat) (h : k < L.length) (hn : (L[k].e == e) = false) : sn e (L.take (k + 1)) m = sn e (L.take k) m := by
  unfold sn
  congr 1
  funext j
  rw [any_up L k h, hn]; simp
theorem sn_set (e : Bool) (L : List Wr) (m k j : Nat) (h : k < L.length) (he : (L[k].e == e) = true) (hj : L[k].id = (j : Int)) : ((sn e (L.take k) m).map Value.bool).set j (.bool true) = (sn e (L.take (k + 1)) m).map Value.bool := by
  unfold sn
  apply List.ext_getElem?
  intro i
  rw [List.getElem?_set]
  simp only [List.map_map, List.length_map, List.length_range]
  by_cases hi : j = i
  · subst hi
    by_cases hm : j < m
    · simp [hm, any_up L k h, he, hj]
    · simp [hm]
  · rw [if_neg hi]
    by_cases hm : i < m
    · have hq : (L[k].id == (i : Int)) = false := by rw [hj, beq_eq_false_iff_ne]; omega
      simp [hm, any_up L k h, hq]
    · simp [hm]
theorem twin_any (L : List Wr) (k : Nat) (h : k < L.length) : ∀ m, m ≤ k → (List.range m).all (fun q => !twinB L k q) = !((L.take m).any fun y => (y.e == L[k].e) && (y.id == L[k].id))
  | 0, _ => by simp
  | m + 1, hm => by
    rw [all_up, twin_any L k h m (by omega), any_up L m (by omega)]
    unfold twinB
    rw [getD_at L m wd (by omega), getD_at L k wd h]
    simp
theorem mayW_eq (nn ne : Int) (L : List Wr) (k : Nat) (h : k < L.length) : mayW nn ne L k = (witB L[k].id 1 (if L[k].e then ne else nn) && consB L[k] && !((L.take k).any fun y => (y.e == L[k].e) && (y.id == L[k].id))) := by
  unfold mayW
  rw [twin_any L k h k (Nat.le_refl _), getD_at L k wd h, writeB_eq]
theorem mayB_wit (nn ne : Int) (L : List Wr) : mayB nn ne L = (witB nn 0 24 && witB ne 0 32 && (List.range L.length).all (mayW nn ne L)) := by
  unfold mayB witB
  simp only [Bool.and_assoc]
def bRow (W : World) (g m : Nat) (L : List Bool) : Prop := W.ownsRow 0 4 1 (.slice (some ⟨g, 0, none⟩) m m) m (L.map Value.bool)
theorem bRow.lt {W : World} {g m : Nat} {L : List Bool} (h : bRow W g m L) : g < W.heap.size := (World.ownsRow.lt h g rfl).2
theorem bRow.kept {W W' : World} {g m : Nat} {L : List Bool} {row : Option Nat} (h : bRow W g m L) (hg : W.grownBy W' row) (hne : some g ≠ row) : bRow W' g m L :=
  own_same h (fun k hk => by
    simp [Value.ownBlock] at hk
    subst hk
    exact hg.block _ h.lt hne)
theorem bRow.below {W W' : World} {g m : Nat} {L : List Bool} (h : bRow W g m L) (hb : Below W.heap.size W W') : bRow W' g m L := h.kept (grown_of_below hb none) (by simp)
theorem make_bools (w : World) (a : Nat) (ha : a ≤ 40) : ∃ wm, (Instr.makeSlice 78 (.int .i64 ((a : Int) + 1)) (.int .i64 ((a : Int) + 1))).run Try.prog w = .ok (.slice (some ⟨w.heap.size, 0, none⟩) (a + 1) (a + 1)) wm ∧ bRow wm w.heap.size (a + 1) (sn true [] (a + 1)) ∧ Below w.heap.size w wm ∧ wm.heap.size = w.heap.size + 1 := by
  obtain ⟨i0, hi0, hz0, hz1, hz2⟩ := info_parts infoT
  have hr := run_make (P := Try.prog) w 78 4 i0 _ Try.underlying78 hi0 hz0 .i64 .i64 ((a : Int) + 1) ((a : Int) + 1) (by omega) (Int.le_refl _) (by rw [hz2]; omega) (by omega)
  rw [show ((a : Int) + 1).toNat = a + 1 by omega, hz1] at hr
  refine ⟨_, hr, ?_, (Below.refl w.heap.size w).alloc (Nat.le_refl _) _, by simp⟩
  have h := World.ownsRow_lit (base := 0) (e := 4) (size := 1) w (madeCells (Value.bool false).cells ((a + 1) * 1)) (a + 1) (Nat.zero_le _) (by unfold maxLen; omega) (size_madeCells _ _)
  unfold bRow
  rw [sn_nil]
  rw [show (Value.bool false).cells = #[Value.bool false] from rfl, toList_madeCells_one] at h
  rw [show (Value.bool false).cells = #[Value.bool false] from rfl]
  simpa using h
end Go.Proofs.Ytdhpphbgobakhaa
