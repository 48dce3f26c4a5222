/- The boxes of the closure of alike, of chapter 7's laws, and what it is to make of them: it walks along the reference's versions. No condition but those that each fact names. -/
import Derived.Test.YtpjjpjdamieeeaaNb
namespace Go.Proofs.Ytpjjpjdamieeeaa
set_option maxRecDepth 100000
set_option linter.unusedVariables false
open Go.ChangeShapes Go.WideShapes Go.ChangeAt Go.RowKit
/-- The first place from k on whose version is not gone. -/
def skp (l : List (Ver Int)) (k : Nat) : Nat := k + ((l.drop k).takeWhile (fun x => x.g)).length
theorem skp_at {l : List (Ver Int)} {k : Nat} (hk : k < l.length) (hg : l[k].g = true) : skp l k = skp l (k + 1) := by
  unfold skp
  rw [← List.getElem_cons_drop (h := hk), List.takeWhile_cons, if_pos hg]
  simp
  omega
theorem skp_stop {l : List (Ver Int)} {k : Nat} (h : ∀ (hk : k < l.length), l[k].g = false) : skp l k = k := by
  unfold skp
  by_cases hk : k < l.length
  · rw [← List.getElem_cons_drop (h := hk), List.takeWhile_cons, if_neg (by rw [h hk]; simp)]
    rfl
  · rw [List.drop_of_length_le (by omega)]; rfl
/-- What the closure makes of 'good'. -/
def gdS (l : List (Ver Int)) (k : Nat) (good : Bool) (v : Int) : Bool := good && (decide (skp l k < l.length) && decide ((l.getD (skp l k) ⟨0, 0, false⟩).v = v))
/-- The closure's boxes, and the way to the reference's Cell. -/
structure Bx (w : World) (bk bg bw q y : Nat) (k : Nat) (good : Bool) (V : Nat → Prop) (l : List (Ver Int)) : Prop where
  hk : w.heap[bk]? = some (.cells #[.int .i64 (k : Nat)] 3 (0, 0))
  hg : w.heap[bg]? = some (.cells #[.bool good] 4 (0, 0))
  hw : w.heap[bw]? = some (.cells #[.pointer (some ⟨q, 0, none⟩)] 23 (0, 0))
  hq : ∃ c0 c1 c2 c4, w.heap[q]? = some (.cells #[c0, c1, c2, .pointer (some ⟨y, 0, none⟩), c4] 35 (0, 0))
  vc : VC V w y l
  nk : ¬ V bk
  ng : ¬ V bg
section
variable {w w' : World} {bk bg bw q y k : Nat} {good : Bool} {V : Nat → Prop} {l : List (Ver Int)}
theorem blk_ne {a b : Nat} {x x' : Array Value} {t t' : TypeId} (h : w.heap[a]? = some (.cells x t (0, 0))) (h' : w.heap[b]? = some (.cells x' t' (0, 0))) (ht : t ≠ t') : a ≠ b := fun e => by
  subst e
  rw [h] at h'
  injection h' with h'
  injection h' with _ h'
  exact ht h'
theorem Bx.cells (h : Bx w bk bg bw q y k good V l) : w.cell? ⟨bk, 0, none⟩ = some (.int .i64 (k : Nat)) ∧ w.cell? ⟨bg, 0, none⟩ = some (.bool good) ∧ w.cell? ⟨bw, 0, none⟩ = some (.pointer (some ⟨q, 0, none⟩)) ∧ w.cell? ⟨q, 3, none⟩ = some (.pointer (some ⟨y, 0, none⟩)) ∧ w.frozen? ⟨bk, 0, none⟩ = false ∧ w.frozen? ⟨bg, 0, none⟩ = false := by
  obtain ⟨c0, c1, c2, c4, hq⟩ := h.hq
  refine ⟨?_, ?_, ?_, ?_, frozen_of_row w bk 0 _ _ h.hk, frozen_of_row w bg 0 _ _ h.hg⟩
  · rw [cell_of_row w bk _ _ _ _ h.hk]; rfl
  · rw [cell_of_row w bg _ _ _ _ h.hg]; rfl
  · rw [cell_of_row w bw _ _ _ _ h.hw]; rfl
  · rw [cell_of_row w q _ _ _ _ hq]; rfl
theorem Bx.same (h : Bx w bk bg bw q y k good V l) (hs : w.heap.size ≤ w'.heap.size) (hh : ∀ j, j < w.heap.size → w'.heap[j]? = w.heap[j]?) : Bx w' bk bg bw q y k good V l := by
  obtain ⟨c0, c1, c2, c4, hq⟩ := h.hq
  exact ⟨(hh _ (block_lt h.hk)).trans h.hk, (hh _ (block_lt h.hg)).trans h.hg, (hh _ (block_lt h.hw)).trans h.hw, ⟨c0, c1, c2, c4, (hh _ (block_lt hq)).trans hq⟩, h.vc.same (fun _ h => h) (fun j hj => Nat.lt_of_lt_of_le (h.vc.lt j hj) hs) (fun j hj => hh j (h.vc.lt j hj)), h.nk, h.ng⟩
theorem Bx.drewN (h : Bx w bk bg bw q y k good V l) (n : Nat) : Bx (w.drewN n) bk bg bw q y k good V l := h.same (Nat.le_refl _) (fun _ _ => rfl)
theorem Bx.setK (h : Bx w bk bg bw q y k good V l) (m : Nat) : Bx (w.setCell ⟨bk, 0, none⟩ (.int .i64 (m : Nat))) bk bg bw q y m good V l := by
  obtain ⟨c0, c1, c2, c4, hq⟩ := h.hq
  have hz : (w.setCell ⟨bk, 0, none⟩ (.int .i64 (m : Nat))).heap.size = w.heap.size := by simp [World.setCell]
  have o : ∀ j, j ≠ bk → (w.setCell ⟨bk, 0, none⟩ (.int .i64 (m : Nat))).heap[j]? = w.heap[j]? := fun j hj => heap_setCell_other w ⟨bk, 0, none⟩ j _ (fun e => hj (by simp at e; omega))
  refine ⟨?_, (o _ (blk_ne h.hg h.hk (by decide))).trans h.hg, (o _ (blk_ne h.hw h.hk (by decide))).trans h.hw, ⟨c0, c1, c2, c4, (o _ (blk_ne hq h.hk (by decide))).trans hq⟩, h.vc.same (fun _ h => h) (fun j hj => by rw [hz]; exact h.vc.lt j hj) (fun j hj => o j (fun e => h.nk (e ▸ hj))), h.nk, h.ng⟩
  have := heap_setCell_same w bk 0 _ _ (.int .i64 (m : Nat)) h.hk
  rw [this]; rfl
theorem Bx.setG (h : Bx w bk bg bw q y k good V l) (g : Bool) : Bx (w.setCell ⟨bg, 0, none⟩ (.bool g)) bk bg bw q y k g V l := by
  obtain ⟨c0, c1, c2, c4, hq⟩ := h.hq
  have hz : (w.setCell ⟨bg, 0, none⟩ (.bool g)).heap.size = w.heap.size := by simp [World.setCell]
  have o : ∀ j, j ≠ bg → (w.setCell ⟨bg, 0, none⟩ (.bool g)).heap[j]? = w.heap[j]? := fun j hj => heap_setCell_other w ⟨bg, 0, none⟩ j _ (fun e => hj (by simp at e; omega))
  refine ⟨(o _ (blk_ne h.hk h.hg (by decide))).trans h.hk, ?_, (o _ (blk_ne h.hw h.hg (by decide))).trans h.hw, ⟨c0, c1, c2, c4, (o _ (blk_ne hq h.hg (by decide))).trans hq⟩, h.vc.same (fun _ h => h) (fun j hj => by rw [hz]; exact h.vc.lt j hj) (fun j hj => o j (fun e => h.ng (e ▸ hj))), h.nk, h.ng⟩
  have := heap_setCell_same w bg 0 _ _ (.bool g) h.hg
  rw [this]; rfl
/-- The end of the closure. -/
theorem told_end {W : World} {j : Nat} {g2 : Bool} (h : Bx W bk bg bw q y j good V l) (hc : Chg (fun j => j = bk ∨ j = bg) w W) : Bx ((W.setCell ⟨bg, 0, none⟩ (.bool g2)).setCell ⟨bk, 0, none⟩ (.int .i64 ((j : Int) + 1))).drew bk bg bw q y (j + 1) g2 V l ∧ Chg (fun j => j = bk ∨ j = bg) w ((W.setCell ⟨bg, 0, none⟩ (.bool g2)).setCell ⟨bk, 0, none⟩ (.int .i64 ((j : Int) + 1))).drew :=
  ⟨((h.setG g2).setK (j + 1)).drewN 1, ((hc.grown (grown_set W bg 0 (.bool g2)) (fun k e => by injection e with e; subst e; exact .inl (.inr rfl))).grown (grown_set _ bk 0 (.int .i64 ((j : Int) + 1))) (fun k e => by injection e with e; subst e; exact .inl (.inl rfl))).grown (grown_drew _ none) (fun k e => by cases e)⟩
end
end Go.Proofs.Ytpjjpjdamieeeaa
