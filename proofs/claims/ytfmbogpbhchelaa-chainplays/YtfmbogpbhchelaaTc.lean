/- The links of the program's Lists in memory (ND); what newEnds, insert and remove make of them. Conditions: the links lie in memory. -/
import Derived.Test.YtfmbogpbhchelaaTa
import Derived.Test.YtfmbogpbhchelaaTb
namespace Go.Proofs.Ytfmbogpbhchelaa
set_option maxRecDepth 100000
set_option linter.unusedVariables false
open Go.ChangeShapes Go.WideShapes Go.ChangeAt Go.RowKit
abbrev nc (i : Int) (p n : Nat) : Array Value := #[.int .i64 i, pt p, pt n]
/-- The blocks of S are links: their ids, the ones before, the next. -/
def ND (S : Nat → Prop) (w : World) (nx pv : Nat → Nat) (idf : Nat → Int) : Prop := ∀ b, S b → w.heap[b]? = some (.cells (nc (idf b) (pv b) (nx b)) 54 (0, 0))
section
variable {S S' : Nat → Prop} {w w' : World} {nx pv : Nat → Nat} {idf : Nat → Int} {b v : Nat}
theorem ND.lt (h : ND S w nx pv idf) (hb : S b) : b < w.heap.size := block_lt (h b hb)
theorem ND.same (h : ND S w nx pv idf) (hw : ∀ k, S k → w'.heap[k]? = w.heap[k]?) : ND S w' nx pv idf := fun b hb => (hw b hb).trans (h b hb)
theorem ND.sub (h : ND S w nx pv idf) (hs : ∀ k, S' k → S k) : ND S' w nx pv idf := fun b hb => h b (hs b hb)
theorem ND.cells (h : ND S w nx pv idf) (hb : S b) : w.cell? ⟨b, 0, none⟩ = some (.int .i64 (idf b)) ∧ w.cell? ⟨b, 1, none⟩ = some (pt (pv b)) ∧ w.cell? ⟨b, 2, none⟩ = some (pt (nx b)) ∧ ∀ o, w.frozen? ⟨b, o, none⟩ = false := by
  have hq := h b hb
  refine ⟨?_, ?_, ?_, fun o => frozen_of_row w b o _ _ hq⟩ <;> rw [cell_of_row w b _ _ _ _ hq] <;> rfl
theorem ND.next (h : ND S w nx pv idf) (hb : S b) (v : Nat) : ND S (w.setCell ⟨b, 2, none⟩ (pt v)) (up nx b v) pv idf := fun k hk => by
  by_cases e : k = b
  · subst e
    have := heap_setCell_same w k 2 _ _ (pt v) (h k hk)
    rw [this, up_same]; rfl
  · rw [heap_setCell_other w ⟨b, 2, none⟩ k (pt v) e, up_ne e]
    exact h k hk
theorem ND.prev (h : ND S w nx pv idf) (hb : S b) (v : Nat) : ND S (w.setCell ⟨b, 1, none⟩ (pt v)) nx (up pv b v) idf := fun k hk => by
  by_cases e : k = b
  · subst e
    have := heap_setCell_same w k 1 _ _ (pt v) (h k hk)
    rw [this, up_same]; rfl
  · rw [heap_setCell_other w ⟨b, 1, none⟩ k (pt v) e, up_ne e]
    exact h k hk
theorem ND.made (h : ND S w nx pv idf) (i : Int) (p n : Nat) : ND (fun k => S k ∨ k = w.heap.size) (w.alloc (.cells (nc i p n) 54)) (up nx w.heap.size n) (up pv w.heap.size p) (up idf w.heap.size i) := fun k hk => by
  by_cases e : k = w.heap.size
  · subst e
    rw [up_same, up_same, up_same]
    exact heap_alloc_new w _
  · have hS := hk.resolve_right e
    rw [up_ne e, up_ne e, up_ne e]
    have hb := (Below.refl w.heap.size w).alloc (Nat.le_refl _) (.cells (nc i p n) 54)
    rw [hb.block k (h.lt hS)]
    exact h k hS
theorem newEnds_any (w : World) : Calls Try.prog 22 #[] w fun e w' => e = .returned (pt w.heap.size) ∧ w'.heap[w.heap.size]? = some (.cells (nc 0 w.heap.size w.heap.size) 54 (0, 0)) ∧ Below w.heap.size w w' ∧ w'.heap.size = w.heap.size + 1 := by
  go_enter Try.func22, Try.ntmps22
  go_wp2
  go_ret
  exact ⟨rfl, heap_alloc_new w _, (Below.refl _ _).alloc (Nat.le_refl _) _, by simp⟩
theorem insert_any (h : ND S w nx pv idf) {x : Nat} (hx : S x) (hn : S (nx x)) (i : Int) : Calls Try.prog 23 #[pt x, .int .i64 i] w fun e w' => e = .returned (pt w.heap.size) ∧ ND (fun k => S k ∨ k = w.heap.size) w' (up (up nx w.heap.size (nx x)) x w.heap.size) (up (up pv w.heap.size x) (nx x) w.heap.size) (up idf w.heap.size i) ∧ Chg S w w' ∧ w'.heap.size = w.heap.size + 1 := by
  have HD := Lib.hid h
  obtain ⟨k0, k1, k2, kf⟩ := h.cells hx
  clear h
  go_enter Try.func23, Try.ntmps23
  go_upto_region 2 with fail
  have HV := Lib.hid (HD.out.made i x (nx x))
  have HB := Lib.hid ((Below.refl w.heap.size w).alloc (Nat.le_refl _) (.cells (nc i x (nx x)) 54))
  have HZ : Hid ((w.alloc (.cells (nc i x (nx x)) 54)).heap.size = w.heap.size + 1) := by simp [Hid]
  have HX := Lib.hid (HD.out.lt hx)
  have HN := Lib.hid (HD.out.lt hn)
  clear k0 k1 k2 kf
  unfold nc at HV HB HZ
  generalize w.alloc (.cells #[.int .i64 i, pt x, pt (nx x)] 54) = V at *
  obtain ⟨k0, k1, k2, kf⟩ := HV.out.cells (b := x) (.inl hx)
  obtain ⟨n0, n1, n2, nf⟩ := HV.out.cells (b := nx x) (.inl hn)
  rw [up_ne (show x ≠ w.heap.size by have := HX.out; omega)] at k0 k1 k2
  rw [up_ne (show nx x ≠ w.heap.size by have := HN.out; omega)] at n0 n1 n2
  go_wp2
  go_ret
  refine ⟨rfl, (HV.out.prev (.inl hn) w.heap.size).next (.inl hx) w.heap.size, ?_, ?_⟩
  · exact ((Chg.below HB.out).grown (grown_set V (nx x) 1 (pt w.heap.size)) (fun k e => by injection e with e; subst e; exact .inl hn)).grown (grown_set _ x 2 (pt w.heap.size)) (fun k e => by injection e with e; subst e; exact .inl hx)
  · simp [World.setCell, HZ.out]
theorem remove_any (h : ND S w nx pv idf) (hb : S b) (hp : S (pv b)) (hn : S (nx b)) (hpb : pv b ≠ b) : Calls Try.prog 25 #[pt b] w fun e w' => e = .returned (.tuple #[]) ∧ ND S w' (up nx (pv b) (nx b)) (up pv (nx b) (pv b)) idf ∧ Chg S w w' ∧ w'.heap.size = w.heap.size := by
  have HD := Lib.hid h
  obtain ⟨k0, k1, k2, kf⟩ := h.cells hb
  obtain ⟨p0, p1, p2, pf⟩ := h.cells hp
  clear h
  go_enter Try.func25, Try.ntmps25
  go_upto_region 0 with fail
  go_still_tail 10, (by kernel_rfl)
  change wpList _ _ _ _ _ w.drew
  go_upto_region 1 with fail
  have HV := Lib.hid (show ND S (w.setCell ⟨pv b, 2, none⟩ (pt (nx b))).drew (up nx (pv b) (nx b)) pv idf from HD.out.next hp (nx b))
  have HC := Lib.hid (((Chg.refl S w).grown (grown_set w (pv b) 2 (pt (nx b))) (fun k e => by injection e with e; subst e; exact .inl hp)).grown (grown_drew _ none) (fun k e => by cases e))
  have HZ : Hid ((w.setCell ⟨pv b, 2, none⟩ (pt (nx b))).drew.heap.size = w.heap.size) := by simp [Hid, World.setCell]
  clear k0 k1 k2 kf p0 p1 p2 pf HD
  generalize (w.setCell ⟨pv b, 2, none⟩ (pt (nx b))).drew = V at *
  obtain ⟨k0, k1, k2, kf⟩ := HV.out.cells hb
  obtain ⟨p0, p1, p2, pf⟩ := HV.out.cells hn
  rw [up_ne hpb.symm] at k2
  go_still_tail 10, (by kernel_rfl)
  change wpList _ _ _ _ _ V.drew
  go_wp2

  refine bodyPost_end (results_none rfl _ _ _) rfl ?_
  refine ⟨rfl, (show ND S (V.setCell ⟨nx b, 1, none⟩ (pt (pv b))).drew _ _ _ from HV.out.prev hn (pv b)), ?_, by simp [World.setCell, HZ.out]⟩
  exact HC.out.trans (((Chg.refl _ V).grown (grown_set V (nx b) 1 (pt (pv b))) (fun k e => by injection e with e; subst e; exact .inl (.inl hn))).grown (grown_drew _ none) (fun k e => by cases e))
end
end Go.Proofs.Ytfmbogpbhchelaa
