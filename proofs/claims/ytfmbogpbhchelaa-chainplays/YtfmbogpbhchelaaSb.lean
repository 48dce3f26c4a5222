/- The reference's Lists (chapter 8) in memory (IM, IC), and what at, Add, Cut and Walk do; Same. Conditions: the Lists lie in memory, fewer than 900,000 items. -/
import Derived.Test.YtfmbogpbhchelaaSa
import Derived.Deep.CutBlock
namespace Go.Proofs.Ytfmbogpbhchelaa
set_option maxRecDepth 100000
set_option linter.unusedVariables false
open Go.ChangeShapes Go.WideShapes Go.ChangeAt Go.RowKit
def ic (x : It) : List Value := [.int .i64 x.l, .int .i64 x.i]
def itc (I : List It) : List Value := I.flatMap ic
def ics (L : List Int) : List Value := L.map (.int .i64)
theorem ic_len (I : List It) : ∀ x ∈ I, (ic x).length = 2 := fun x _ => rfl
theorem itc_len (I : List It) : (itc I).length = I.length * 2 := flat_len ic 2 I (ic_len I)
theorem itc_app (I J : List It) : itc (I ++ J) = itc I ++ itc J := by simp [itc]
theorem itc_take (I : List It) (i : Nat) (hi : i ≤ I.length) : (itc I).take (i * 2) = itc (I.take i) := by
  have e : I = I.take i ++ I.drop i := (List.take_append_drop i I).symm
  have hl : (itc (I.take i)).length = i * 2 := by rw [itc_len, List.length_take, Nat.min_eq_left hi]
  have e2 : itc I = itc (I.take i) ++ itc (I.drop i) := by rw [← itc_app, ← e]
  rw [e2, ← hl, List.take_left]
theorem ic_one (I : List It) : ∀ u ∈ itc I, u.oneCell' = true := by
  intro u hu
  obtain ⟨x, _, hx⟩ := List.mem_flatMap.1 hu
  simp only [ic, List.mem_cons, List.not_mem_nil, or_false] at hx
  rcases hx with rfl | rfl <;> rfl
theorem ics_one (L : List Int) : ∀ u ∈ ics L, u.oneCell' = true := by
  intro u hu
  obtain ⟨x, _, rfl⟩ := List.mem_map.1 hu
  rfl
theorem ics_snoc (L : List Int) (t : Int) : ics (L ++ [t]) = ics L ++ [.int .i64 t] := by simp [ics]
theorem infoIt : (Try.prog.info? 52).map (fun i => (i.zero, i.size, i.bytes)) = some (some (.agg #[.int .i64 0, .int .i64 0]), 2, 16) := by kernel_rfl
/-- The Lists in block a, its items at v1; all of it in blocks of F. -/
structure IM (F : Nat → Prop) (w : World) (a : Nat) (v1 : Value) (I : List It) : Prop where
  lt : ∀ k, F k → k < w.heap.size
  fa : F a
  f1 : ∀ k, v1.ownBlock = some k → F k
  blk : w.heap[a]? = some (.cells #[v1] 28 (0, 0))
  r1 : w.ownsRow 0 52 2 v1 I.length (itc I)
def IC (F : Nat → Prop) (w : World) (a : Nat) (I : List It) : Prop := ∃ v1, IM F w a v1 I
section
variable {F F' G : Nat → Prop} {w w' : World} {a : Nat} {v1 v' : Value} {I I' : List It}
theorem IM.same (h : IM F w a v1 I) (hF : ∀ k, F k → F' k) (hlt : ∀ k, F' k → k < w'.heap.size) (hw : ∀ k, F k → w'.heap[k]? = w.heap[k]?) : IM F' w' a v1 I :=
  ⟨hlt, hF _ h.fa, fun k hk => hF k (h.f1 k hk), (hw a h.fa).trans h.blk, own_same h.r1 (fun k hk => hw k (h.f1 k hk))⟩
theorem IC.same (h : IC F w a I) (hF : ∀ k, F k → F' k) (hlt : ∀ k, F' k → k < w'.heap.size) (hw : ∀ k, F k → w'.heap[k]? = w.heap[k]?) : IC F' w' a I := by
  obtain ⟨v1, h⟩ := h
  exact ⟨v1, h.same hF hlt hw⟩
theorem IC.lt (h : IC F w a I) : ∀ k, F k → k < w.heap.size := by obtain ⟨v1, h⟩ := h; exact h.lt
theorem IC.chg (h : IC F w a I) (hc : Chg G w w') (hG : ∀ k, F k → ¬ G k) : IC F w' a I :=
  h.same (fun _ h => h) (fun k hk => Nat.lt_of_lt_of_le (h.lt k hk) hc.size) (fun k hk => hc.block k (h.lt k hk) (hG k hk))
theorem IC.below (h : IC F w a I) (hb : Below w.heap.size w w') : IC F w' a I := h.chg (Chg.below (F := fun _ => False) hb) (fun _ _ h => h)
theorem IM.below (h : IM F w a v1 I) (hb : Below w.heap.size w w') : IM F w' a v1 I :=
  h.same (fun _ h => h) (fun k hk => Nat.lt_of_lt_of_le (h.lt k hk) hb.size) (fun k hk => hb.block k (h.lt k hk))
theorem IC.wide (h : IC F w' a I) (hs : w.heap.size ≤ w'.heap.size) (F0 : Nat → Prop) (hF : ∀ k, F k → F0 k ∨ w.heap.size ≤ k) (h0 : ∀ k, F0 k → k < w.heap.size) : IC (Nu F0 w w') w' a I :=
  h.same (fun k hk => by rcases hF k hk with h1 | h1; exact .inl h1; exact .inr ⟨h1, h.lt k hk⟩) (fun k hk => by rcases hk with h1 | h1; exact Nat.lt_of_lt_of_le (h0 k h1) hs; exact h1.2) (fun _ _ => rfl)
/-- A method returns v, and leaves the Lists in block a with items I; of what was there only blocks of F may change. -/
def DoesI (F : Nat → Prop) (w : World) (a : Nat) (v : Value) (I : List It) (e : Ending) (w' : World) : Prop := e = .returned v ∧ IC (Nu F w w') w' a I ∧ Chg F w w'
theorem doesI_of {v : Value} (h : IC F w' a I) (hc : Chg F w w') (h0 : ∀ k, F k → k < w.heap.size) : DoesI F w a v I (.returned v) w' :=
  ⟨rfl, h.wide hc.size F (fun _ h => .inl h) h0, hc⟩
theorem IM.cells (h : IM F w a v1 I) : w.cell? ⟨a, 0, none⟩ = some v1 ∧ ∀ o, w.frozen? ⟨a, o, none⟩ = false := by
  have hb := h.blk
  refine ⟨?_, fun o => frozen_of_row w a o _ _ hb⟩
  rw [cell_of_row w a _ _ _ _ hb]; rfl
theorem IM.cellsIn (h : IM F w a v1 I) (hba : w'.heap[a]? = w.heap[a]?) : w'.cell? ⟨a, 0, none⟩ = some v1 ∧ ∀ o, w'.frozen? ⟨a, o, none⟩ = false := by
  have ha := hba.trans h.blk
  refine ⟨?_, fun o => frozen_of_row w' a o _ _ ha⟩
  rw [cell_of_row w' a _ _ _ _ ha]; rfl
theorem IM.row (h : IM F w a v1 I) {k : Nat} (hk : k < I.length) : ∃ g cp, v1 = .slice (some ⟨g, 0, none⟩) I.length cp ∧ F g ∧ w.cell? ⟨g, k * 2, none⟩ = some (.int .i64 I[k].l) ∧ w.cell? ⟨g, k * 2 + 1, none⟩ = some (.int .i64 I[k].i) := by
  obtain ⟨g, cp, rfl, hb, hlt⟩ := World.ownsRow.form h.r1 (by omega)
  have e : ∀ j, j < 2 → w.cell? ⟨g, k * 2 + j, none⟩ = (ic I[k])[j]? := fun j hj => by
    rw [World.ownsRow.cellAt h.r1 (k * 2 + j) (by omega)]
    exact flat_at ic 2 (ic_len I) k j hk hj
  exact ⟨g, cp, rfl, h.f1 g rfl, e 0 (by omega), e 1 (by omega)⟩
theorem IM.big (h : IM F w a v1 I) : I.length ≤ 9223372036854775807 := by
  rcases h.r1.2 with ⟨_, h1⟩ | ⟨g, cp, cur, _, _, _, h2, h3, _⟩
  · omega
  · unfold maxLen at h3; omega
/-- A row is laid into the Lists. -/
theorem IM.put (h : IM F w a v1 I) (hc : Chg F w w') (hba : w'.heap[a]? = w.heap[a]?) {n : Nat} (hr : w'.ownsRow 0 52 2 v' n (itc I')) (hnl : n = I'.length) (hn : ∀ k, v'.ownBlock = some k → F k ∨ w.heap.size ≤ k) :
    IM (Nu F w (w'.setCell ⟨a, 0, none⟩ v')) (w'.setCell ⟨a, 0, none⟩ v') a v' I' ∧ Chg F w (w'.setCell ⟨a, 0, none⟩ v') := by
  subst hnl
  have hz : (w'.setCell ⟨a, 0, none⟩ v').heap.size = w'.heap.size := by simp [World.setCell]
  have hs := hc.size
  have ha : w'.heap[a]? = some (.cells #[v1] 28 (0, 0)) := hba.trans h.blk
  have hn' : v'.ownBlock ≠ some a := fun e => by
    obtain ⟨cur, h1⟩ := own_type hr e
    rw [h1] at ha
    injection ha with ha; injection ha with _ ha; cases ha
  refine ⟨⟨fun k hk => ?_, .inl h.fa, fun k hk => ?_, ?_, ownsRow_setCell_other hr hn' _⟩, hc.grown (grown_set w' a 0 v') (fun k e => by injection e with e; subst e; exact .inl h.fa)⟩
  · rcases hk with hk | hk
    · rw [hz]; have := h.lt k hk; omega
    · exact hk.2
  · rcases hn k hk with h1 | h1
    · exact .inl h1
    · exact .inr ⟨h1, by rw [hz]; exact (World.ownsRow.lt hr k hk).2⟩
  · have := heap_setCell_same w' a 0 _ _ v' ha
    rw [this]; rfl
/-- Where an item stands. -/
def atI (I : List It) (l i : Int) : Nat := I.findIdx (fun x => decide (x = ⟨l, i⟩))
theorem at_has (I : List It) (l i : Int) : atI I l i < I.length ↔ It.has I l i = true := by
  unfold atI
  rw [It.has_iff, List.findIdx_lt_length]
  constructor
  · rintro ⟨x, hx, e⟩
    have e := of_decide_eq_true e
    subst e; exact hx
  · intro h
    exact ⟨_, h, by simp⟩
theorem cut_at (I : List It) (l i : Int) : It.cut I l i = I.eraseIdx (atI I l i) := by
  unfold It.cut atI
  rw [List.erase_eq_eraseIdx_of_idxOf rfl]
  congr 1
end
end Go.Proofs.Ytfmbogpbhchelaa
