/- The reference's Tree (chapter 9) in memory (TM, TC); order and at of the reference. Conditions: the Tree lies in memory, its entries are valid, fewer than 900,000. -/
import Derived.Test.YtmbbmgkbhfnchaaUb
import Derived.Deep.CutBlock
namespace Go.Proofs.Ytmbbmgkbhfnchaa
set_option maxRecDepth 100000
set_option linter.unusedVariables false
open Go.ChangeShapes Go.WideShapes Go.ChangeAt Go.RowKit
open Fl (S)
open Val (V cmpV cmpI isB)
/-- The Tree in block a, its entries at v1; all of it in blocks of F. -/
structure TM (F : Nat → Prop) (w : World) (a : Nat) (v1 : Value) (I : List En) : Prop where
  lt : ∀ k, F k → k < w.heap.size
  fa : F a
  f1 : ∀ k, v1.ownBlock = some k → F k
  blk : w.heap[a]? = some (.cells #[v1] 29 (0, 0))
  r1 : w.ownsRow 0 34 6 v1 I.length (ecs I)
  ok : ∀ x, x ∈ I → EOk x
def TC (F : Nat → Prop) (w : World) (a : Nat) (I : List En) : Prop := ∃ v1, TM F w a v1 I
section
variable {F F' G : Nat → Prop} {w w' : World} {a : Nat} {v1 v' : Value} {I I' : List En}
theorem TM.same (h : TM F w a v1 I) (hF : ∀ k, F k → F' k) (hlt : ∀ k, F' k → k < w'.heap.size) (hw : ∀ k, F k → w'.heap[k]? = w.heap[k]?) : TM F' w' a v1 I :=
  ⟨hlt, hF _ h.fa, fun k hk => hF k (h.f1 k hk), (hw a h.fa).trans h.blk, own_same h.r1 (fun k hk => hw k (h.f1 k hk)), h.ok⟩
theorem TC.same (h : TC F w a I) (hF : ∀ k, F k → F' k) (hlt : ∀ k, F' k → k < w'.heap.size) (hw : ∀ k, F k → w'.heap[k]? = w.heap[k]?) : TC F' w' a I := by
  obtain ⟨v1, h⟩ := h
  exact ⟨v1, h.same hF hlt hw⟩
theorem TC.lt (h : TC F w a I) : ∀ k, F k → k < w.heap.size := by obtain ⟨v1, h⟩ := h; exact h.lt
theorem TC.chg (h : TC F w a I) (hc : Chg G w w') (hG : ∀ k, F k → ¬ G k) : TC F w' a I :=
  h.same (fun _ h => h) (fun k hk => Nat.lt_of_lt_of_le (h.lt k hk) hc.size) (fun k hk => hc.block k (h.lt k hk) (hG k hk))
theorem TC.below (h : TC F w a I) (hb : Below w.heap.size w w') : TC F w' a I := h.chg (Chg.below (F := fun _ => False) hb) (fun _ _ h => h)
theorem TM.below (h : TM F w a v1 I) (hb : Below w.heap.size w w') : TM F w' a v1 I :=
  h.same (fun _ h => h) (fun k hk => Nat.lt_of_lt_of_le (h.lt k hk) hb.size) (fun k hk => hb.block k (h.lt k hk))
theorem TC.wide (h : TC F w' a I) (hs : w.heap.size ≤ w'.heap.size) (F0 : Nat → Prop) (hF : ∀ k, F k → F0 k ∨ w.heap.size ≤ k) (h0 : ∀ k, F0 k → k < w.heap.size) : TC (Nu F0 w w') w' a I :=
  h.same (fun k hk => by rcases hF k hk with h1 | h1; exact .inl h1; exact .inr ⟨h1, h.lt k hk⟩) (fun k hk => by rcases hk with h1 | h1; exact Nat.lt_of_lt_of_le (h0 k h1) hs; exact h1.2) (fun _ _ => rfl)
/-- A method returns v, and leaves the Tree in block a with entries I; of what was there only blocks of F may change. -/
def DoesT (F : Nat → Prop) (w : World) (a : Nat) (v : Value) (I : List En) (e : Ending) (w' : World) : Prop := e = .returned v ∧ TC (Nu F w w') w' a I ∧ Chg F w w'
theorem doesT_of {v : Value} (h : TC F w' a I) (hc : Chg F w w') (h0 : ∀ k, F k → k < w.heap.size) : DoesT F w a v I (.returned v) w' :=
  ⟨rfl, h.wide hc.size F (fun _ h => .inl h) h0, hc⟩
theorem TM.cells (h : TM F w a v1 I) : w.cell? ⟨a, 0, none⟩ = some v1 ∧ ∀ o, w.frozen? ⟨a, o, none⟩ = false := by
  have hb := h.blk
  refine ⟨?_, fun o => frozen_of_row w a o _ _ hb⟩
  rw [cell_of_row w a _ _ _ _ hb]; rfl
theorem TM.cellsIn (h : TM F w a v1 I) (hba : w'.heap[a]? = w.heap[a]?) : w'.cell? ⟨a, 0, none⟩ = some v1 ∧ ∀ o, w'.frozen? ⟨a, o, none⟩ = false := by
  have ha := hba.trans h.blk
  refine ⟨?_, fun o => frozen_of_row w' a o _ _ ha⟩
  rw [cell_of_row w' a _ _ _ _ ha]; rfl
theorem TM.row (h : TM F w a v1 I) {k : Nat} (hk : k < I.length) : ∃ g cp, v1 = .slice (some ⟨g, 0, none⟩) I.length cp ∧ F g ∧ EAt w ⟨g, k * 6, none⟩ I[k] := by
  obtain ⟨g, cp, rfl, hb, hlt⟩ := World.ownsRow.form h.r1 (by omega)
  refine ⟨g, cp, rfl, h.f1 g rfl, eat_cells (fun j hj => ?_)⟩
  rw [World.ownsRow.cellAt h.r1 (k * 6 + j) (by omega)]
  exact flat_at ec 6 (ec_len I) k j hk hj
theorem TM.big (h : TM F w a v1 I) : I.length ≤ 9223372036854775807 := by
  rcases h.r1.2 with ⟨_, h1⟩ | ⟨g, cp, cur, _, _, _, h2, h3, _⟩
  · omega
  · unfold maxLen at h3; omega
/-- A row is laid into the Tree. -/
theorem TM.put (h : TM F w a v1 I) (hc : Chg F w w') (hba : w'.heap[a]? = w.heap[a]?) {n : Nat} (hr : w'.ownsRow 0 34 6 v' n (ecs I')) (hnl : n = I'.length) (hn : ∀ k, v'.ownBlock = some k → F k ∨ w.heap.size ≤ k) (ho : ∀ x, x ∈ I' → EOk x) :
    TM (Nu F w (w'.setCell ⟨a, 0, none⟩ v')) (w'.setCell ⟨a, 0, none⟩ v') a v' I' ∧ Chg F w (w'.setCell ⟨a, 0, none⟩ v') := by
  subst hnl
  have hz : (w'.setCell ⟨a, 0, none⟩ v').heap.size = w'.heap.size := by simp [World.setCell]
  have hs := hc.size
  have ha : w'.heap[a]? = some (.cells #[v1] 29 (0, 0)) := hba.trans h.blk
  have hn' : v'.ownBlock ≠ some a := fun e => by
    obtain ⟨cur, h1⟩ := own_type hr e
    rw [h1] at ha
    injection ha with ha; injection ha with _ ha; cases ha
  refine ⟨⟨fun k hk => ?_, .inl h.fa, fun k hk => ?_, ?_, ownsRow_setCell_other hr hn' _, ho⟩, hc.grown (grown_set w' a 0 v') (fun k e => by injection e with e; subst e; exact .inl h.fa)⟩
  · rcases hk with hk | hk
    · rw [hz]; have := h.lt k hk; omega
    · exact hk.2
  · rcases hn k hk with h1 | h1
    · exact .inl h1
    · exact .inr ⟨h1, by rw [hz]; exact (World.ownsRow.lt hr k hk).2⟩
  · have := heap_setCell_same w' a 0 _ _ v' ha
    rw [this]; rfl
end
theorem rorder_any (x y : En) (hx : x.v.f < 2 * S) (hy : y.v.f < 2 * S) (w : World) : Calls Try.prog 40 #[ev x, ev y] w fun e w' => e = .returned (.int .i64 (En.cmp x y)) ∧ Below w.heap.size w w' := by
  have HC := Lib.hid (fun W => rvcmp_any x.v y.v hx hy W)
  have hlo := Val.cmprV.lo x.v y.v
  have hhi := Val.cmprV.hi x.v y.v
  obtain ⟨⟨k, b, n, f, t⟩, i⟩ := x
  obtain ⟨⟨k2, b2, n2, f2, t2⟩, i2⟩ := y
  simp only at hx hy
  obtain ⟨c, hc⟩ : ∃ c, c = cmpV ⟨k, b, n, f, t⟩ ⟨k2, b2, n2, f2, t2⟩ := ⟨_, rfl⟩
  have HE : Hid (En.cmp ⟨⟨k, b, n, f, t⟩, i⟩ ⟨⟨k2, b2, n2, f2, t2⟩, i2⟩ = if c = 0 then cmpI i i2 else c) := by simp only [Hid]; rw [hc]; rfl
  rw [← hc] at hlo hhi HC
  rw [HE.out]
  clear HE hc hx hy
  by_cases h0 : c = 0
  · subst h0
    rw [if_pos rfl]
    rcases Int.lt_trichotomy i i2 with h | h | h
    · have HR : Hid (cmpI i i2 = -1) := Val.cmpI_lo h
      rw [HR.out]
      go_enter Try.func40, Try.ntmps40
      go_wp2_with (go_at_call 45; (with_reducible refine (HC.out _).mono ?_); rintro e w1 ⟨rfl, hb⟩; obtain ⟨hcl, hcf⟩ := bcell hb; have HB := Lib.hid hb; clear hb)
      go_ret
      exact ⟨rfl, (two_boxes w _ _).trans (HB.out.mono (by simp; omega))⟩
    · have HR : Hid (cmpI i i2 = 0) := Val.cmpI_eq h
      rw [HR.out]
      subst h
      go_enter Try.func40, Try.ntmps40
      go_wp2_with (go_at_call 45; (with_reducible refine (HC.out _).mono ?_); rintro e w1 ⟨rfl, hb⟩; obtain ⟨hcl, hcf⟩ := bcell hb; have HB := Lib.hid hb; clear hb)
      go_ret
      exact ⟨rfl, (two_boxes w _ _).trans (HB.out.mono (by simp; omega))⟩
    · have HR : Hid (cmpI i i2 = 1) := Val.cmpI_hi h
      rw [HR.out]
      have h2 : ¬ i < i2 := by omega
      go_enter Try.func40, Try.ntmps40
      go_wp2_with (go_at_call 45; (with_reducible refine (HC.out _).mono ?_); rintro e w1 ⟨rfl, hb⟩; obtain ⟨hcl, hcf⟩ := bcell hb; have HB := Lib.hid hb; clear hb)
      go_ret
      exact ⟨rfl, (two_boxes w _ _).trans (HB.out.mono (by simp; omega))⟩
  · rw [if_neg h0]
    have hq : (c == 0) = false := by simpa using h0
    go_enter Try.func40, Try.ntmps40
    go_wp2_with (go_at_call 45; (with_reducible refine (HC.out _).mono ?_); rintro e w1 ⟨rfl, hb⟩; obtain ⟨hcl, hcf⟩ := bcell hb; have HB := Lib.hid hb; clear hb)
    go_ret
    exact ⟨rfl, (two_boxes w _ _).trans (HB.out.mono (by simp; omega))⟩
end Go.Proofs.Ytmbbmgkbhfnchaa
