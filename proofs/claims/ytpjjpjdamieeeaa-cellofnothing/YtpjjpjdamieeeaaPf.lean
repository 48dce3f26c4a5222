/- What Undo and Write of package cell make of a Cell. Conditions: the Cell and its Clock lie in memory; fewer than 900,000 versions; at most one of the writer that Undo names. -/
import Derived.Test.YtpjjpjdamieeeaaPe
namespace Go.Proofs.Ytpjjpjdamieeeaa
set_option maxRecDepth 100000
set_option linter.unusedVariables false
open Go.ChangeShapes Go.WideShapes Go.ChangeAt Go.RowKit
theorem infoP : (Try.prog.info? 85).map (fun i => (i.zero, i.size, i.bytes)) = some (some (.agg #[.int .i64 0, .int .i64 0, .bool false]), 3, 24) := by kernel_rfl
section
variable {F R : Nat → Prop} {w W w' : World} {a b : Nat} {c : Ck} {l : List (Ver Int)} {v1 v' : Value} {t : Int}
theorem cundo_nil (w : World) (t : Int) : Calls Try.prog 26 #[.pointer none, .int .i64 t] w fun e w' => e = .returned (.tuple #[]) ∧ Below w.heap.size w w' := by
  have HB := Lib.hid ((Below.refl w.heap.size w).alloc (Nat.le_refl _) (.cells #[.int .i64 t] 3))
  go_enter Try.func26, Try.ntmps26
  go_wp2
  refine bodyPost_ret (results_none rfl _ _ _) rfl ?_
  exact ⟨rfl, HB.out⟩
/-- A row that lies where the Cell's row lay, or is new, is laid into the Cell. -/
theorem CM.lay (h : CM F w a v1 l) (hb : Below w.heap.size w W) {l' : List (Ver Int)} {n : Nat} (hr : ORow w' 85 3 v' n (pvs l')) (hnl : n = l'.length) (hg : W.grownBy w' v1.ownBlock) (ho : v'.ownBlock = v1.ownBlock ∨ v'.ownBlock = some W.heap.size) :
    (CM (Nu F w (w'.setCell ⟨a, 0, none⟩ v')) (w'.setCell ⟨a, 0, none⟩ v') a v' l' ∧ Chg F w (w'.setCell ⟨a, 0, none⟩ v')) ∧ (w'.cell? ⟨a, 0, none⟩ = some v1 ∧ ∀ o, w'.frozen? ⟨a, o, none⟩ = false) := by
  have hlt := h.lt a h.fa
  have hs := hb.size
  have hne : v1.ownBlock ≠ some a := fun e => by
    obtain ⟨cur, q⟩ := h.r1.type e
    have := h.blk
    rw [q] at this
    injection this with this; injection this with _ this; cases this
  have hba : w'.heap[a]? = w.heap[a]? := (hg.block a (by omega) (fun e => hne e.symm)).trans (hb.block a hlt)
  have hc : Chg F w w' := (Chg.below hb).grown hg (fun k hk => .inl (h.f1 k hk))
  refine ⟨h.put hc hba hr hnl (fun k hk => ?_), h.cellsIn hba⟩
  rcases ho with e | e
  · exact .inl (h.f1 k (by rw [← e]; exact hk))
  · rw [e] at hk; injection hk with hk; exact .inr (by omega)
theorem cundo_none (h : CC F w a l) (hn : ∀ y ∈ l, y.w ≠ t) :
    Calls Try.prog 26 #[.pointer (some ⟨a, 0, none⟩), .int .i64 t] w (DoesC F w a (.tuple #[]) l) := by
  have H := Lib.hid h
  obtain ⟨v1, hm⟩ := h
  have hb := (Below.refl w.heap.size w).alloc (Nat.le_refl _) (.cells #[.int .i64 t] 3)
  have HM := Lib.hid hm
  have hm1 := hm.below hb
  obtain ⟨k0, kf⟩ := hm1.cells
  have HD := Lib.hid (cdel_none (t := t) (bx := w.heap.size) hm1.r1 (cell_of_row _ _ 0 _ _ _ (heap_alloc_new w (.cells #[.int .i64 t] 3))) hn)
  obtain ⟨A, cp, rfl⟩ := hm.r1.slice
  have HB := Lib.hid hb
  clear hm hm1 hb hn
  go_enter Try.func26, Try.ntmps26
  go_wp2_with (go_at_call 54; (with_reducible refine HD.out.mono ?_); rintro e w2 ⟨rfl, hb2⟩; have HB2 := Lib.hid (HB.out.trans (hb2.mono HB.out.size)); obtain ⟨j0, jf⟩ := (HM.out.below HB2.out).cells; clear hb2)
  go_end0
  have hl := HM.out.lay HB2.out (HM.out.below HB2.out).r1 rfl (World.grownBy.refl _ _) (.inl rfl)
  exact ⟨rfl, ⟨_, hl.1.1⟩, hl.1.2⟩
theorem cundo_one {L1 L2 : List (Ver Int)} {x : Ver Int} (h : CC F w a (L1 ++ x :: L2)) (h1 : ∀ y ∈ L1, y.w ≠ t) (hx : x.w = t) (h2 : ∀ y ∈ L2, y.w ≠ t) (hl : (L1 ++ x :: L2).length ≤ 1000000) :
    Calls Try.prog 26 #[.pointer (some ⟨a, 0, none⟩), .int .i64 t] w (DoesC F w a (.tuple #[]) (L1 ++ L2)) := by
  have H := Lib.hid h
  obtain ⟨v1, hm⟩ := h
  have hb := (Below.refl w.heap.size w).alloc (Nat.le_refl _) (.cells #[.int .i64 t] 3)
  have HM := Lib.hid hm
  have hm1 := hm.below hb
  obtain ⟨k0, kf⟩ := hm1.cells
  obtain ⟨g, o, cp, rfl, _⟩ := hm.r1.form (by simp; omega)
  have HD := Lib.hid (cdel_one (t := t) (bx := w.heap.size) (w := w.alloc (.cells #[.int .i64 t] 3)) (by have := hm.lt g (hm.f1 g rfl); omega) h1 hx h2 hm1.r1 (cell_of_row _ _ 0 _ _ _ (heap_alloc_new w (.cells #[.int .i64 t] 3))) hl)
  have HB := Lib.hid hb
  obtain ⟨n, hn⟩ : ∃ n, n = (L1 ++ x :: L2).length := ⟨_, rfl⟩
  obtain ⟨n2, hn2⟩ : ∃ n, n = (L1 ++ L2).length := ⟨_, rfl⟩
  rw [← hn] at k0 HD
  rw [← hn2] at HD
  have HN2 := Lib.hid hn2
  have HM2 : Hid (CM F w a (.slice (some ⟨g, o, none⟩) n cp) (L1 ++ x :: L2)) := by rw [hn]; exact HM.out
  clear hm hm1 hb h1 hx h2 hl HM hn hn2
  go_enter Try.func26, Try.ntmps26
  go_wp2_with (go_at_call 54; (with_reducible refine HD.out.mono ?_); rintro e w2 ⟨rfl, hr2, hg2⟩; have HP := Lib.hid (HM2.out.lay HB.out hr2 HN2.out hg2 (.inl rfl)); obtain ⟨j0, jf⟩ := HP.out.2; clear hr2 hg2)
  go_end0
  exact ⟨rfl, ⟨_, HP.out.1.1⟩, HP.out.1.2⟩
theorem cundo_any (h : CC F w a l) (hu : ∀ y ∈ l.drop (Ver.at? t l + 1), y.w ≠ t) (hl : l.length ≤ 900000) :
    Calls Try.prog 26 #[.pointer (some ⟨a, 0, none⟩), .int .i64 t] w (DoesC F w a (.tuple #[]) (Ver.undo t l)) := by
  by_cases hn : ∀ y ∈ l, y.w ≠ t
  · rw [Ver.undo_none hn]
    exact cundo_none h hn
  · obtain ⟨y, hy, hyt⟩ : ∃ y ∈ l, y.w = t := by
      by_cases hq : ∃ y ∈ l, y.w = t
      · exact hq
      · exact absurd (fun y hy e => hq ⟨y, hy, e⟩) hn
    have hi : Ver.at? t l < l.length := List.findIdx_lt_length_of_exists ⟨y, hy, by simpa using hyt⟩
    have e : l = l.take (Ver.at? t l) ++ l[Ver.at? t l] :: l.drop (Ver.at? t l + 1) := by rw [List.getElem_cons_drop, List.take_append_drop]
    have h1 : ∀ y ∈ l.take (Ver.at? t l), y.w ≠ t := fun y hy => by
      obtain ⟨j, hj, rfl⟩ := List.getElem_of_mem hy
      rw [List.getElem_take]
      rw [List.length_take] at hj
      have hj2 : j < l.findIdx (fun x => decide (x.w = t)) := by unfold Ver.at? at hj; omega
      exact of_decide_eq_false (List.not_of_lt_findIdx hj2)
    have hx : l[Ver.at? t l].w = t := by
      have := List.findIdx_getElem (w := hi)
      exact of_decide_eq_true this
    have eu : Ver.undo t l = l.take (Ver.at? t l) ++ l.drop (Ver.at? t l + 1) := by unfold Ver.undo; rw [List.eraseIdx_eq_take_drop_succ]
    rw [eu]
    refine cundo_one (x := l[Ver.at? t l]) (by rw [← e]; exact h) h1 hx hu (by rw [← e]; omega)
end
end Go.Proofs.Ytpjjpjdamieeeaa
