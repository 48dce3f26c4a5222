/- The program's Lists in memory (LM, PL); what New, Has and Len return, and the methods of a nil Lists. Conditions: the Lists lie in memory. -/
import Derived.Test.YtfmbogpbhchelaaTc
namespace Go.Proofs.Ytfmbogpbhchelaa
set_option maxRecDepth 100000
set_option linter.unusedVariables false
open Go.ChangeShapes Go.WideShapes Go.ChangeAt Go.RowKit
/-- The Lists in block a, its maps at m1 and m2, its links as g says; all of it in blocks of F. -/
structure LM (F : Nat → Prop) (w : World) (a : Nat) (m1 m2 : Option Nat) (g : Gh) (KM : List It) (KE : List Int) (I : List It) : Prop where
  lt : ∀ k, F k → k < w.heap.size
  fa : F a
  f1 : ∀ b, m1 = some b → F b
  f2 : ∀ b, m2 = some b → F b
  fb : ∀ b, Bl g KE I b → F b
  both : m1.isSome = m2.isSome
  ne : ∀ b, m1 = some b → m2 ≠ some b
  blk : w.heap[a]? = some (.cells #[.map m1, .map m2] 44 (0, 0))
  p1 : MP kvI g.blk w m1 KM
  p2 : MP kvE g.en w m2 KE
  nd : ND (Bl g KE I) w g.nx g.pv g.idf
  inv : Inv g KM KE I
def PL (F : Nat → Prop) (w : World) (a : Nat) (I : List It) : Prop := ∃ m1 m2 g KM KE, LM F w a m1 m2 g KM KE I ∧ ∀ l, l ∈ KE → ∃ x, x ∈ I ∧ x.l = l
section
variable {F F' G : Nat → Prop} {w w' : World} {a : Nat} {m1 m2 : Option Nat} {g : Gh} {KM : List It} {KE : List Int} {I : List It}
theorem LM.same (h : LM F w a m1 m2 g KM KE I) (hF : ∀ k, F k → F' k) (hlt : ∀ k, F' k → k < w'.heap.size) (hw : ∀ k, F k → w'.heap[k]? = w.heap[k]?) : LM F' w' a m1 m2 g KM KE I :=
  ⟨hlt, hF _ h.fa, fun b hb => hF b (h.f1 b hb), fun b hb => hF b (h.f2 b hb), fun b hb => hF b (h.fb b hb), h.both, h.ne, (hw a h.fa).trans h.blk, h.p1.same (fun b hb => hw b (h.f1 b hb)), h.p2.same (fun b hb => hw b (h.f2 b hb)), h.nd.same (fun b hb => hw b (h.fb b hb)), h.inv⟩
theorem LM.below (h : LM F w a m1 m2 g KM KE I) (hb : Below w.heap.size w w') : LM F w' a m1 m2 g KM KE I :=
  h.same (fun _ h => h) (fun k hk => Nat.lt_of_lt_of_le (h.lt k hk) hb.size) (fun k hk => hb.block k (h.lt k hk))
theorem LM.cells (h : LM F w a m1 m2 g KM KE I) : w.cell? ⟨a, 0, none⟩ = some (.map m1) ∧ w.cell? ⟨a, 1, none⟩ = some (.map m2) ∧ ∀ o, w.frozen? ⟨a, o, none⟩ = false := by
  have hb := h.blk
  refine ⟨?_, ?_, fun o => frozen_of_row w a o _ _ hb⟩ <;> rw [cell_of_row w a _ _ _ _ hb] <;> rfl
theorem pl_same (h : PL F w a I) (hF : ∀ k, F k → F' k) (hlt : ∀ k, F' k → k < w'.heap.size) (hw : ∀ k, F k → w'.heap[k]? = w.heap[k]?) : PL F' w' a I := by
  obtain ⟨m1, m2, g, KM, KE, h, hf⟩ := h
  exact ⟨m1, m2, g, KM, KE, h.same hF hlt hw, hf⟩
theorem pl_lt (h : PL F w a I) : ∀ k, F k → k < w.heap.size := by obtain ⟨m1, m2, g, KM, KE, h, hf⟩ := h; exact h.lt
/-- Where an item's link lies, or a list's ends. -/
theorem LM.look1 (h : LM F w a m1 m2 g KM KE I) (l i : Int) : (Instr.lookup 41 (.map m1) (.agg #[.int .i64 l, .int .i64 i]) false).run Try.prog w = .ok (if (⟨l, i⟩ : It) ∈ I then pt (g.blk ⟨l, i⟩) else .pointer none) w := by
  have := h.p1.look finds_it undK ⟨l, i⟩
  by_cases e : (⟨l, i⟩ : It) ∈ I
  · rw [if_pos ((h.inv.km _).2 e)] at this
    rw [if_pos e]; exact this
  · rw [if_neg (fun e1 => e ((h.inv.km _).1 e1))] at this
    rw [if_neg e]; exact this
theorem LM.look2 (h : LM F w a m1 m2 g KM KE I) (l : Int) : (Instr.lookup 42 (.map m2) (.int .i64 l) false).run Try.prog w = .ok (if l ∈ KE then pt (g.en l) else .pointer none) w := h.p2.look finds_int undM l
theorem pnew_any (w : World) : Calls Try.prog 9 #[] w fun e w' => ∃ a F, e = .returned (.pointer (some ⟨a, 0, none⟩)) ∧ PL F w' a [] ∧ (∀ k, F k → w.heap.size ≤ k) ∧ Below w.heap.size w w' := by
  go_enter Try.func9, Try.ntmps9
  go_wp2
  go_ret
  have h0 : ∀ b, ¬ Bl ⟨id, id, fun _ => 0, fun _ => 0, fun _ => 0⟩ [] [] b := fun b hb => by rcases hb with ⟨x, h, _⟩ | ⟨x, h, _⟩ <;> cases h
  exact ⟨w.heap.size, fun k => k = w.heap.size, rfl, ⟨none, none, ⟨id, id, fun _ => 0, fun _ => 0, fun _ => 0⟩, [], [], ⟨(fun k hk => by simp [hk]), rfl, (fun b hb => by cases hb), (fun b hb => by cases hb), fun b hb => absurd hb (h0 b), rfl, (fun b hb => by cases hb), heap_alloc_new w _, rfl, rfl, fun b hb => absurd hb (h0 b), inv_nil _⟩, (fun l hl => by cases hl)⟩, (fun k hk => by omega), (Below.refl _ _).alloc (Nat.le_refl _) _⟩
theorem phas_lm (h : LM F w a m1 m2 g KM KE I) (l i : Int) : Calls Try.prog 20 #[pt a, .int .i64 l, .int .i64 i] w fun e w' => e = .returned (.bool (It.has I l i)) ∧ w = w' := by
  obtain ⟨k0, k1, kf⟩ := h.cells
  have hlk := h.look1 l i
  by_cases e : (⟨l, i⟩ : It) ∈ I
  · have HE : Hid (It.has I l i = true) := It.has_iff.2 e
    rw [if_pos e] at hlk
    clear h e
    go_enter Try.func20, Try.ntmps20
    go_wp2
    go_ret
    exact ⟨ret_b HE.out.symm, rfl⟩
  · have HE : Hid (It.has I l i = false) := by simp only [Hid]; rw [Bool.eq_false_iff]; exact fun h => e (It.has_iff.1 h)
    rw [if_neg e] at hlk
    clear h e
    go_enter Try.func20, Try.ntmps20
    go_wp2
    go_ret
    exact ⟨ret_b HE.out.symm, rfl⟩
theorem phas_any (h : PL F w a I) (l i : Int) : Calls Try.prog 20 #[pt a, .int .i64 l, .int .i64 i] w fun e w' => e = .returned (.bool (It.has I l i)) ∧ w = w' := by
  obtain ⟨m1, m2, g, KM, KE, h, hf⟩ := h
  exact phas_lm h l i
theorem plen_any (h : PL F w a I) : Calls Try.prog 19 #[pt a] w fun e w' => e = .returned (.int .i64 (I.length : Nat)) ∧ w = w' := by
  obtain ⟨m1, m2, g, KM, KE, h, hf⟩ := h
  obtain ⟨k0, k1, kf⟩ := h.cells
  have hln := h.p1.len undK
  rw [h.inv.len] at hln
  clear h hf
  go_enter Try.func19, Try.ntmps19
  go_wp2
  go_ret
  exact ⟨rfl, rfl⟩
theorem paddN (w : World) (l i : Int) : Calls Try.prog 10 #[.pointer none, .int .i64 l, .int .i64 i] w fun e w' => e = .returned (.bool false) ∧ w = w' := by
  go_enter Try.func10, Try.ntmps10
  go_wp2
  go_ret
  exact ⟨rfl, rfl⟩
theorem phasN (w : World) (l i : Int) : Calls Try.prog 20 #[.pointer none, .int .i64 l, .int .i64 i] w fun e w' => e = .returned (.bool false) ∧ w = w' := by
  go_enter Try.func20, Try.ntmps20
  go_wp2
  go_ret
  exact ⟨rfl, rfl⟩
theorem pcutN (w : World) (l i : Int) : Calls Try.prog 12 #[.pointer none, .int .i64 l, .int .i64 i] w fun e w' => e = .returned (.bool false) ∧ w = w' := by
  have HH := Lib.hid (phasN w l i)
  go_enter Try.func12, Try.ntmps12
  go_wp2_with (go_at_call 20; (with_reducible refine HH.out.mono ?_); rintro e w1 ⟨rfl, rfl⟩)
  go_ret
  exact ⟨rfl, rfl⟩
theorem plenN (w : World) : Calls Try.prog 19 #[.pointer none] w fun e w' => e = .returned (.int .i64 0) ∧ w = w' := by
  go_enter Try.func19, Try.ntmps19
  go_wp2
  go_ret
  exact ⟨rfl, rfl⟩
theorem pfollowN (w : World) (l : Int) (f : Value) : Calls Try.prog 26 #[.pointer none, .int .i64 l, f] w fun e w' => e = .returned (.slice none 0 0) ∧ w = w' := by
  go_enter Try.func26, Try.ntmps26
  go_wp2
  go_ret
  exact ⟨rfl, rfl⟩
end
end Go.Proofs.Ytfmbogpbhchelaa
