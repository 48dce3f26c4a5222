/- The program's Tree and the reference's beside one another (D9), and what each method does to the two. Conditions: the contracts of Prog9. -/
import Derived.Test.YtmbbmgkbhfnchaaUg
import Derived.Test.YtmbbmgkbhfnchaaUh
import Derived.Test.YtmbbmgkbhfnchaaUl
namespace Go.Proofs.Ytmbbmgkbhfnchaa
set_option maxRecDepth 100000
set_option linter.unusedVariables false
open Go.ChangeShapes Go.WideShapes Go.ChangeAt Go.RowKit
open Fl (S)
open Val (V cmpV cmpI isB)
/-- A Tree of the program and one of the reference that a law has made. -/
def D9 (PT : (Nat → Prop) → World → Nat → List En → Prop) (w wr : World) (a b : Nat) (I J : List En) : Prop := ∃ F G, PT F wr a I ∧ TC G wr b J ∧ (∀ k, F k → ¬ G k ∧ w.heap.size ≤ k) ∧ (∀ k, G k → w.heap.size ≤ k) ∧ Below w.heap.size w wr
section
variable {PT : (Nat → Prop) → World → Nat → List En → Prop} {w wr w' : World} {a b : Nat} {I J : List En}
theorem D9.all (h : D9 PT w wr a b I J) : Below w.heap.size w wr := by obtain ⟨F, G, _, _, _, _, h⟩ := h; exact h
theorem D9.below (hP : Prog9 PT) (h : D9 PT w wr a b I J) (hb : Below wr.heap.size wr w') : D9 PT w w' a b I J := by
  obtain ⟨F, G, h1, h2, h3, h4, h6⟩ := h
  exact ⟨F, G, hP.same h1 (fun _ h => h) (fun k hk => Nat.lt_of_lt_of_le (hP.lt h1 k hk) hb.size) (fun k hk => hb.block k (hP.lt h1 k hk)), h2.below hb, h3, h4, h6.trans (hb.mono h6.size)⟩
theorem D9.open (hP : Prog9 PT) (h : D9 PT w wr a b I J) : ∃ G, S9 PT G w wr a I ∧ ∀ w' I', S9 PT G w w' a I' → Keep9 G wr w' → D9 PT w w' a b I' J := by
  obtain ⟨F, G, h1, h2, h3, h4, h6⟩ := h
  exact ⟨G, ⟨F, h1, h3, h2.lt, h6⟩, fun w' I' ⟨F', g1, g2, g3, g4⟩ hk => ⟨F', G, g1, h2.same (fun _ h => h) g3 hk.2, g2, h4, g4⟩⟩
/-- The reference's has moved. -/
theorem D9.turn (hP : Prog9 PT) (h : D9 PT w wr a b I J) : ∃ G, TC G wr b J ∧ ∀ w' v e J', DoesT G wr b v J' e w' → e = .returned v ∧ D9 PT w w' a b I J' := by
  obtain ⟨F, G, h1, h2, h3, h4, h5⟩ := h
  refine ⟨G, h2, fun w' v e J' hd => ?_⟩
  obtain ⟨g1, g2, g3⟩ := hd
  have hs := g3.size
  have h5s := h5.size
  refine ⟨g1, F, _, hP.same h1 (fun _ h => h) (fun k hk => Nat.lt_of_lt_of_le (hP.lt h1 k hk) hs) (fun k hk => g3.block k (hP.lt h1 k hk) (h3 k hk).1), g2, fun k hk => ⟨fun hg => ?_, (h3 k hk).2⟩, fun k hk => ?_, Chg.of_below h5 g3 (fun k hk => h4 k hk)⟩
  · have := hP.lt h1 k hk
    rcases hg with hg | hg
    · exact (h3 k hk).1 hg
    · omega
  · rcases hk with hg | hg
    · exact h4 k hg
    · omega
theorem d9_add (hP : Prog9 PT) (h : D9 PT w wr a b I J) (x : En) (hx : EOk x) (hl : I.length ≤ 100000) : Calls Try.prog 11 #[.pointer (some ⟨a, 0, none⟩), ev x] wr fun e w' => e = .returned (.bool (!hasE I x)) ∧ D9 PT w w' a b (insE I x) J := by
  obtain ⟨G, h1, h2⟩ := D9.open hP h
  exact (s9_add hP h1 x hx hl).mono fun e w' he => ⟨he.1, h2 _ _ he.2.1 he.2.2⟩
theorem d9_del (hP : Prog9 PT) (h : D9 PT w wr a b I J) (x : En) (hx : EOk x) (hl : I.length ≤ 100000) : Calls Try.prog 13 #[.pointer (some ⟨a, 0, none⟩), ev x] wr fun e w' => e = .returned (.bool (hasE I x)) ∧ D9 PT w w' a b (delE I x) J := by
  obtain ⟨G, h1, h2⟩ := D9.open hP h
  exact (s9_del hP h1 x hx hl).mono fun e w' he => ⟨he.1, h2 _ _ he.2.1 he.2.2⟩
theorem d9_range (hP : Prog9 PT) (h : D9 PT w wr a b I J) (lo hi : V) (h1 : isB lo = true) (h2 : lo.f < 2 * S) (h3 : isB hi = true) (h4 : hi.f < 2 * S) (hl : I.length ≤ 100000) : Calls Try.prog 22 #[.pointer (some ⟨a, 0, none⟩), vv lo, vv hi] wr fun e w' => ∃ A c, e = .returned (.slice A (rngE I lo hi).length c) ∧ ERow w' A (rngE I lo hi) ∧ Below wr.heap.size wr w' := by
  obtain ⟨G, g1, _⟩ := D9.open hP h
  exact s9_range hP g1 lo hi h1 h2 h3 h4 hl
theorem d9_all (hP : Prog9 PT) (h : D9 PT w wr a b I J) (hl : I.length ≤ 100000) : Calls Try.prog 17 #[.pointer (some ⟨a, 0, none⟩)] wr fun e w' => ∃ A c, e = .returned (.slice A I.length c) ∧ ERow w' A I ∧ Below wr.heap.size wr w' := by
  obtain ⟨G, g1, _⟩ := D9.open hP h
  exact s9_all hP g1 hl
theorem d9_len (hP : Prog9 PT) (h : D9 PT w wr a b I J) (hl : I.length ≤ 100000) : Calls Try.prog 18 #[.pointer (some ⟨a, 0, none⟩)] wr fun e w' => e = .returned (.int .i64 (I.length : Nat)) ∧ Below wr.heap.size wr w' := by
  obtain ⟨G, g1, _⟩ := D9.open hP h
  exact s9_len hP g1 hl
theorem d9_depth (hP : Prog9 PT) (h : D9 PT w wr a b I J) (hl : I.length ≤ 100000) : Calls Try.prog 15 #[.pointer (some ⟨a, 0, none⟩)] wr fun e w' => ∃ d : Nat, e = .returned (.int .i64 (d : Nat)) ∧ d ≤ 2 * dig I.length ∧ (d = 0 ↔ I = []) ∧ Below wr.heap.size wr w' := by
  obtain ⟨F, G, h1, _⟩ := h
  exact hP.depth h1 hl
theorem d9r_add (hP : Prog9 PT) (h : D9 PT w wr a b I J) (x : En) (hx : EOk x) (hl : J.length ≤ 900000) : Calls Try.prog 12 #[.pointer (some ⟨b, 0, none⟩), ev x] wr fun e w' => e = .returned (.bool (!hasE J x)) ∧ D9 PT w w' a b I (insE J x) := by
  obtain ⟨G, h1, h2⟩ := D9.turn hP h
  exact (radd9_any h1 x hx hl).mono fun e w' he => h2 _ _ _ _ he
theorem d9r_del (hP : Prog9 PT) (h : D9 PT w wr a b I J) (x : En) (hx : EOk x) (hl : J.length ≤ 900000) : Calls Try.prog 14 #[.pointer (some ⟨b, 0, none⟩), ev x] wr fun e w' => e = .returned (.bool (hasE J x)) ∧ D9 PT w w' a b I (delE J x) := by
  obtain ⟨G, h1, h2⟩ := D9.turn hP h
  exact (rdel_any h1 x hx hl).mono fun e w' he => h2 _ _ _ _ he
theorem d9r_range (hP : Prog9 PT) (h : D9 PT w wr a b I J) (lo hi : V) (hlo : lo.f < 2 * S) (hhi : hi.f < 2 * S) (hl : J.length ≤ 900000) : Calls Try.prog 23 #[.pointer (some ⟨b, 0, none⟩), vv lo, vv hi] wr fun e w' => ∃ A c, e = .returned (.slice A (rngE J lo hi).length c) ∧ ERow w' A (rngE J lo hi) ∧ Below wr.heap.size wr w' := by
  obtain ⟨G, h1, h2⟩ := D9.turn hP h
  refine (rrange_any h1 lo hi hlo hhi hl).mono ?_
  rintro e w' ⟨v, rfl, hr, hb⟩
  obtain ⟨A, c, rfl, h⟩ := hr.row
  exact ⟨A, c, rfl, h, hb⟩
/-- The reference's entries, as its field L holds them. -/
theorem D9.items (h : D9 PT w wr a b I J) : ∃ A c, wr.cell? ⟨b, 0, none⟩ = some (.slice A J.length c) ∧ ERow wr A J := by
  obtain ⟨F, G, h1, ⟨v1, h2⟩, _⟩ := h
  obtain ⟨A, c, e⟩ := own_slice h2.r1
  subst e
  exact ⟨A, c, h2.cells.1, erow_own h2.r1⟩
/-- The program's Tree has been made; the reference's is made now. -/
theorem d9_start (hP : Prog9 PT) (h : S9 PT noG9 w wr a []) : D9 PT w (wr.alloc (.cells #[.slice none 0 0] 29)) a wr.heap.size [] [] := by
  have hb := (Below.refl wr.heap.size wr).alloc (Nat.le_refl _) (.cells #[.slice none 0 0] 29)
  have h' := S9.below hP h hb
  obtain ⟨F, h1, h2, h3, h4⟩ := h
  have hz : (wr.alloc (.cells #[.slice none 0 0] 29)).heap.size = wr.heap.size + 1 := by simp
  refine ⟨F, fun k => k = wr.heap.size, hP.same h1 (fun _ h => h) (fun k hk => Nat.lt_of_lt_of_le (hP.lt h1 k hk) hb.size) (fun k hk => hb.block k (hP.lt h1 k hk)), ⟨.slice none 0 0, ⟨fun k hk => by omega, rfl, fun k hk => by simp [Value.ownBlock] at hk, (MapKept.heap_alloc wr _).1, World.ownsRow_nil _ _ _ _, fun x hx => by cases hx⟩⟩, fun k hk => ⟨fun e => by have := hP.lt h1 k hk; omega, (h2 k hk).2⟩, fun k hk => by have := h4.size; omega, h4.trans (hb.mono h4.size)⟩
end
end Go.Proofs.Ytmbbmgkbhfnchaa
