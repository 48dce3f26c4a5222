/- The program's Lists and the reference's beside one another (D8), and what each method does to the two. Conditions: the contracts of Prog8. -/
import Derived.Test.YtfmbogpbhchelaaSk
import Derived.Test.YtfmbogpbhchelaaSo
namespace Go.Proofs.Ytfmbogpbhchelaa
set_option maxRecDepth 100000
set_option linter.unusedVariables false
open Go.ChangeShapes Go.WideShapes Go.ChangeAt Go.RowKit
/-- A Lists of the program and one of the reference that a law has made, apart from the blocks of K. -/
def D8 (PL : (Nat → Prop) → World → Nat → List It → Prop) (K : Nat → Prop) (w wr : World) (a b : Nat) (I J : List It) : Prop := ∃ F G, PL F wr a I ∧ IC G wr b J ∧ (∀ k, F k → ¬ G k ∧ ¬ K k ∧ w.heap.size ≤ k) ∧ (∀ k, G k → ¬ K k ∧ w.heap.size ≤ k) ∧ (∀ k, K k → k < wr.heap.size) ∧ Below w.heap.size w wr
section
variable {PL : (Nat → Prop) → World → Nat → List It → Prop} {K K' : Nat → Prop} {w wr w' : World} {a b : Nat} {I J : List It}
theorem D8.all (h : D8 PL K w wr a b I J) : Below w.heap.size w wr := by obtain ⟨F, G, _, _, _, _, _, h⟩ := h; exact h
theorem D8.below (hP : Prog8 PL) (h : D8 PL K w wr a b I J) (hb : Below wr.heap.size wr w') : D8 PL K w w' a b I J ∧ Keep K wr w' := by
  obtain ⟨F, G, h1, h2, h3, h4, h5, h6⟩ := h
  exact ⟨⟨F, G, hP.same h1 (fun _ h => h) (fun k hk => Nat.lt_of_lt_of_le (hP.lt h1 k hk) hb.size) (fun k hk => hb.block k (hP.lt h1 k hk)), h2.below hb, h3, h4, fun k hk => Nat.lt_of_lt_of_le (h5 k hk) hb.size, h6.trans (hb.mono h6.size)⟩, hb.size, fun k hk => hb.block k (h5 k hk)⟩
theorem D8.less (h : D8 PL K w wr a b I J) (hK : ∀ k, K' k → K k) : D8 PL K' w wr a b I J := by
  obtain ⟨F, G, h1, h2, h3, h4, h5, h6⟩ := h
  exact ⟨F, G, h1, h2, fun k hk => ⟨(h3 k hk).1, fun h => (h3 k hk).2.1 (hK k h), (h3 k hk).2.2⟩, fun k hk => ⟨fun h => (h4 k hk).1 (hK k h), (h4 k hk).2⟩, fun k hk => h5 k (hK k hk), h6⟩
theorem D8.box (hP : Prog8 PL) (h : D8 PL K w wr a b I J) (o : Obj) : D8 PL (fun k => K k ∨ k = wr.heap.size) w (wr.alloc o) a b I J := by
  have hb := (Below.refl wr.heap.size wr).alloc (Nat.le_refl _) o
  obtain ⟨F, G, h1, h2, h3, h4, h5, h6⟩ := h
  refine ⟨F, G, hP.same h1 (fun _ h => h) (fun k hk => Nat.lt_of_lt_of_le (hP.lt h1 k hk) hb.size) (fun k hk => hb.block k (hP.lt h1 k hk)), h2.below hb, fun k hk => ⟨(h3 k hk).1, fun hx => ?_, (h3 k hk).2.2⟩, fun k hk => ⟨fun hx => ?_, (h4 k hk).2⟩, fun k hk => ?_, h6.trans (hb.mono h6.size)⟩
  · rcases hx with hx | hx
    · exact (h3 k hk).2.1 hx
    · have := hP.lt h1 k hk; omega
  · rcases hx with hx | hx
    · exact (h4 k hk).1 hx
    · have := h2.lt k hk; omega
  · have : (wr.alloc o).heap.size = wr.heap.size + 1 := by simp
    rcases hk with hx | hx
    · have := h5 k hx; omega
    · omega
theorem D8.open (hP : Prog8 PL) (h : D8 PL K w wr a b I J) : ∃ G, S8 PL G w wr a I ∧ ∀ w' I', S8 PL G w w' a I' → Keep G wr w' → D8 PL K w w' a b I' J ∧ Keep K wr w' := by
  obtain ⟨F, G, h1, h2, h3, h4, h5, h6⟩ := h
  refine ⟨fun k => G k ∨ K k, ⟨F, h1, fun k hk => ⟨fun hx => ?_, (h3 k hk).2.2⟩, fun k hk => ?_, h6⟩, fun w' I' ⟨F', g1, g2, g3, g4⟩ hk => ⟨⟨F', G, g1, h2.same (fun _ h => h) (fun k hk => g3 k (.inl hk)) (fun k hx => hk.2 k (.inl hx)), fun k hk => ⟨fun hx => (g2 k hk).1 (.inl hx), fun hx => (g2 k hk).1 (.inr hx), (g2 k hk).2⟩, h4, fun k hk => g3 k (.inr hk), g4⟩, hk.1, fun k hx => hk.2 k (.inr hx)⟩⟩
  · rcases hx with hx | hx
    · exact (h3 k hk).1 hx
    · exact (h3 k hk).2.1 hx
  · rcases hk with hx | hx
    · exact h2.lt k hx
    · exact h5 k hx
/-- The reference's has moved. -/
theorem D8.turn (hP : Prog8 PL) (h : D8 PL K w wr a b I J) : ∃ G, IC G wr b J ∧ ∀ w' v e J', DoesI G wr b v J' e w' → e = .returned v ∧ D8 PL K w w' a b I J' ∧ Keep K wr w' := by
  obtain ⟨F, G, h1, h2, h3, h4, h6, h5⟩ := h
  refine ⟨G, h2, fun w' v e J' hd => ?_⟩
  obtain ⟨g1, g2, g3⟩ := hd
  have hs := g3.size
  have h5s := h5.size
  refine ⟨g1, ⟨F, _, hP.same h1 (fun _ h => h) (fun k hk => Nat.lt_of_lt_of_le (hP.lt h1 k hk) hs) (fun k hk => g3.block k (hP.lt h1 k hk) (h3 k hk).1), g2, fun k hk => ⟨fun hg => ?_, (h3 k hk).2⟩, fun k hk => ?_, fun k hk => Nat.lt_of_lt_of_le (h6 k hk) hs, Chg.of_below h5 g3 (fun k hk => (h4 k hk).2)⟩, hs, fun k hk => g3.block k (h6 k hk) (fun hg => (h4 k hg).1 hk)⟩
  · have := hP.lt h1 k hk
    rcases hg with hg | hg
    · exact (h3 k hk).1 hg
    · omega
  · rcases hk with hg | hg
    · exact h4 k hg
    · exact ⟨fun hx => by have := h6 k hx; omega, by omega⟩
theorem d8_add (hP : Prog8 PL) (h : D8 PL K w wr a b I J) (l i : Int) (hl : I.length ≤ 100000) : Calls Try.prog 10 #[.pointer (some ⟨a, 0, none⟩), .int .i64 l, .int .i64 i] wr fun e w' => e = .returned (.bool (!It.has I l i)) ∧ D8 PL K w w' a b (It.add I l i) J ∧ Keep K wr w' := by
  obtain ⟨G, h1, h2⟩ := D8.open hP h
  exact (s8_add hP h1 l i hl).mono fun e w' he => ⟨he.1, h2 _ _ he.2.1 he.2.2⟩
theorem d8_cut (hP : Prog8 PL) (h : D8 PL K w wr a b I J) (l i : Int) (hl : I.length ≤ 100000) : Calls Try.prog 12 #[.pointer (some ⟨a, 0, none⟩), .int .i64 l, .int .i64 i] wr fun e w' => e = .returned (.bool (It.has I l i)) ∧ D8 PL K w w' a b (It.cut I l i) J ∧ Keep K wr w' := by
  obtain ⟨G, h1, h2⟩ := D8.open hP h
  exact (s8_cut hP h1 l i hl).mono fun e w' he => ⟨he.1, h2 _ _ he.2.1 he.2.2⟩
theorem d8_walk (hP : Prog8 PL) (h : D8 PL K w wr a b I J) (l : Int) (hl : I.length ≤ 100000) : Calls Try.prog 16 #[.pointer (some ⟨a, 0, none⟩), .int .i64 l] wr fun e w' => ∃ A c, e = .returned (.slice A (It.walk I l).length c) ∧ NR wr.heap.size w' A (It.walk I l) ∧ Below wr.heap.size wr w' := by
  obtain ⟨G, h1, _⟩ := D8.open hP h
  exact s8_walk hP h1 l hl
theorem d8_back (hP : Prog8 PL) (h : D8 PL K w wr a b I J) (l : Int) (hl : I.length ≤ 100000) : Calls Try.prog 17 #[.pointer (some ⟨a, 0, none⟩), .int .i64 l] wr fun e w' => ∃ A c, e = .returned (.slice A (It.walk I l).length c) ∧ NR wr.heap.size w' A (It.walk I l).reverse ∧ Below wr.heap.size wr w' := by
  obtain ⟨G, h1, _⟩ := D8.open hP h
  exact s8_back hP h1 l hl
theorem d8_has (hP : Prog8 PL) (h : D8 PL K w wr a b I J) (l i : Int) (hl : I.length ≤ 100000) : Calls Try.prog 20 #[.pointer (some ⟨a, 0, none⟩), .int .i64 l, .int .i64 i] wr fun e w' => e = .returned (.bool (It.has I l i)) ∧ Below wr.heap.size wr w' := by
  obtain ⟨G, h1, _⟩ := D8.open hP h
  exact s8_has hP h1 l i hl
theorem d8_len (hP : Prog8 PL) (h : D8 PL K w wr a b I J) (hl : I.length ≤ 100000) : Calls Try.prog 19 #[.pointer (some ⟨a, 0, none⟩)] wr fun e w' => e = .returned (.int .i64 (I.length : Nat)) ∧ Below wr.heap.size wr w' := by
  obtain ⟨G, h1, _⟩ := D8.open hP h
  exact s8_len hP h1 hl
theorem d8r_add (hP : Prog8 PL) (h : D8 PL K w wr a b I J) (l i : Int) (hl : J.length ≤ 900000) : Calls Try.prog 11 #[.pointer (some ⟨b, 0, none⟩), .int .i64 l, .int .i64 i] wr fun e w' => e = .returned (.bool (!It.has J l i)) ∧ D8 PL K w w' a b I (It.add J l i) ∧ Keep K wr w' := by
  obtain ⟨G, h1, h2⟩ := D8.turn hP h
  exact (radd_any h1 l i hl).mono fun e w' he => h2 _ _ _ _ he
theorem d8r_cut (hP : Prog8 PL) (h : D8 PL K w wr a b I J) (l i : Int) (hl : J.length ≤ 900000) : Calls Try.prog 13 #[.pointer (some ⟨b, 0, none⟩), .int .i64 l, .int .i64 i] wr fun e w' => e = .returned (.bool (It.has J l i)) ∧ D8 PL K w w' a b I (It.cut J l i) ∧ Keep K wr w' := by
  obtain ⟨G, h1, h2⟩ := D8.turn hP h
  exact (rcut_any h1 l i hl).mono fun e w' he => h2 _ _ _ _ he
theorem d8r_walk (hP : Prog8 PL) (h : D8 PL K w wr a b I J) (l : Int) (hl : J.length ≤ 900000) : Calls Try.prog 14 #[.pointer (some ⟨b, 0, none⟩), .int .i64 l] wr fun e w' => ∃ v, e = .returned v ∧ RI wr.heap.size w' v (It.walk J l) ∧ Below wr.heap.size wr w' := by
  obtain ⟨G, h1, h2⟩ := D8.turn hP h
  exact rwalk_any h1 l hl
end
end Go.Proofs.Ytfmbogpbhchelaa
