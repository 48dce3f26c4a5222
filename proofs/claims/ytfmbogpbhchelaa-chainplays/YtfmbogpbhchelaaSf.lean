/- What chapter 8's laws ask of the program's Lists, whatever it is made of (Prog8: a predicate PL and the methods' contracts); a Lists that a law has made (S8); known. Conditions: the contracts of Prog8. -/
import Derived.Test.YtfmbogpbhchelaaSe
namespace Go.Proofs.Ytfmbogpbhchelaa
set_option maxRecDepth 100000
set_option linter.unusedVariables false
open Go.ChangeShapes Go.WideShapes Go.ChangeAt Go.RowKit
/-- v is a row of ints that reads L, in a block that is B or newer, and may be written. -/
structure NR (B : Nat) (W : World) (A : Option Addr) (L : List Int) : Prop where
  r : Row (.int .i64) W A L
  n : ∀ ad, A = some ad → L = [] ∨ B ≤ ad.block
  z : ∀ ad, A = some ad → ∀ i, i < L.length → W.frozen? (ad.add i) = false
theorem RI.nr {B : Nat} {W : World} {v : Value} {L : List Int} (h : RI B W v L) : ∃ A c, v = .slice A L.length c ∧ NR B W A L := by
  rcases h.r.2 with ⟨rfl, h0⟩ | ⟨g, cap, cur, rfl, _, h1, _⟩
  · have e : L = [] := List.length_eq_zero_iff.1 h0
    subst e
    exact ⟨none, 0, rfl, fun i hi => absurd hi (by simp), fun ad e => by (cases e), fun ad e => by (cases e)⟩
  · refine ⟨_, _, rfl, row_own h.r, fun ad e => ?_, fun ad e i hi => ?_⟩
    · injection e with e; subst e; exact .inr (h.n g rfl)
    · injection e with e; subst e
      rw [Addr.add_lit]
      exact frozen_of_row W g _ _ _ h1
theorem NR.below {B : Nat} {W W' : World} {A : Option Addr} {L : List Int} (h : NR B W A L) (hb : Below W.heap.size W W') : NR B W' A L :=
  ⟨h.r.below hb, h.n, fun ad e i hi => by
    obtain ⟨ad', e', hc⟩ := h.r i hi
    rw [e] at e'; injection e' with e'; subst e'
    rw [hb.frozen (World.block_lt_of_cell? W _ hc)]
    exact h.z ad e i hi⟩
/-- What the laws ask. -/
structure Prog8 (PL : (Nat → Prop) → World → Nat → List It → Prop) : Prop where
  same : ∀ {F F' : Nat → Prop} {w w' : World} {a : Nat} {I : List It}, PL F w a I → (∀ k, F k → F' k) → (∀ k, F' k → k < w'.heap.size) → (∀ k, F k → w'.heap[k]? = w.heap[k]?) → PL F' w' a I
  lt : ∀ {F : Nat → Prop} {w : World} {a : Nat} {I : List It}, PL F w a I → ∀ k, F k → k < w.heap.size
  new : ∀ w, Calls Try.prog 9 #[] w fun e w' => ∃ a F, e = .returned (.pointer (some ⟨a, 0, none⟩)) ∧ PL F w' a [] ∧ (∀ k, F k → w.heap.size ≤ k) ∧ Below w.heap.size w w'
  add : ∀ {F : Nat → Prop} {w : World} {a : Nat} {I : List It}, PL F w a I → ∀ (l i : Int), I.length ≤ 100000 → Calls Try.prog 10 #[.pointer (some ⟨a, 0, none⟩), .int .i64 l, .int .i64 i] w fun e w' => e = .returned (.bool (!It.has I l i)) ∧ PL (Nu F w w') w' a (It.add I l i) ∧ Chg F w w'
  cut : ∀ {F : Nat → Prop} {w : World} {a : Nat} {I : List It}, PL F w a I → ∀ (l i : Int), I.length ≤ 100000 → Calls Try.prog 12 #[.pointer (some ⟨a, 0, none⟩), .int .i64 l, .int .i64 i] w fun e w' => e = .returned (.bool (It.has I l i)) ∧ PL (Nu F w w') w' a (It.cut I l i) ∧ Chg F w w'
  walk : ∀ {F : Nat → Prop} {w : World} {a : Nat} {I : List It}, PL F w a I → ∀ (l : Int), I.length ≤ 100000 → Calls Try.prog 16 #[.pointer (some ⟨a, 0, none⟩), .int .i64 l] w fun e w' => ∃ A c, e = .returned (.slice A (It.walk I l).length c) ∧ NR w.heap.size w' A (It.walk I l) ∧ Below w.heap.size w w'
  back : ∀ {F : Nat → Prop} {w : World} {a : Nat} {I : List It}, PL F w a I → ∀ (l : Int), I.length ≤ 100000 → Calls Try.prog 17 #[.pointer (some ⟨a, 0, none⟩), .int .i64 l] w fun e w' => ∃ A c, e = .returned (.slice A (It.walk I l).length c) ∧ NR w.heap.size w' A (It.walk I l).reverse ∧ Below w.heap.size w w'
  has : ∀ {F : Nat → Prop} {w : World} {a : Nat} {I : List It}, PL F w a I → ∀ (l i : Int), I.length ≤ 100000 → Calls Try.prog 20 #[.pointer (some ⟨a, 0, none⟩), .int .i64 l, .int .i64 i] w fun e w' => e = .returned (.bool (It.has I l i)) ∧ Below w.heap.size w w'
  len : ∀ {F : Nat → Prop} {w : World} {a : Nat} {I : List It}, PL F w a I → I.length ≤ 100000 → Calls Try.prog 19 #[.pointer (some ⟨a, 0, none⟩)] w fun e w' => e = .returned (.int .i64 (I.length : Nat)) ∧ Below w.heap.size w w'
  addN : ∀ (w : World) (l i : Int), Calls Try.prog 10 #[.pointer none, .int .i64 l, .int .i64 i] w fun e w' => e = .returned (.bool false) ∧ Below w.heap.size w w'
  cutN : ∀ (w : World) (l i : Int), Calls Try.prog 12 #[.pointer none, .int .i64 l, .int .i64 i] w fun e w' => e = .returned (.bool false) ∧ Below w.heap.size w w'
  hasN : ∀ (w : World) (l i : Int), Calls Try.prog 20 #[.pointer none, .int .i64 l, .int .i64 i] w fun e w' => e = .returned (.bool false) ∧ Below w.heap.size w w'
  walkN : ∀ (w : World) (l : Int), Calls Try.prog 16 #[.pointer none, .int .i64 l] w fun e w' => (∃ A c, e = .returned (.slice A 0 c)) ∧ Below w.heap.size w w'
  backN : ∀ (w : World) (l : Int), Calls Try.prog 17 #[.pointer none, .int .i64 l] w fun e w' => (∃ A c, e = .returned (.slice A 0 c)) ∧ Below w.heap.size w w'
  lenN : ∀ (w : World), Calls Try.prog 19 #[.pointer none] w fun e w' => e = .returned (.int .i64 0) ∧ Below w.heap.size w w'
/-- The blocks of G are as they were. -/
def Keep (G : Nat → Prop) (w w' : World) : Prop := w.heap.size ≤ w'.heap.size ∧ ∀ k, G k → w'.heap[k]? = w.heap[k]?
/-- A Lists that a law has made, apart from G. -/
def S8 (PL : (Nat → Prop) → World → Nat → List It → Prop) (G : Nat → Prop) (w wr : World) (a : Nat) (I : List It) : Prop := ∃ F, PL F wr a I ∧ (∀ k, F k → ¬ G k ∧ w.heap.size ≤ k) ∧ (∀ k, G k → k < wr.heap.size) ∧ Below w.heap.size w wr
def noG : Nat → Prop := fun _ => False
section
variable {PL : (Nat → Prop) → World → Nat → List It → Prop} {G : Nat → Prop} {w wr w' : World} {a : Nat} {I I' : List It}
theorem S8.all (h : S8 PL G w wr a I) : Below w.heap.size w wr := by obtain ⟨F, _, _, _, h⟩ := h; exact h
theorem S8.below (hP : Prog8 PL) (h : S8 PL G w wr a I) (hb : Below wr.heap.size wr w') : S8 PL G w w' a I := by
  obtain ⟨F, h1, h2, h3, h4⟩ := h
  exact ⟨F, hP.same h1 (fun _ h => h) (fun k hk => Nat.lt_of_lt_of_le (hP.lt h1 k hk) hb.size) (fun k hk => hb.block k (hP.lt h1 k hk)), h2, fun k hk => Nat.lt_of_lt_of_le (h3 k hk) hb.size, h4.trans (hb.mono h4.size)⟩
theorem S8.step {F : Nat → Prop} (h2 : ∀ k, F k → ¬ G k ∧ w.heap.size ≤ k) (h3 : ∀ k, G k → k < wr.heap.size) (h4 : Below w.heap.size w wr) (hp : PL (Nu F wr w') w' a I') (hc : Chg F wr w') : S8 PL G w w' a I' ∧ Keep G wr w' := by
  have hs := hc.size
  refine ⟨⟨_, hp, fun k hk => ?_, fun k hk => by have := h3 k hk; omega, Chg.of_below h4 hc (fun k hk => (h2 k hk).2)⟩, hs, fun k hk => hc.block k (h3 k hk) (fun hf => (h2 k hf).1 hk)⟩
  rcases hk with hk | hk
  · exact h2 k hk
  · exact ⟨fun hg => by have := h3 k hg; omega, by have := h4.size; omega⟩
theorem s8_new (hP : Prog8 PL) (hb : Below w.heap.size w wr) (hG : ∀ k, G k → k < wr.heap.size) : Calls Try.prog 9 #[] wr fun e w' => ∃ a, e = .returned (.pointer (some ⟨a, 0, none⟩)) ∧ S8 PL G w w' a [] ∧ Below wr.heap.size wr w' :=
  (hP.new wr).mono fun e w' ⟨a, F, h1, h2, h3, h4⟩ => ⟨a, h1, ⟨F, h2, fun k hk => ⟨fun hg => by have := hG k hg; have := h3 k hk; omega, by have := h3 k hk; have := hb.size; omega⟩, fun k hk => Nat.lt_of_lt_of_le (hG k hk) h4.size, hb.trans (h4.mono hb.size)⟩, h4⟩
theorem s8_add (hP : Prog8 PL) (h : S8 PL G w wr a I) (l i : Int) (hl : I.length ≤ 100000) : Calls Try.prog 10 #[.pointer (some ⟨a, 0, none⟩), .int .i64 l, .int .i64 i] wr fun e w' => e = .returned (.bool (!It.has I l i)) ∧ S8 PL G w w' a (It.add I l i) ∧ Keep G wr w' := by
  obtain ⟨F, h1, h2, h3, h4⟩ := h
  exact (hP.add h1 l i hl).mono fun e w' he => ⟨he.1, S8.step h2 h3 h4 he.2.1 he.2.2⟩
theorem s8_cut (hP : Prog8 PL) (h : S8 PL G w wr a I) (l i : Int) (hl : I.length ≤ 100000) : Calls Try.prog 12 #[.pointer (some ⟨a, 0, none⟩), .int .i64 l, .int .i64 i] wr fun e w' => e = .returned (.bool (It.has I l i)) ∧ S8 PL G w w' a (It.cut I l i) ∧ Keep G wr w' := by
  obtain ⟨F, h1, h2, h3, h4⟩ := h
  exact (hP.cut h1 l i hl).mono fun e w' he => ⟨he.1, S8.step h2 h3 h4 he.2.1 he.2.2⟩
theorem s8_walk (hP : Prog8 PL) (h : S8 PL G w wr a I) (l : Int) (hl : I.length ≤ 100000) : Calls Try.prog 16 #[.pointer (some ⟨a, 0, none⟩), .int .i64 l] wr fun e w' => ∃ A c, e = .returned (.slice A (It.walk I l).length c) ∧ NR wr.heap.size w' A (It.walk I l) ∧ Below wr.heap.size wr w' := by
  obtain ⟨F, h1, h2, h3, h4⟩ := h
  exact hP.walk h1 l hl
theorem s8_back (hP : Prog8 PL) (h : S8 PL G w wr a I) (l : Int) (hl : I.length ≤ 100000) : Calls Try.prog 17 #[.pointer (some ⟨a, 0, none⟩), .int .i64 l] wr fun e w' => ∃ A c, e = .returned (.slice A (It.walk I l).length c) ∧ NR wr.heap.size w' A (It.walk I l).reverse ∧ Below wr.heap.size wr w' := by
  obtain ⟨F, h1, h2, h3, h4⟩ := h
  exact hP.back h1 l hl
theorem s8_has (hP : Prog8 PL) (h : S8 PL G w wr a I) (l i : Int) (hl : I.length ≤ 100000) : Calls Try.prog 20 #[.pointer (some ⟨a, 0, none⟩), .int .i64 l, .int .i64 i] wr fun e w' => e = .returned (.bool (It.has I l i)) ∧ Below wr.heap.size wr w' := by
  obtain ⟨F, h1, h2, h3, h4⟩ := h
  exact hP.has h1 l i hl
theorem s8_len (hP : Prog8 PL) (h : S8 PL G w wr a I) (hl : I.length ≤ 100000) : Calls Try.prog 19 #[.pointer (some ⟨a, 0, none⟩)] wr fun e w' => e = .returned (.int .i64 (I.length : Nat)) ∧ Below wr.heap.size wr w' := by
  obtain ⟨F, h1, h2, h3, h4⟩ := h
  exact hP.len h1 hl
/-- Same as a step that changes nothing. -/
theorem same_below (A B : Option Addr) (L M : List Int) (ca cb : Nat) (w : World) (h1 : Row (.int .i64) w A L) (h2 : Row (.int .i64) w B M) (hl : L.length ≤ 900000) :
    Calls Try.prog 15 #[.slice A L.length ca, .slice B M.length cb] w fun e w' => e = .returned (.bool (decide (L = M))) ∧ Below w.heap.size w w' :=
  (same_any A B L M ca cb w h1 h2 hl).mono fun e w' ⟨h1, n, h2⟩ => ⟨h1, by subst h2; exact below_drewN (Below.refl _ _) n⟩
def k8 : List It := [⟨1, 7⟩, ⟨1, 5⟩]
set_option maxHeartbeats 1000000 in
theorem known8_any (hP : Prog8 PL) (w : World) : Calls Try.prog 21 #[] w fun e w' => e = .returned (.bool true) ∧ Below w.heap.size w w' := by
  have HN := Lib.hid (s8_new (G := noG) hP (Below.refl w.heap.size w) (fun k hk => hk.elim))
  go_enter Try.func21, Try.ntmps21
  go_wp2_with fail
  (with_reducible refine HN.out.mono ?_)
  rintro e w1 ⟨a, rfl, h1, _⟩
  have C1 := Lib.hid (show Calls Try.prog 10 #[.pointer (some ⟨a, 0, none⟩), .int .i64 1, .int .i64 5] w1 (fun e w' => e = .returned (.bool true) ∧ S8 PL noG w w' a [⟨1, 5⟩] ∧ Keep noG w1 w') from s8_add hP h1 1 5 (by decide))
  clear h1 HN
  go_wp2_with fail
  (with_reducible refine C1.out.mono ?_)
  rintro e w2 ⟨rfl, h2, _⟩
  have C2 := Lib.hid (show Calls Try.prog 10 #[.pointer (some ⟨a, 0, none⟩), .int .i64 1, .int .i64 7] w2 (fun e w' => e = .returned (.bool true) ∧ S8 PL noG w w' a k8 ∧ Keep noG w2 w') from s8_add hP h2 1 7 (by decide))
  clear h2 C1
  go_wp2_with fail
  (with_reducible refine C2.out.mono ?_)
  rintro e w3 ⟨rfl, h3, _⟩
  have C3 := Lib.hid (show Calls Try.prog 10 #[.pointer (some ⟨a, 0, none⟩), .int .i64 1, .int .i64 5] w3 (fun e w' => e = .returned (.bool false) ∧ S8 PL noG w w' a k8 ∧ Keep noG w3 w') from s8_add hP h3 1 5 (by decide))
  clear h3 C2
  go_wp2_with fail
  (with_reducible refine C3.out.mono ?_)
  rintro e w4 ⟨rfl, h4, _⟩
  have H4 := Lib.hid h4
  have C4 := Lib.hid (show Calls Try.prog 16 #[.pointer (some ⟨a, 0, none⟩), .int .i64 1] w4 (fun e w' => ∃ A c, e = .returned (.slice A 2 c) ∧ NR w4.heap.size w' A [7, 5] ∧ Below w4.heap.size w4 w') from s8_walk hP h4 1 (by decide))
  clear h4 C3
  go_wp2_with fail
  (with_reducible refine C4.out.mono ?_)
  rintro e w5 ⟨A, cA, rfl, hn5, hb5⟩
  have H5 := Lib.hid (S8.below hP H4.out hb5)
  have hb6 := (Below.refl w5.heap.size w5).alloc (Nat.le_refl _) (.cells #[.int .i64 7, .int .i64 5] 3)
  have C5 := Lib.hid (show Calls Try.prog 15 #[.slice A 2 cA, .slice (some ⟨w5.heap.size, 0, none⟩) 2 2] (w5.alloc (.cells #[.int .i64 7, .int .i64 5] 3)) (fun e w' => e = .returned (.bool true) ∧ Below _ _ w') from same_below A (some ⟨w5.heap.size, 0, none⟩) [7, 5] [7, 5] cA 2 _ (hn5.r.below hb6) (row_new (.int .i64) w5 3 [7, 5] _ rfl) (by decide))
  have H6 := Lib.hid (S8.below hP H5.out hb6)
  clear hn5 hb5 hb6 C4 H4
  go_wp2_with fail
  (with_reducible refine C5.out.mono ?_)
  rintro e w7 ⟨rfl, hb7⟩
  have H7 := Lib.hid (S8.below hP H6.out hb7)
  have C6 := Lib.hid (show Calls Try.prog 17 #[.pointer (some ⟨a, 0, none⟩), .int .i64 1] w7 (fun e w' => ∃ A c, e = .returned (.slice A 2 c) ∧ NR w7.heap.size w' A [5, 7] ∧ Below w7.heap.size w7 w') from s8_back hP H7.out 1 (by decide))
  clear hb7 C5 H5 H6
  go_wp2_with fail
  (with_reducible refine C6.out.mono ?_)
  rintro e w8 ⟨B, cB, rfl, hn8, hb8⟩
  have H8 := Lib.hid (S8.below hP H7.out hb8)
  have hb9 := (Below.refl w8.heap.size w8).alloc (Nat.le_refl _) (.cells #[.int .i64 5, .int .i64 7] 3)
  have C7 := Lib.hid (show Calls Try.prog 15 #[.slice B 2 cB, .slice (some ⟨w8.heap.size, 0, none⟩) 2 2] (w8.alloc (.cells #[.int .i64 5, .int .i64 7] 3)) (fun e w' => e = .returned (.bool true) ∧ Below _ _ w') from same_below B (some ⟨w8.heap.size, 0, none⟩) [5, 7] [5, 7] cB 2 _ (hn8.r.below hb9) (row_new (.int .i64) w8 3 [5, 7] _ rfl) (by decide))
  have H9 := Lib.hid (S8.below hP H8.out hb9)
  clear hn8 hb8 hb9 C6 H7
  go_wp2_with (go_at_call 15; (with_reducible refine C7.out.mono ?_); rintro e w10 ⟨rfl, hb10⟩; have H10 := Lib.hid (S8.below hP H9.out hb10); clear hb10)
  go_ret
  exact ⟨rfl, H10.out.all⟩
end
end Go.Proofs.Ytfmbogpbhchelaa
