/- digits and num of chapter 9's laws; what these laws ask of the program's Tree, whatever it is made of (Prog9). No condition but those that each fact names. -/
import Derived.Test.YtmbbmgkbhfnchaaUf
namespace Go.Proofs.Ytmbbmgkbhfnchaa
set_option maxRecDepth 100000
set_option linter.unusedVariables false
open Go.ChangeShapes Go.WideShapes Go.ChangeAt Go.RowKit
open Fl (S)
open Val (V cmpV cmpI isB)
/-- How many binary digits a number has. -/
def dig (n : Nat) : Nat := if h : n = 0 then 0 else dig (n / 2) + 1
termination_by n
decreasing_by omega
theorem dig_zero : dig 0 = 0 := by unfold dig; rfl
theorem dig_pos {n : Nat} (h : 0 < n) : dig n = dig (n / 2) + 1 := by
  conv => lhs; unfold dig
  rw [dif_neg (by omega)]
theorem dig_le (n : Nat) : dig n ≤ n := by
  induction n using Nat.strongRecOn with
  | _ n ih =>
    rcases Nat.eq_zero_or_pos n with h | h
    · subst h; rw [dig_zero]; exact Nat.le_refl _
    · rw [dig_pos h]
      have := ih (n / 2) (by omega)
      omega
theorem num_any (n : Int) (w : World) : Calls Try.prog 27 #[.int .i64 n] w fun e w' => e = .returned (vv ⟨2, false, n, 0, ⟨#[]⟩⟩) ∧ Below w.heap.size w w' := by
  go_enter Try.func27, Try.ntmps27
  go_wp2
  refine bodyPost_ret (v := vv ⟨2, false, n, 0, ⟨#[]⟩⟩) (by simp [results, Try.results27, go_sem]) rfl ⟨rfl, (Below.refl _ _).alloc (Nat.le_refl _) _⟩
theorem digits_any (n : Nat) (hn : n ≤ 1000000) (w : World) : Calls Try.prog 19 #[.int .i64 (n : Nat)] w fun e w' => e = .returned (.int .i64 (dig n : Nat)) ∧ w = w' := by
  have HD : Hid (dig n ≤ 1000000) := Nat.le_trans (dig_le n) hn
  go_enter Try.func19, Try.ntmps19
  go_wp2
  go_loop [0, 3] (fun a b => ∃ m j : Nat, m ≤ 1000000 ∧ a = .int .i64 (m : Nat) ∧ b = .int .i64 (j : Nat) ∧ Hid (dig n = dig m + j)) (fun a _ => (intOf a).toNat)
  case atStart => exact ⟨n, 0, hn, rfl, rfl, rfl⟩
  case round =>
    obtain ⟨m, j, hm, rfl, rfl, HJ⟩ := hrel
    have hj : j ≤ 1000000 := by have h1 := HJ.out; have h2 := HD.out; omega
    rcases Nat.eq_zero_or_pos m with h | h
    · subst h
      have HE : Hid (dig n = j) := by simp only [Hid]; rw [HJ.out, dig_zero]; omega
      go_wp2
      go_ret
      exact ⟨ret_i (by rw [HE.out]), rfl⟩
    · have HJ2 : Hid (dig n = dig (m / 2) + (j + 1)) := by simp only [Hid]; rw [HJ.out, dig_pos h]; omega
      go_wp2
      exact ⟨⟨m / 2, j + 1, by omega, by rw [show ((m / 2 : Nat) : Int) = (m : Int) / 2 by omega], by go_num, HJ2.out⟩, by simp [intOf]; omega⟩
/-- What the laws ask. -/
structure Prog9 (PT : (Nat → Prop) → World → Nat → List En → Prop) : Prop where
  same : ∀ {F F' : Nat → Prop} {w w' : World} {a : Nat} {L : List En}, PT F w a L → (∀ k, F k → F' k) → (∀ k, F' k → k < w'.heap.size) → (∀ k, F k → w'.heap[k]? = w.heap[k]?) → PT F' w' a L
  lt : ∀ {F : Nat → Prop} {w : World} {a : Nat} {L : List En}, PT F w a L → ∀ k, F k → k < w.heap.size
  srt : ∀ {F : Nat → Prop} {w : World} {a : Nat} {L : List En}, PT F w a L → Srt L
  new : ∀ w, Calls Try.prog 10 #[] w fun e w' => ∃ a F, e = .returned (.pointer (some ⟨a, 0, none⟩)) ∧ PT F w' a [] ∧ (∀ k, F k → w.heap.size ≤ k) ∧ Below w.heap.size w w'
  add : ∀ {F : Nat → Prop} {w : World} {a : Nat} {L : List En}, PT F w a L → ∀ (x : En), EOk x → L.length ≤ 100000 → Calls Try.prog 11 #[.pointer (some ⟨a, 0, none⟩), ev x] w fun e w' => e = .returned (.bool (!hasE L x)) ∧ PT (Nu F w w') w' a (insE L x) ∧ Chg F w w'
  del : ∀ {F : Nat → Prop} {w : World} {a : Nat} {L : List En}, PT F w a L → ∀ (x : En), EOk x → L.length ≤ 100000 → Calls Try.prog 13 #[.pointer (some ⟨a, 0, none⟩), ev x] w fun e w' => e = .returned (.bool (hasE L x)) ∧ PT (Nu F w w') w' a (delE L x) ∧ Chg F w w'
  range : ∀ {F : Nat → Prop} {w : World} {a : Nat} {L : List En}, PT F w a L → ∀ (lo hi : V), isB lo = true → lo.f < 2 * S → isB hi = true → hi.f < 2 * S → L.length ≤ 100000 → Calls Try.prog 22 #[.pointer (some ⟨a, 0, none⟩), vv lo, vv hi] w fun e w' => ∃ A c, e = .returned (.slice A (rngE L lo hi).length c) ∧ ERow w' A (rngE L lo hi) ∧ Below w.heap.size w w'
  allF : ∀ {F : Nat → Prop} {w : World} {a : Nat} {L : List En}, PT F w a L → L.length ≤ 100000 → Calls Try.prog 17 #[.pointer (some ⟨a, 0, none⟩)] w fun e w' => ∃ A c, e = .returned (.slice A L.length c) ∧ ERow w' A L ∧ (∀ ad, A = some ad → L = [] ∨ w.heap.size ≤ ad.block) ∧ Below w.heap.size w w'
  len : ∀ {F : Nat → Prop} {w : World} {a : Nat} {L : List En}, PT F w a L → L.length ≤ 100000 → Calls Try.prog 18 #[.pointer (some ⟨a, 0, none⟩)] w fun e w' => e = .returned (.int .i64 (L.length : Nat)) ∧ Below w.heap.size w w'
  depth : ∀ {F : Nat → Prop} {w : World} {a : Nat} {L : List En}, PT F w a L → L.length ≤ 100000 → Calls Try.prog 15 #[.pointer (some ⟨a, 0, none⟩)] w fun e w' => ∃ d : Nat, e = .returned (.int .i64 (d : Nat)) ∧ d ≤ 2 * dig L.length ∧ (d = 0 ↔ L = []) ∧ Below w.heap.size w w'
  addN : ∀ (w : World) (x : En), Calls Try.prog 11 #[.pointer none, ev x] w fun e w' => e = .returned (.bool false) ∧ Below w.heap.size w w'
  delN : ∀ (w : World) (x : En), Calls Try.prog 13 #[.pointer none, ev x] w fun e w' => e = .returned (.bool false) ∧ Below w.heap.size w w'
  rangeN : ∀ (w : World) (lo hi : V), Calls Try.prog 22 #[.pointer none, vv lo, vv hi] w fun e w' => (∃ A c, e = .returned (.slice A 0 c)) ∧ Below w.heap.size w w'
  allN : ∀ (w : World), Calls Try.prog 17 #[.pointer none] w fun e w' => (∃ A c, e = .returned (.slice A 0 c)) ∧ Below w.heap.size w w'
  lenN : ∀ (w : World), Calls Try.prog 18 #[.pointer none] w fun e w' => e = .returned (.int .i64 0) ∧ Below w.heap.size w w'
  depthN : ∀ (w : World), Calls Try.prog 15 #[.pointer none] w fun e w' => e = .returned (.int .i64 0) ∧ Below w.heap.size w w'
theorem Prog9.all {PT : (Nat → Prop) → World → Nat → List En → Prop} (hP : Prog9 PT) {F : Nat → Prop} {w : World} {a : Nat} {L : List En} (h : PT F w a L) (hl : L.length ≤ 100000) : Calls Try.prog 17 #[.pointer (some ⟨a, 0, none⟩)] w fun e w' => ∃ A c, e = .returned (.slice A L.length c) ∧ ERow w' A L ∧ Below w.heap.size w w' :=
  (hP.allF h hl).mono fun e w' ⟨A, c, h1, h2, _, h3⟩ => ⟨A, c, h1, h2, h3⟩
/-- The blocks of G are as they were. -/
def Keep9 (G : Nat → Prop) (w w' : World) : Prop := w.heap.size ≤ w'.heap.size ∧ ∀ k, G k → w'.heap[k]? = w.heap[k]?
/-- A Tree that a law has made, apart from G. -/
def S9 (PT : (Nat → Prop) → World → Nat → List En → Prop) (G : Nat → Prop) (w wr : World) (a : Nat) (L : List En) : Prop := ∃ F, PT F wr a L ∧ (∀ k, F k → ¬ G k ∧ w.heap.size ≤ k) ∧ (∀ k, G k → k < wr.heap.size) ∧ Below w.heap.size w wr
def noG9 : Nat → Prop := fun _ => False
section
variable {PT : (Nat → Prop) → World → Nat → List En → Prop} {G : Nat → Prop} {w wr w' : World} {a : Nat} {L L' : List En}
theorem S9.all (h : S9 PT G w wr a L) : Below w.heap.size w wr := by obtain ⟨F, _, _, _, h⟩ := h; exact h
theorem S9.srt (hP : Prog9 PT) (h : S9 PT G w wr a L) : Srt L := by obtain ⟨F, h, _⟩ := h; exact hP.srt h
theorem S9.below (hP : Prog9 PT) (h : S9 PT G w wr a L) (hb : Below wr.heap.size wr w') : S9 PT G w w' a L := by
  obtain ⟨F, h1, h2, h3, h4⟩ := h
  exact ⟨F, hP.same h1 (fun _ h => h) (fun k hk => Nat.lt_of_lt_of_le (hP.lt h1 k hk) hb.size) (fun k hk => hb.block k (hP.lt h1 k hk)), h2, fun k hk => Nat.lt_of_lt_of_le (h3 k hk) hb.size, h4.trans (hb.mono h4.size)⟩
theorem S9.step {F : Nat → Prop} (h2 : ∀ k, F k → ¬ G k ∧ w.heap.size ≤ k) (h3 : ∀ k, G k → k < wr.heap.size) (h4 : Below w.heap.size w wr) (hp : PT (Nu F wr w') w' a L') (hc : Chg F wr w') : S9 PT G w w' a L' ∧ Keep9 G wr w' := by
  have hs := hc.size
  refine ⟨⟨_, hp, fun k hk => ?_, fun k hk => by have := h3 k hk; omega, Chg.of_below h4 hc (fun k hk => (h2 k hk).2)⟩, hs, fun k hk => hc.block k (h3 k hk) (fun hf => (h2 k hf).1 hk)⟩
  rcases hk with hk | hk
  · exact h2 k hk
  · exact ⟨fun hg => by have := h3 k hg; omega, by have := h4.size; omega⟩
theorem s9_new (hP : Prog9 PT) (hb : Below w.heap.size w wr) (hG : ∀ k, G k → k < wr.heap.size) : Calls Try.prog 10 #[] wr fun e w' => ∃ a, e = .returned (.pointer (some ⟨a, 0, none⟩)) ∧ S9 PT G w w' a [] ∧ Below wr.heap.size wr w' :=
  (hP.new wr).mono fun e w' ⟨a, F, h1, h2, h3, h4⟩ => ⟨a, h1, ⟨F, h2, fun k hk => ⟨fun hg => by have := hG k hg; have := h3 k hk; omega, by have := h3 k hk; have := hb.size; omega⟩, fun k hk => Nat.lt_of_lt_of_le (hG k hk) h4.size, hb.trans (h4.mono hb.size)⟩, h4⟩
theorem s9_add (hP : Prog9 PT) (h : S9 PT G w wr a L) (x : En) (hx : EOk x) (hl : L.length ≤ 100000) : Calls Try.prog 11 #[.pointer (some ⟨a, 0, none⟩), ev x] wr fun e w' => e = .returned (.bool (!hasE L x)) ∧ S9 PT G w w' a (insE L x) ∧ Keep9 G wr w' := by
  obtain ⟨F, h1, h2, h3, h4⟩ := h
  exact (hP.add h1 x hx hl).mono fun e w' he => ⟨he.1, S9.step h2 h3 h4 he.2.1 he.2.2⟩
theorem s9_del (hP : Prog9 PT) (h : S9 PT G w wr a L) (x : En) (hx : EOk x) (hl : L.length ≤ 100000) : Calls Try.prog 13 #[.pointer (some ⟨a, 0, none⟩), ev x] wr fun e w' => e = .returned (.bool (hasE L x)) ∧ S9 PT G w w' a (delE L x) ∧ Keep9 G wr w' := by
  obtain ⟨F, h1, h2, h3, h4⟩ := h
  exact (hP.del h1 x hx hl).mono fun e w' he => ⟨he.1, S9.step h2 h3 h4 he.2.1 he.2.2⟩
theorem s9_range (hP : Prog9 PT) (h : S9 PT G w wr a L) (lo hi : V) (h1 : isB lo = true) (h2 : lo.f < 2 * S) (h3 : isB hi = true) (h4 : hi.f < 2 * S) (hl : L.length ≤ 100000) : Calls Try.prog 22 #[.pointer (some ⟨a, 0, none⟩), vv lo, vv hi] wr fun e w' => ∃ A c, e = .returned (.slice A (rngE L lo hi).length c) ∧ ERow w' A (rngE L lo hi) ∧ Below wr.heap.size wr w' := by
  obtain ⟨F, h, _⟩ := h
  exact hP.range h lo hi h1 h2 h3 h4 hl
theorem s9_all (hP : Prog9 PT) (h : S9 PT G w wr a L) (hl : L.length ≤ 100000) : Calls Try.prog 17 #[.pointer (some ⟨a, 0, none⟩)] wr fun e w' => ∃ A c, e = .returned (.slice A L.length c) ∧ ERow w' A L ∧ Below wr.heap.size wr w' := by
  obtain ⟨F, h, _⟩ := h
  exact hP.all h hl
theorem s9_len (hP : Prog9 PT) (h : S9 PT G w wr a L) (hl : L.length ≤ 100000) : Calls Try.prog 18 #[.pointer (some ⟨a, 0, none⟩)] wr fun e w' => e = .returned (.int .i64 (L.length : Nat)) ∧ Below wr.heap.size wr w' := by
  obtain ⟨F, h, _⟩ := h
  exact hP.len h hl
def e21 : En := ⟨⟨2, false, 2, 0, ⟨#[]⟩⟩, 1⟩
def e19 : En := ⟨⟨2, false, 1, 0, ⟨#[]⟩⟩, 9⟩
def e20 : En := ⟨⟨2, false, 2, 0, ⟨#[]⟩⟩, 0⟩
theorem e_ok : EOk e21 ∧ EOk e19 ∧ EOk e20 := by
  refine ⟨⟨?_, ?_⟩, ⟨?_, ?_⟩, ⟨?_, ?_⟩⟩ <;> decide +kernel
theorem k9 : hasE [] e21 = false ∧ insE [] e21 = [e21] ∧ hasE [e21] e19 = false ∧ insE [e21] e19 = [e19, e21] ∧ hasE [e19, e21] e20 = false ∧ insE [e19, e21] e20 = [e19, e20, e21] := by
  have c1 : En.cmp e21 e19 = 1 := by decide +kernel
  have c2 : En.cmp e19 e20 = -1 := by decide +kernel
  have c3 : En.cmp e21 e20 = 1 := by decide +kernel
  refine ⟨rfl, rfl, ?_, ?_, ?_, ?_⟩
  · simp [hasE, atE, List.findIdx_cons, c1]
  · simp [insE, hasE, atE, List.findIdx_cons, c1]
  · simp [hasE, atE, List.findIdx_cons, c2, c3]
  · simp [insE, hasE, atE, List.findIdx_cons, c2, c3]
end
end Go.Proofs.Ytmbbmgkbhfnchaa
