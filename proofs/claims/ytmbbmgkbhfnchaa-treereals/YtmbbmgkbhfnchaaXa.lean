/- Sorted lists of entries taken apart at an entry (ins, del, rng of both sides); how many entries a balanced tree of a depth has at least. No condition but those that each fact names. -/
import Derived.Test.YtmbbmgkbhfnchaaUi
namespace Go.Proofs.Ytmbbmgkbhfnchaa
set_option maxRecDepth 100000
set_option linter.unusedVariables false
open Fl (S)
open Val (V cmpV cmpI isB)
section
variable {I J : List En} {y x : En}
theorem Srt.left (h : Srt (I ++ y :: J)) : Srt I := ⟨h.1.sublist (List.sublist_append_left _ _), fun z hz => h.2 z (List.mem_append_left _ hz)⟩
theorem Srt.right (h : Srt (I ++ y :: J)) : Srt J := ⟨h.1.sublist ((List.sublist_cons_self _ _).trans (List.sublist_append_right _ _)), fun z hz => h.2 z (List.mem_append_right _ (List.mem_cons_of_mem _ hz))⟩
theorem Srt.mid (h : Srt (I ++ y :: J)) : EOk y := h.2 y (List.mem_append_right _ List.mem_cons_self)
theorem Srt.lo (h : Srt (I ++ y :: J)) : ∀ z, z ∈ I → En.cmp z y < 0 := fun z hz => (List.pairwise_append.1 h.1).2.2 z hz y List.mem_cons_self
theorem Srt.hi (h : Srt (I ++ y :: J)) : ∀ z, z ∈ J → En.cmp y z < 0 := fun z hz => (List.pairwise_cons.1 (List.pairwise_append.1 h.1).2.1).1 z hz
theorem atE_lo (hc : En.cmp x y < 0) : atE (I ++ y :: J) x = atE I x := by
  have h1 : 0 ≤ En.cmp y x := by have := cmprE.swap x y; omega
  unfold atE
  rw [List.findIdx_append]
  split
  · rfl
  · rename_i h
    rw [List.findIdx_cons, decide_eq_true h1]
    have := List.findIdx_le_length (xs := I) (p := fun y => decide (0 ≤ En.cmp y x))
    simp only [cond_true]
    omega
theorem atE_hi (hs : Srt (I ++ y :: J)) (hc : 0 < En.cmp x y) : atE (I ++ y :: J) x = I.length + 1 + atE J x := by
  have h1 : En.cmp y x < 0 := by have := cmprE.swap x y; omega
  have h0 : I.findIdx (fun y => decide (0 ≤ En.cmp y x)) = I.length := by
    rw [List.findIdx_eq_length]
    intro z hz
    have := Cmpr.lt_le cmprE (hs.lo z hz) (show En.cmp y x ≤ 0 by omega)
    exact decide_eq_false (by omega)
  unfold atE
  rw [List.findIdx_append, h0, if_neg (Nat.lt_irrefl _), List.findIdx_cons, decide_eq_false (show ¬ 0 ≤ En.cmp y x by omega)]
  simp only [cond_false]
  omega
theorem atE_mid (hs : Srt (I ++ y :: J)) (hc : En.cmp x y = 0) : atE (I ++ y :: J) x = I.length := by
  have h1 : En.cmp y x = 0 := by have := cmprE.swap x y; omega
  have h0 : I.findIdx (fun y => decide (0 ≤ En.cmp y x)) = I.length := by
    rw [List.findIdx_eq_length]
    intro z hz
    have := Cmpr.lt_le cmprE (hs.lo z hz) (show En.cmp y x ≤ 0 by omega)
    exact decide_eq_false (by omega)
  unfold atE
  rw [List.findIdx_append, h0, if_neg (Nat.lt_irrefl _), List.findIdx_cons, decide_eq_true (show 0 ≤ En.cmp y x by omega)]
  simp only [cond_true]
  omega
theorem hasE_lo (hc : En.cmp x y < 0) : hasE (I ++ y :: J) x = hasE I x := by
  have h1 : En.cmp y x ≠ 0 := by have := cmprE.swap x y; omega
  have hle := atE_le I x
  unfold hasE
  rw [atE_lo hc]
  rcases Nat.lt_or_ge (atE I x) I.length with h | h
  · rw [List.getElem?_append_left h]
  · have e : atE I x = I.length := by omega
    rw [List.getElem?_append_right h, e, Nat.sub_self, List.getElem?_eq_none (Nat.le_refl _)]
    exact decide_eq_false h1
theorem hasE_hi (hs : Srt (I ++ y :: J)) (hc : 0 < En.cmp x y) : hasE (I ++ y :: J) x = hasE J x := by
  unfold hasE
  rw [atE_hi hs hc, List.getElem?_append_right (by omega), show I.length + 1 + atE J x - I.length = atE J x + 1 by omega, List.getElem?_cons_succ]
theorem hasE_mid (hs : Srt (I ++ y :: J)) (hc : En.cmp x y = 0) : hasE (I ++ y :: J) x = true := by
  unfold hasE
  rw [atE_mid hs hc, List.getElem?_append_right (Nat.le_refl _), Nat.sub_self]
  exact decide_eq_true (by have := cmprE.swap x y; omega)
theorem insE_lo (hc : En.cmp x y < 0) : insE (I ++ y :: J) x = insE I x ++ y :: J := by
  unfold insE
  rw [hasE_lo hc, atE_lo hc]
  cases hasE I x with
  | true => rfl
  | false =>
    have := atE_le I x
    simp only [Bool.false_eq_true, if_false]
    rw [List.take_append_of_le_length this, List.drop_append_of_le_length this]
    simp
theorem insE_hi (hs : Srt (I ++ y :: J)) (hc : 0 < En.cmp x y) : insE (I ++ y :: J) x = I ++ y :: insE J x := by
  unfold insE
  rw [hasE_hi hs hc, atE_hi hs hc]
  cases hasE J x with
  | true => rfl
  | false =>
    simp only [Bool.false_eq_true, if_false]
    rw [List.take_append, List.drop_append, List.take_of_length_le (by omega), List.drop_eq_nil_of_le (by omega), show I.length + 1 + atE J x - I.length = atE J x + 1 by omega]
    simp
theorem insE_mid (hs : Srt (I ++ y :: J)) (hc : En.cmp x y = 0) : insE (I ++ y :: J) x = I ++ y :: J := by
  unfold insE
  rw [hasE_mid hs hc]; rfl
theorem delE_lo (hc : En.cmp x y < 0) : delE (I ++ y :: J) x = delE I x ++ y :: J := by
  unfold delE
  rw [hasE_lo hc, atE_lo hc]
  cases h : hasE I x with
  | false => rfl
  | true =>
    simp only [if_true]
    exact List.eraseIdx_append_of_lt_length (hasE_lt h) _
theorem delE_hi (hs : Srt (I ++ y :: J)) (hc : 0 < En.cmp x y) : delE (I ++ y :: J) x = I ++ y :: delE J x := by
  unfold delE
  rw [hasE_hi hs hc, atE_hi hs hc]
  cases h : hasE J x with
  | false => rfl
  | true =>
    simp only [if_true]
    rw [List.eraseIdx_append_of_length_le (by omega), show I.length + 1 + atE J x - I.length = atE J x + 1 by omega, List.eraseIdx_cons_succ]
theorem delE_mid (hs : Srt (I ++ y :: J)) (hc : En.cmp x y = 0) : delE (I ++ y :: J) x = I ++ J := by
  unfold delE
  rw [hasE_mid hs hc, if_pos rfl, atE_mid hs hc, List.eraseIdx_append_of_length_le (Nat.le_refl _), Nat.sub_self, List.eraseIdx_cons_zero]
/-- Is the entry's value between lo and hi? -/
def inE (y : En) (lo hi : V) : Bool := decide (0 ≤ cmpV y.v lo) && decide (cmpV y.v hi ≤ 0)
theorem rngE_app (lo hi : V) : rngE (I ++ y :: J) lo hi = rngE I lo hi ++ ((if inE y lo hi then [y] else []) ++ rngE J lo hi) := by
  unfold rngE inE
  rw [List.filter_append, List.filter_cons]
  split <;> simp
theorem cmpE_v {x y : En} (h : En.cmp x y < 0) : cmpV x.v y.v ≤ 0 := by
  unfold En.cmp at h
  split at h <;> omega
theorem rngE_lo (hs : Srt (I ++ y :: J)) {lo hi : V} (h : cmpV y.v lo < 0) : rngE I lo hi = [] := by
  unfold rngE
  rw [List.filter_eq_nil_iff]
  intro z hz h2
  rw [Bool.and_eq_true] at h2
  have h3 := of_decide_eq_true h2.1
  have := Cmpr.le_lt Val.cmprV (cmpE_v (hs.lo z hz)) h
  omega
theorem rngE_hi (hs : Srt (I ++ y :: J)) {lo hi : V} (h : 0 < cmpV y.v hi) : rngE J lo hi = [] := by
  unfold rngE
  rw [List.filter_eq_nil_iff]
  intro z hz h2
  rw [Bool.and_eq_true] at h2
  have h3 := of_decide_eq_true h2.2
  have h4 : cmpV hi y.v < 0 := by have := Val.cmprV.swap y.v hi; omega
  have h5 := Cmpr.lt_le Val.cmprV h4 (cmpE_v (hs.hi z hz))
  have := Val.cmprV.swap z.v hi
  omega
end
/-- The fewest entries of a balanced tree of depth d. -/
def fewest : Nat → Nat
  | 0 => 0
  | 1 => 1
  | d + 2 => fewest (d + 1) + fewest d + 1
theorem fewest_up : ∀ d, fewest d ≤ fewest (d + 1)
  | 0 => by simp [fewest]
  | 1 => by simp [fewest]
  | d + 2 => by
    have h1 := fewest_up d
    have h2 := fewest_up (d + 1)
    have e1 : fewest (d + 2) = fewest (d + 1) + fewest d + 1 := rfl
    have e2 : fewest (d + 2 + 1) = fewest (d + 2) + fewest (d + 1) + 1 := rfl
    omega
theorem fewest_mono {a b : Nat} (h : a ≤ b) : fewest a ≤ fewest b := by
  induction h with
  | refl => exact Nat.le_refl _
  | step _ ih => exact Nat.le_trans ih (fewest_up _)
theorem fewest_dig : ∀ d n, fewest d ≤ n → d ≤ 2 * dig n
  | 0, n, _ => by omega
  | 1, n, h => by
    have h : 1 ≤ n := h
    rw [dig_pos (show 0 < n by omega)]; omega
  | d + 2, n, h => by
    have e1 : fewest (d + 2) = fewest (d + 1) + fewest d + 1 := rfl
    have h1 := fewest_up d
    have := fewest_dig d (n / 2) (by omega)
    rw [dig_pos (show 0 < n by omega)]; omega
theorem fewest_le : ∀ d, d ≤ fewest d
  | 0 => Nat.zero_le _
  | 1 => Nat.le_refl _
  | d + 2 => by
    have := fewest_le (d + 1)
    have e1 : fewest (d + 2) = fewest (d + 1) + fewest d + 1 := rfl
    omega
theorem fewest_node {a b n m : Nat} (ha : fewest a ≤ n) (hb : fewest b ≤ m) (h1 : a ≤ b + 1) (h2 : b ≤ a + 1) : fewest (max a b + 1) ≤ n + (m + 1) := by
  rcases Nat.lt_trichotomy a b with h | h | h
  · obtain rfl : b = a + 1 := by omega
    rw [show max a (a + 1) = a + 1 by omega]
    have e1 : fewest (a + 1 + 1) = fewest (a + 1) + fewest a + 1 := rfl
    omega
  · subst h
    rw [Nat.max_self]
    cases a with
    | zero => simp only [fewest]; omega
    | succ a =>
      have e1 : fewest (a + 1 + 1) = fewest (a + 1) + fewest a + 1 := rfl
      have := fewest_up a
      omega
  · obtain rfl : a = b + 1 := by omega
    rw [show max (b + 1) b = b + 1 by omega]
    have e1 : fewest (b + 1 + 1) = fewest (b + 1) + fewest b + 1 := rfl
    omega
end Go.Proofs.Ytmbbmgkbhfnchaa
