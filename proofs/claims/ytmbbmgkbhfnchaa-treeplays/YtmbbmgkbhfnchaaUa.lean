/- Entries of chapter 9 without memory: their order, the sorted lists of them (at, ins, del, rng). No condition but those that each fact names. -/
import Derived.Test.YtmbbmgkbhfnchaaVq
namespace Go.Proofs.Ytmbbmgkbhfnchaa
set_option maxRecDepth 100000
set_option linter.unusedVariables false
open Fl (S)
open Val (V cmpV cmpI isB Cmpr cmprV cmprI)
/-- An entry. -/
structure En where
  v : V
  i : Int
/-- A valid entry: its value is, and its float is a word. -/
def EOk (x : En) : Prop := isB x.v = true ∧ x.v.f < 2 * S
theorem vext {x y : V} (h1 : x.k = y.k) (h2 : x.b = y.b) (h3 : x.n = y.n) (h4 : x.t.toList = y.t.toList) (h5 : x.f = y.f) : x = y := by
  obtain ⟨k, b, n, f, t⟩ := x
  obtain ⟨k2, b2, n2, f2, t2⟩ := y
  simp only at h1 h2 h3 h4 h5
  have e : t = t2 := by
    rw [ByteArray.toList_eq, ByteArray.toList_eq] at h4
    cases t; cases t2
    simpa using h4
  subst h1; subst h2; subst h3; subst h5; subst e
  rfl
namespace En
def cmp (x y : En) : Int := if cmpV x.v y.v = 0 then cmpI x.i y.i else cmpV x.v y.v
end En
section
variable {α : Type} {c : α → α → Int} (h : Cmpr c)
include h
theorem Cmpr.self' (x : α) : c x x = 0 := by have := h.swap x x; omega
theorem Cmpr.lt_le {x y z : α} (h1 : c x y < 0) (h2 : c y z ≤ 0) : c x z < 0 := by
  apply Classical.byContradiction
  intro hn
  have h3 : c z x ≤ 0 := by have := h.swap x z; omega
  have h4 := h.trans y z x h2 h3
  have := h.swap x y
  omega
theorem Cmpr.le_lt {x y z : α} (h1 : c x y ≤ 0) (h2 : c y z < 0) : c x z < 0 := by
  apply Classical.byContradiction
  intro hn
  have h3 : c z x ≤ 0 := by have := h.swap x z; omega
  have h4 := h.trans z x y h3 h1
  have := h.swap y z
  omega
end
theorem cmprE : Cmpr En.cmp := by
  have z0 : ∀ x y : En, cmpV x.v y.v = 0 ↔ cmpV y.v x.v = 0 := fun x y => by have := cmprV.swap x.v y.v; omega
  refine ⟨fun x y => ?_, fun x y => ?_, fun x y => ?_, fun x y z h1 h2 => ?_⟩
  · unfold En.cmp
    by_cases e : cmpV x.v y.v = 0
    · rw [if_pos e, if_pos ((z0 x y).1 e)]; exact cmprI.swap _ _
    · rw [if_neg e, if_neg (fun e2 => e ((z0 x y).2 e2))]; exact cmprV.swap _ _
  · unfold En.cmp; split
    · exact cmprI.lo _ _
    · exact cmprV.lo _ _
  · unfold En.cmp; split
    · exact cmprI.hi _ _
    · exact cmprV.hi _ _
  · unfold En.cmp at h1 h2 ⊢
    by_cases e1 : cmpV x.v y.v = 0
    · rw [if_pos e1] at h1
      by_cases e2 : cmpV y.v z.v = 0
      · rw [if_pos e2] at h2
        have e3 : cmpV x.v z.v = 0 := by
          have a1 := cmprV.trans x.v y.v z.v (by omega) (by omega)
          have a2 := cmprV.trans z.v y.v x.v (by have := cmprV.swap y.v z.v; omega) (by have := cmprV.swap x.v y.v; omega)
          have := cmprV.swap x.v z.v
          omega
        rw [if_pos e3]; exact cmprI.trans _ _ _ h1 h2
      · rw [if_neg e2] at h2
        have e3 := Cmpr.le_lt cmprV (x := x.v) (y := y.v) (z := z.v) (by omega) (by omega)
        rw [if_neg (by omega)]; omega
    · rw [if_neg e1] at h1
      by_cases e2 : cmpV y.v z.v = 0
      · have e3 := Cmpr.lt_le cmprV (x := x.v) (y := y.v) (z := z.v) (by omega) (by omega)
        rw [if_neg (by omega)]; omega
      · rw [if_neg e2] at h2
        have e3 := Cmpr.lt_le cmprV (x := x.v) (y := y.v) (z := z.v) (by omega) (by omega)
        rw [if_neg (by omega)]; omega
theorem cmpE_zero {x y : En} (hx : EOk x) (hy : EOk y) : En.cmp x y = 0 ↔ x = y := by
  constructor
  · intro h
    unfold En.cmp at h
    by_cases e : cmpV x.v y.v = 0
    · rw [if_pos e] at h
      have h1 := (Val.cmpI_zero _ _).1 h
      obtain ⟨q1, q2, q3, q4, q5⟩ := (Val.cmpV_zero hx.1 hy.1 hx.2 hy.2).1 e
      have h2 := vext q1 q2 q3 q4 q5
      obtain ⟨a, b⟩ := x
      obtain ⟨a2, b2⟩ := y
      simp only at h1 h2
      subst h1; subst h2; rfl
    · rw [if_neg e] at h; exact absurd h e
  · rintro rfl
    exact Cmpr.self' cmprE x
/-- Where the first stands that is not ahead of x; is it x? -/
def atE (L : List En) (x : En) : Nat := L.findIdx (fun y => decide (0 ≤ En.cmp y x))
def hasE (L : List En) (x : En) : Bool := match L[atE L x]? with
  | some y => decide (En.cmp y x = 0)
  | none => false
def insE (L : List En) (x : En) : List En := if hasE L x then L else L.take (atE L x) ++ x :: L.drop (atE L x)
def delE (L : List En) (x : En) : List En := if hasE L x then L.eraseIdx (atE L x) else L
def rngE (L : List En) (lo hi : V) : List En := L.filter (fun y => decide (0 ≤ cmpV y.v lo) && decide (cmpV y.v hi ≤ 0))
/-- Sorted, without repeats, all valid. -/
def Srt (L : List En) : Prop := L.Pairwise (fun x y => En.cmp x y < 0) ∧ ∀ x, x ∈ L → EOk x
theorem Srt.nil : Srt [] := ⟨List.Pairwise.nil, fun x h => by cases h⟩
theorem atE_le (L : List En) (x : En) : atE L x ≤ L.length := List.findIdx_le_length
theorem atE_before {L : List En} {x : En} {j : Nat} (hj : j < atE L x) (hl : j < L.length) : En.cmp L[j] x < 0 := by
  have := List.not_of_lt_findIdx hj
  simpa using this
theorem atE_at {L : List En} {x : En} (h : atE L x < L.length) : 0 ≤ En.cmp L[atE L x] x := by
  have := List.findIdx_getElem (w := h)
  exact of_decide_eq_true this
theorem atE_eq {L : List En} {x : En} {k : Nat} (hk : k ≤ L.length) (h1 : ∀ j (hj : j < L.length), j < k → En.cmp L[j] x < 0) (h2 : ∀ h : k < L.length, 0 ≤ En.cmp L[k] x) : atE L x = k := by
  unfold atE
  rcases Nat.lt_or_ge k L.length with h | h
  · rw [List.findIdx_eq h]
    exact ⟨decide_eq_true (h2 h), fun j hj => decide_eq_false (by have := h1 j (by omega) hj; omega)⟩
  · have e : k = L.length := by omega
    subst e
    rw [List.findIdx_eq_length]
    intro y hy
    obtain ⟨j, hj, rfl⟩ := List.getElem_of_mem hy
    exact decide_eq_false (by have := h1 j hj hj; omega)
theorem hasE_iff {L : List En} (hs : Srt L) {x : En} (hx : EOk x) : hasE L x = true ↔ x ∈ L := by
  unfold hasE
  constructor
  · intro h
    split at h
    · rename_i y hy
      obtain ⟨hlt, e⟩ := List.getElem?_eq_some_iff.1 hy
      have hm : y ∈ L := by rw [← e]; exact List.getElem_mem hlt
      have := (cmpE_zero (hs.2 y hm) hx).1 (of_decide_eq_true h)
      rw [← this]; exact hm
    · cases h
  · intro h
    obtain ⟨j, hj, e⟩ := List.getElem_of_mem h
    have hk : atE L x = j := by
      refine atE_eq (Nat.le_of_lt hj) (fun i hi hij => ?_) (fun _ => ?_)
      · rw [← e]; exact (List.pairwise_iff_getElem.1 hs.1) i j hi hj hij
      · rw [e]; have := Cmpr.self' cmprE x; omega
    rw [hk, List.getElem?_eq_getElem hj, e]
    exact decide_eq_true (Cmpr.self' cmprE x)
theorem hasE_false {L : List En} {x : En} (h : hasE L x = false) (hl : atE L x < L.length) : 0 < En.cmp L[atE L x] x := by
  unfold hasE at h
  rw [List.getElem?_eq_getElem hl] at h
  have h1 := of_decide_eq_false h
  have h2 := atE_at hl
  omega
theorem hasE_lt {L : List En} {x : En} (h : hasE L x = true) : atE L x < L.length := by
  rcases Nat.lt_or_ge (atE L x) L.length with h1 | h1
  · exact h1
  · unfold hasE at h
    rw [List.getElem?_eq_none h1] at h
    cases h
theorem insE_srt {L : List En} (hs : Srt L) {x : En} (hx : EOk x) : Srt (insE L x) := by
  unfold insE
  cases hh : hasE L x with
  | true => exact hs
  | false =>
    have hd : ∀ y, y ∈ L.drop (atE L x) → En.cmp x y < 0 := fun y hy => by
      obtain ⟨j, hj, e⟩ := List.getElem_of_mem hy
      rw [List.length_drop] at hj
      rw [List.getElem_drop] at e
      have h1 := hasE_false hh (by omega)
      have h3 : En.cmp x L[atE L x] < 0 := by have := cmprE.swap x (L[atE L x]'(by omega)); omega
      rcases Nat.eq_zero_or_pos j with h0 | h0
      · subst h0
        rw [← e]; exact h3
      · have h4 := (List.pairwise_iff_getElem.1 hs.1) (atE L x) (atE L x + j) (by omega) (by omega) (by omega)
        rw [e] at h4
        exact Cmpr.lt_le cmprE h3 (by omega)
    have ht : ∀ y, y ∈ L.take (atE L x) → En.cmp y x < 0 := fun y hy => by
      obtain ⟨j, hj, e⟩ := List.getElem_of_mem hy
      rw [List.length_take] at hj
      rw [List.getElem_take] at e
      rw [← e]; exact atE_before (by omega) (by omega)
    refine ⟨?_, fun y hy => ?_⟩
    · simp only [Bool.false_eq_true, if_false]
      rw [List.pairwise_append]
      refine ⟨hs.1.sublist (List.take_sublist _ _), List.pairwise_cons.2 ⟨hd, hs.1.sublist (List.drop_sublist _ _)⟩, fun y hy z hz => ?_⟩
      rcases List.mem_cons.1 hz with rfl | hz
      · exact ht y hy
      · exact Cmpr.lt_le cmprE (ht y hy) (by have := hd z hz; omega)
    · simp only [Bool.false_eq_true, if_false] at hy
      rcases List.mem_append.1 hy with h1 | h1
      · exact hs.2 y (List.mem_of_mem_take h1)
      · rcases List.mem_cons.1 h1 with rfl | h1
        · exact hx
        · exact hs.2 y (List.mem_of_mem_drop h1)
theorem delE_srt {L : List En} (hs : Srt L) (x : En) : Srt (delE L x) := by
  unfold delE
  split
  · exact ⟨hs.1.sublist (List.eraseIdx_sublist _ _), fun y hy => hs.2 y ((List.eraseIdx_sublist _ _).subset hy)⟩
  · exact hs
theorem insE_len (L : List En) (x : En) : (insE L x).length = if hasE L x then L.length else L.length + 1 := by
  unfold insE
  split
  · rfl
  · rw [List.length_append, List.length_cons, List.length_take, List.length_drop]
    have := atE_le L x
    omega
theorem delE_len (L : List En) (x : En) : (delE L x).length + (if hasE L x then 1 else 0) = L.length := by
  unfold delE
  split
  · rename_i h
    have := hasE_lt h
    rw [List.length_eraseIdx, if_pos this]
    omega
  · rfl
/-- What is put in is there; taken out again, all is as it was. -/
theorem atE_ins {L : List En} {x : En} (hx : EOk x) (h : hasE L x = false) : atE (insE L x) x = atE L x ∧ hasE (insE L x) x = true ∧ delE (insE L x) x = L := by
  have hle := atE_le L x
  have e0 : insE L x = L.take (atE L x) ++ x :: L.drop (atE L x) := by unfold insE; rw [h]; rfl
  have hlen : (L.take (atE L x)).length = atE L x := by rw [List.length_take]; omega
  have e1 : (insE L x)[atE L x]? = some x := by
    rw [e0, List.getElem?_append_right (by omega), hlen, Nat.sub_self]; rfl
  obtain ⟨hlt, e2⟩ := List.getElem?_eq_some_iff.1 e1
  have e3 : atE (insE L x) x = atE L x := by
    refine atE_eq (Nat.le_of_lt hlt) (fun j hj hjk => ?_) (fun _ => by rw [e2]; have := Cmpr.self' cmprE x; omega)
    have e4 : (insE L x)[j] = L[j]'(by omega) := by
      have : (insE L x)[j]? = L[j]? := by
        rw [e0, List.getElem?_append_left (by omega), List.getElem?_take, if_pos hjk]
      rw [List.getElem?_eq_getElem hj, List.getElem?_eq_getElem (by omega)] at this
      exact Option.some.inj this
    rw [e4]; exact atE_before hjk (by omega)
  have e5 : hasE (insE L x) x = true := by
    unfold hasE
    rw [e3, e1]
    exact decide_eq_true (Cmpr.self' cmprE x)
  refine ⟨e3, e5, ?_⟩
  unfold delE
  rw [if_pos e5, e3, e0, List.eraseIdx_append_of_length_le (by omega), hlen, Nat.sub_self, List.eraseIdx_cons_zero, List.take_append_drop]
theorem has_del {L : List En} (hs : Srt L) {x : En} (hx : EOk x) : hasE (delE L x) x = false := by
  cases hh : hasE L x with
  | false => unfold delE; rw [hh]; exact hh
  | true =>
    rw [Bool.eq_false_iff]
    intro h
    have hm := (hasE_iff (delE_srt hs x) hx).1 h
    unfold delE at hm
    rw [if_pos hh] at hm
    obtain ⟨j, hne, hj⟩ := List.mem_eraseIdx_iff_getElem?.1 hm
    obtain ⟨hjl, e⟩ := List.getElem?_eq_some_iff.1 hj
    have hal := hasE_lt hh
    have ha : En.cmp L[atE L x] x = 0 := by
      unfold hasE at hh
      rw [List.getElem?_eq_getElem hal] at hh
      exact of_decide_eq_true hh
    have hax := (cmpE_zero (hs.2 _ (List.getElem_mem hal)) hx).1 ha
    rcases Nat.lt_or_gt_of_ne hne with h1 | h1
    · have := (List.pairwise_iff_getElem.1 hs.1) j (atE L x) hjl hal h1
      rw [e, hax] at this
      have := Cmpr.self' cmprE x; omega
    · have := (List.pairwise_iff_getElem.1 hs.1) (atE L x) j hal hjl h1
      rw [e, hax] at this
      have := Cmpr.self' cmprE x; omega
theorem rngE_srt {L : List En} (hs : Srt L) (lo hi : V) : Srt (rngE L lo hi) := ⟨hs.1.sublist List.filter_sublist, fun y hy => hs.2 y (List.mem_filter.1 hy).1⟩
end Go.Proofs.Ytmbbmgkbhfnchaa
