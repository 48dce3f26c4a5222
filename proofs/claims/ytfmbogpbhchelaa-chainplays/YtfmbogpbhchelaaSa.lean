/- Lists of chapter 8 without memory: all items, the one that was added last first. No condition but those that each fact names. -/
import Derived.Test.YtfmbogpbhchelaaKg
namespace Go.Proofs.Ytfmbogpbhchelaa
set_option maxRecDepth 100000
set_option linter.unusedVariables false
/-- An item: a list, and what is in it. -/
structure It where
  l : Int
  i : Int
deriving DecidableEq
namespace It
/-- Lists without memory: all items, the one that was added last first. -/
def has (I : List It) (l i : Int) : Bool := decide ((⟨l, i⟩ : It) ∈ I)
def add (I : List It) (l i : Int) : List It := if has I l i then I else ⟨l, i⟩ :: I
def cut (I : List It) (l i : Int) : List It := I.erase ⟨l, i⟩
def walk (I : List It) (l : Int) : List Int := (I.filter (fun x => decide (x.l = l))).map It.i
theorem has_iff {I : List It} {l i : Int} : has I l i = true ↔ (⟨l, i⟩ : It) ∈ I := by simp [has]
theorem walk_mem {I : List It} {l i : Int} : i ∈ walk I l ↔ (⟨l, i⟩ : It) ∈ I := by
  unfold walk
  simp only [List.mem_map, List.mem_filter, decide_eq_true_eq]
  constructor
  · rintro ⟨x, ⟨h1, h2⟩, h3⟩
    obtain ⟨xl, xi⟩ := x
    simp only at h2 h3
    subst h2; subst h3
    exact h1
  · intro h
    exact ⟨⟨l, i⟩, ⟨h, rfl⟩, rfl⟩
theorem walk_cons (x : It) (I : List It) (l : Int) : walk (x :: I) l = if x.l = l then x.i :: walk I l else walk I l := by
  unfold walk
  rw [List.filter_cons]
  by_cases e : x.l = l
  · rw [if_pos e, if_pos (by simpa using e)]; rfl
  · rw [if_neg e, if_neg (by simpa using e)]
theorem walk_nodup (l : Int) : ∀ {I : List It}, I.Nodup → (walk I l).Nodup
  | [], _ => List.nodup_nil
  | x :: I, h => by
    rw [List.nodup_cons] at h
    rw [walk_cons]
    split
    · rename_i e
      rw [List.nodup_cons]
      refine ⟨fun hm => h.1 ?_, walk_nodup l h.2⟩
      have := walk_mem.1 hm
      rwa [← e] at this
    · exact walk_nodup l h.2
theorem add_nodup {I : List It} (h : I.Nodup) (l i : Int) : (add I l i).Nodup := by
  unfold add
  split
  · exact h
  · rename_i hn
    rw [List.nodup_cons]
    exact ⟨fun hm => hn (has_iff.2 hm), h⟩
theorem cut_nodup {I : List It} (h : I.Nodup) (l i : Int) : (cut I l i).Nodup := h.erase _
theorem add_len (I : List It) (l i : Int) : (add I l i).length = if has I l i then I.length else I.length + 1 := by unfold add; split <;> simp_all
theorem add_len_le (I : List It) (l i : Int) : (add I l i).length ≤ I.length + 1 := by rw [add_len]; split <;> omega
theorem cut_len_le (I : List It) (l i : Int) : (cut I l i).length ≤ I.length := List.length_erase_le
theorem walk_len_le (I : List It) (l : Int) : (walk I l).length ≤ I.length := by unfold walk; rw [List.length_map]; exact List.length_filter_le _ _
theorem walk_nil (l : Int) : walk [] l = [] := rfl
theorem walk_add (I : List It) (l i m : Int) : walk (add I l i) m = if l = m ∧ has I l i = false then i :: walk I m else walk I m := by
  unfold add
  cases hh : has I l i with
  | true => simp
  | false =>
    simp only [Bool.false_eq_true, if_false, and_true]
    unfold walk
    by_cases e : l = m
    · rw [if_pos e, List.filter_cons, if_pos (by simpa using e)]; rfl
    · rw [if_neg e, List.filter_cons, if_neg (by simpa using e)]
theorem walk_cut_other (I : List It) {l m : Int} (h : l ≠ m) (i : Int) : walk (cut I l i) m = walk I m := by
  unfold walk cut
  induction I with
  | nil => rfl
  | cons x I ih =>
    rw [List.erase_cons]
    by_cases e : x = ⟨l, i⟩
    · subst e
      rw [if_pos (by simp), List.filter_cons, if_neg (by simpa using h)]
    · rw [if_neg (by simpa using e), List.filter_cons, List.filter_cons]
      by_cases e2 : x.l = m
      · rw [if_pos (by simpa using e2), if_pos (by simpa using e2), List.map_cons, List.map_cons, ih]
      · rw [if_neg (by simpa using e2), if_neg (by simpa using e2), ih]
theorem walk_cut (I : List It) (l i : Int) : walk (cut I l i) l = (walk I l).erase i := by
  unfold walk cut
  induction I with
  | nil => rfl
  | cons x I ih =>
    rw [List.erase_cons]
    by_cases e : x = ⟨l, i⟩
    · subst e
      rw [if_pos (by simp), List.filter_cons, if_pos (by simp), List.map_cons, List.erase_cons_head]
    · rw [if_neg (by simpa using e), List.filter_cons, List.filter_cons]
      by_cases e2 : x.l = l
      · rw [if_pos (by simpa using e2), if_pos (by simpa using e2), List.map_cons, List.map_cons, ih, List.erase_cons, if_neg ?_]
        intro h
        have h' : x.i = i := by simpa using h
        exact e (by obtain ⟨xl, xi⟩ := x; simp only at e2 h'; rw [e2, h'])
      · rw [if_neg (by simpa using e2), if_neg (by simpa using e2), ih]
theorem walk_sum (I : List It) : (∀ x ∈ I, x.l = 1 ∨ x.l = 2) → I.length = (walk I 1).length + (walk I 2).length := by
  induction I with
  | nil => intro _; rfl
  | cons x I ih =>
    intro h
    have ih := ih (fun y hy => h y (by simp [hy]))
    unfold walk at *
    rw [List.filter_cons, List.filter_cons, List.length_cons]
    rcases h x (by simp) with e | e
    · rw [if_pos (by simpa using e), if_neg (by rw [e]; decide), List.map_cons, List.length_cons]; omega
    · rw [if_neg (by rw [e]; decide), if_pos (by simpa using e), List.map_cons, List.length_cons]; omega
theorem walk_all (I : List It) (l : Int) : (∀ x ∈ I, x.l = l) → I.length = (walk I l).length := by
  intro h
  unfold walk
  rw [List.length_map, List.filter_eq_self.2 (fun x hx => by simpa using h x hx)]
end It
end Go.Proofs.Ytfmbogpbhchelaa
