/- Versions of one thing told without memory: who wrote each, what is read, what a write, an undoing and a sweep make of them, beside a clock (Ka). No condition but those that each fact names. -/
import Derived.Test.YtpjjpjdamieeeaaKa
namespace Go.Proofs.Ytpjjpjdamieeeaa
set_option maxRecDepth 100000
set_option linter.unusedVariables false
/-- A version: who wrote it, its value, whether it is gone. -/
structure Ver (α : Type) where
  w : Int
  v : α
  g : Bool
namespace Ver
section
variable {α : Type}
/-- The last version whose writer t sees. -/
def rdX (c : Ck) (t : Int) (l : List (Ver α)) : Option (Ver α) := l.reverse.find? (fun x => c.sees t x.w)
def rdV (z : α) : Option (Ver α) → α
  | none => z
  | some x => if x.g then z else x.v
def rdB : Option (Ver α) → Bool
  | none => false
  | some x => !x.g
def chk (c : Ck) (t : Int) (l : List (Ver α)) : Int :=
  match l.getLast? with
  | none => 0
  | some x => if c.clashes t x.w then 6 else 0
def put (t : Int) (v : α) (g : Bool) (l : List (Ver α)) : List (Ver α) :=
  match l.getLast? with
  | none => [⟨t, v, g⟩]
  | some x => if x.w = t then l.dropLast ++ [⟨t, v, g⟩] else l ++ [⟨t, v, g⟩]
def wrS (c : Ck) (t : Int) (v : α) (g : Bool) (l : List (Ver α)) : List (Ver α) := if chk c t l = 0 then put t v g l else l
def at? (t : Int) (l : List (Ver α)) : Nat := l.findIdx (fun x => decide (x.w = t))
def undo (t : Int) (l : List (Ver α)) : List (Ver α) := l.eraseIdx (at? t l)
/-- Is a version spare? Then the first one is. -/
def spare (c : Ck) : List (Ver α) → Bool
  | [] => false
  | x :: r => (x.g && c.settled x.w) || r.any (fun y => c.settled y.w)
def swS (c : Ck) (l : List (Ver α)) : List (Ver α) := if spare c l then l.tail else l
/-- What holds of versions beside their clock: all writers are there; all but the last have committed, and the last has committed or is live. -/
structure Inv (c : Ck) (l : List (Ver α)) : Prop where
  has : ∀ x ∈ l, c.has x.w = true
  old : ∀ x ∈ l.dropLast, 0 < (c.tx x.w).com
  end_ : ∀ x, l.getLast? = some x → (c.tx x.w).live = true ∨ 0 < (c.tx x.w).com
theorem Inv.nil (c : Ck) : Inv c ([] : List (Ver α)) := ⟨fun x h => by simp at h, fun x h => by simp at h, fun x h => by simp at h⟩
theorem Inv.each {c : Ck} {l : List (Ver α)} (h : Inv c l) {x : Ver α} (hx : x ∈ l) : (c.tx x.w).live = true ∨ 0 < (c.tx x.w).com := by
  rcases List.eq_nil_or_concat l with rfl | ⟨r, y, rfl⟩
  · simp at hx
  · rw [List.concat_eq_append] at *
    rcases List.mem_append.1 hx with hx | hx
    · exact .inr (h.old x (by rw [List.dropLast_concat]; exact hx))
    · rw [List.mem_singleton] at hx
      subst hx
      exact h.end_ x (by simp)
/-- The same versions beside another clock. -/
theorem Inv.move {c d : Ck} {l : List (Ver α)} (h : Inv c l) (hh : ∀ x ∈ l, d.has x.w = true) (ho : ∀ x ∈ l, 0 < (c.tx x.w).com → 0 < (d.tx x.w).com) (hl : ∀ x ∈ l, (c.tx x.w).live = true → (d.tx x.w).live = true ∨ 0 < (d.tx x.w).com) : Inv d l := by
  refine ⟨hh, fun x hx => ho x (List.dropLast_subset _ hx) (h.old x hx), fun x hx => ?_⟩
  have hm := List.mem_of_getLast? hx
  rcases h.end_ x hx with h1 | h1
  · exact hl x hm h1
  · exact .inr (ho x hm h1)
theorem Inv.beg {c : Ck} {l : List (Ver α)} (h : Inv c l) : Inv c.beg l :=
  h.move (fun x hx => Ck.beg_has (h.has x hx)) (fun x hx => by rw [Ck.beg_tx (h.has x hx)]; exact id) (fun x hx => by rw [Ck.beg_tx (h.has x hx)]; exact .inl)
theorem com_tx {c : Ck} {t b : Int} (ht : c.isLive t = true) (hb : c.has b = true) : (c.comS t).has b = true ∧ (c.comS t).tx b = if b = t then ⟨(c.tx t).mark, c.n + 1, false⟩ else c.tx b := by
  unfold Ck.comS
  rw [if_pos ht]
  exact ⟨by rw [Ck.set_has]; exact hb, Ck.set_tx (Ck.live_has ht).1 hb⟩
theorem ab_tx {c : Ck} {t b : Int} (ht : c.isLive t = true) (hb : c.has b = true) : (c.abS t).has b = true ∧ (c.abS t).tx b = if b = t then ⟨(c.tx t).mark, (c.tx t).com, false⟩ else c.tx b := by
  unfold Ck.abS
  rw [if_pos ht]
  exact ⟨by rw [Ck.set_has]; exact hb, Ck.set_tx (Ck.live_has ht).1 hb⟩
theorem Inv.com {c : Ck} {l : List (Ver α)} (h : Inv c l) (t : Int) : Inv (c.comS t) l := by
  by_cases ht : c.isLive t = true
  · refine h.move (fun x hx => (com_tx ht (h.has x hx)).1) (fun x hx h0 => ?_) (fun x hx h0 => ?_)
    · rw [(com_tx ht (h.has x hx)).2]
      split
      · simp
      · exact h0
    · rw [(com_tx ht (h.has x hx)).2]
      split
      · exact .inr (by simp)
      · exact .inl h0
  · have e : c.comS t = c := by unfold Ck.comS; rw [if_neg ht]
    rw [e]; exact h
theorem findIdx_none {t : Int} {l : List (Ver α)} (h : ∀ x ∈ l, x.w ≠ t) : at? t l = l.length := by
  unfold at?
  rw [List.findIdx_eq_length]
  intro x hx
  simpa using h x hx
theorem undo_none {t : Int} {l : List (Ver α)} (h : ∀ x ∈ l, x.w ≠ t) : undo t l = l := by
  unfold undo
  rw [findIdx_none h, List.eraseIdx_of_length_le (Nat.le_refl _)]
theorem undo_last {t : Int} {l : List (Ver α)} {y : Ver α} (h : ∀ x ∈ l, x.w ≠ t) (hy : y.w = t) : undo t (l ++ [y]) = l := by
  unfold undo at?
  rw [List.findIdx_append, if_neg (by have := findIdx_none h; unfold at? at this; rw [this]; exact Nat.lt_irrefl _)]
  rw [List.findIdx_cons]
  simp only [hy, decide_true, cond_true, Nat.zero_add]
  rw [List.eraseIdx_append_of_length_le (Nat.le_refl _), Nat.sub_self]
  simp
/-- An abort, and the undoing that goes with it. -/
theorem Inv.ab {c : Ck} {l : List (Ver α)} (h : Inv c l) (hok : c.Ok) {t : Int} (ht : c.isLive t = true) : Inv (c.abS t) (undo t l) := by
  obtain ⟨p1, p2⟩ := Ck.live_has ht
  have hfr := hok.fresh _ (Ck.tx_mem p1) p2
  rcases List.eq_nil_or_concat l with rfl | ⟨r, y, rfl⟩
  · exact Inv.nil _
  · rw [List.concat_eq_append] at *
    have hold : ∀ x ∈ r, 0 < (c.tx x.w).com := fun x hx => h.old x (by rw [List.dropLast_concat]; exact hx)
    have hne : ∀ x ∈ r, x.w ≠ t := fun x hx e => by have := hold x hx; rw [e] at this; omega
    have hhr : ∀ x ∈ r, c.has x.w = true := fun x hx => h.has x (List.mem_append_left _ hx)
    by_cases hy : y.w = t
    · rw [undo_last hne hy]
      refine ⟨fun x hx => (ab_tx ht (hhr x hx)).1, fun x hx => ?_, fun x hx => .inr ?_⟩
      · have hm := List.dropLast_subset _ hx
        rw [(ab_tx ht (hhr x hm)).2, if_neg (hne x hm)]; exact hold x hm
      · have hm := List.mem_of_getLast? hx
        rw [(ab_tx ht (hhr x hm)).2, if_neg (hne x hm)]; exact hold x hm
    · have hall : ∀ x ∈ r ++ [y], x.w ≠ t := fun x hx => by
        rcases List.mem_append.1 hx with hx | hx
        · exact hne x hx
        · rw [List.mem_singleton] at hx; subst hx; exact hy
      rw [undo_none hall]
      refine h.move (fun x hx => (ab_tx ht (h.has x hx)).1) (fun x hx h0 => ?_) (fun x hx h0 => ?_)
      · rw [(ab_tx ht (h.has x hx)).2, if_neg (hall x hx)]; exact h0
      · rw [(ab_tx ht (h.has x hx)).2, if_neg (hall x hx)]; exact .inl h0
theorem chk_zero {c : Ck} {t : Int} {l : List (Ver α)} {x : Ver α} (h : chk c t l = 0) (hx : l.getLast? = some x) : c.clashes t x.w = false := by
  unfold chk at h
  rw [hx] at h
  simp only at h
  split at h
  · cases h
  · rename_i hf; simpa using hf
theorem chk_le (c : Ck) (t : Int) (l : List (Ver α)) : chk c t l = 0 ∨ chk c t l = 6 := by
  unfold chk
  split
  · exact .inl rfl
  · split
    · exact .inr rfl
    · exact .inl rfl
theorem Inv.write {c : Ck} {l : List (Ver α)} (h : Inv c l) {t : Int} (ht : c.isLive t = true) (v : α) (g : Bool) : Inv c (wrS c t v g l) := by
  unfold wrS
  split
  · rename_i h0
    obtain ⟨p1, p2⟩ := Ck.live_has ht
    unfold put
    rcases List.eq_nil_or_concat l with rfl | ⟨r, y, rfl⟩
    · simp only [List.getLast?_nil]
      exact ⟨fun x hx => by rw [List.mem_singleton] at hx; subst hx; exact p1, fun x hx => by simp at hx, fun x hx => by simp at hx; subst hx; exact .inl p2⟩
    · rw [List.concat_eq_append] at *
      have hl : (r ++ [y]).getLast? = some y := by simp
      have hcl := chk_zero h0 hl
      rw [hl]
      simp only
      have hold : ∀ x ∈ r, 0 < (c.tx x.w).com := fun x hx => h.old x (by rw [List.dropLast_concat]; exact hx)
      split
      · rw [List.dropLast_concat]
        refine ⟨fun x hx => ?_, fun x hx => hold x (by rw [List.dropLast_concat] at hx; exact hx), fun x hx => by simp at hx; subst hx; exact .inl p2⟩
        rcases List.mem_append.1 hx with hx | hx
        · exact h.has x (List.mem_append_left _ hx)
        · rw [List.mem_singleton] at hx; subst hx; exact p1
      · rename_i hy
        refine ⟨fun x hx => ?_, fun x hx => ?_, fun x hx => by simp at hx; subst hx; exact .inl p2⟩
        · rcases List.mem_append.1 hx with hx | hx
          · exact h.has x hx
          · rw [List.mem_singleton] at hx; subst hx; exact p1
        · rw [List.dropLast_concat] at hx
          rcases List.mem_append.1 hx with hx | hx
          · exact hold x hx
          · rw [List.mem_singleton] at hx
            subst hx
            have hb := h.has x (by simp)
            rcases h.end_ x hl with h1 | h1
            · exfalso
              unfold Ck.clashes at hcl
              rw [p1, hb, h1, decide_eq_false (show ¬ t = x.w from fun e => hy e.symm)] at hcl
              simp at hcl
            · exact h1
  · exact h
theorem Inv.sweep {c : Ck} {l : List (Ver α)} (h : Inv c l) : Inv c (swS c l) := by
  unfold swS
  split
  · cases l with
    | nil => exact h
    | cons x r =>
      cases r with
      | nil => exact Inv.nil _
      | cons y r =>
        refine ⟨fun z hz => h.has z (List.mem_cons_of_mem _ hz), fun z hz => h.old z ?_, fun z hz => h.end_ z ?_⟩
        · simp only [List.tail_cons] at hz
          rw [List.dropLast_cons_of_ne_nil (by simp)]
          exact List.mem_cons_of_mem _ hz
        · simp only [List.tail_cons] at hz
          rw [List.getLast?_cons_cons]; exact hz
  · exact h
/-! Sweeping changes nothing that a live transaction reads. -/
theorem settled_live {c : Ck} (hok : c.Ok) {t b : Int} (ht : c.isLive t = true) (hb : c.settled b = true) : c.sees t b = true ∧ c.clashes t b = false := by
  obtain ⟨p1, p2⟩ := Ck.live_has ht
  unfold Ck.settled at hb
  simp only [Bool.and_eq_true, decide_eq_true_eq] at hb
  obtain ⟨b1, b2, b3⟩ := hb
  have hle := List.all_eq_true.1 b3 _ (Ck.tx_mem p1)
  rw [p2] at hle
  simp only [Bool.not_true, Bool.false_or, decide_eq_true_eq] at hle
  have hbl : (c.tx b).live = false := by
    cases hl : (c.tx b).live with
    | false => rfl
    | true => have := hok.fresh _ (Ck.tx_mem b1) hl; omega
  constructor
  · unfold Ck.sees
    rw [p1, b1, decide_eq_true b2, decide_eq_true hle]
    simp
  · unfold Ck.clashes
    rw [p1, b1, hbl, decide_eq_false (show ¬ (c.tx t).mark < (c.tx b).com by omega)]
    simp
theorem rd_sweep {c : Ck} (hok : c.Ok) {t : Int} (ht : c.isLive t = true) (z : α) (l : List (Ver α)) : rdV z (rdX c t (swS c l)) = rdV z (rdX c t l) ∧ rdB (rdX c t (swS c l)) = rdB (rdX c t l) := by
  unfold swS
  split
  · rename_i hs
    cases l with
    | nil => exact ⟨rfl, rfl⟩
    | cons x r =>
      simp only [List.tail_cons]
      unfold rdX
      rw [List.reverse_cons, List.find?_append]
      cases hf : r.reverse.find? (fun y => c.sees t y.w) with
      | some y => exact ⟨rfl, rfl⟩
      | none =>
        have hno : r.any (fun y => c.settled y.w) = false := by
          rw [List.any_eq_false]
          intro y hy hsy
          have := List.find?_eq_none.1 hf y (by simpa using hy)
          exact this (settled_live hok ht hsy).1
        have hg : x.g = true := by
          simp only [spare, hno, Bool.or_false, Bool.and_eq_true] at hs
          exact hs.1
        simp only [Option.none_or, List.find?_cons, List.find?_nil]
        split
        · simp [rdV, rdB, hg]
        · exact ⟨rfl, rfl⟩
  · exact ⟨rfl, rfl⟩
theorem chk_sweep {c : Ck} (hok : c.Ok) {t : Int} (ht : c.isLive t = true) (l : List (Ver α)) : chk c t (swS c l) = chk c t l := by
  unfold swS
  split
  · rename_i hs
    cases l with
    | nil => rfl
    | cons x r =>
      cases r with
      | nil =>
        unfold spare at hs
        simp only [List.any_nil, Bool.or_false, Bool.and_eq_true] at hs
        simp [chk, (settled_live hok ht hs.2).2]
      | cons y r =>
        unfold chk
        rw [List.tail_cons, List.getLast?_cons_cons]
  · rfl
theorem sweep_len {c : Ck} {l : List (Ver α)} (h : spare c l = true) : (swS c l).length + 1 = l.length := by
  unfold swS
  rw [if_pos h]
  cases l with
  | nil => cases h
  | cons x r => rfl
/-- Where nobody is live and nothing is spare, one version stands at most. -/
theorem few {c : Ck} (hcnt : c.cnt = 0) {l : List (Ver α)} (h : Inv c l) (hs : spare c l = false) : l.length ≤ 1 := by
  have hdead : ∀ x ∈ c.l, x.live = false := fun x hx => by
    have := List.countP_eq_zero.1 hcnt x hx
    simpa using this
  cases l with
  | nil => simp
  | cons x r =>
    cases r with
    | nil => simp
    | cons y r =>
      exfalso
      unfold spare at hs
      simp only [Bool.or_eq_false_iff] at hs
      have hy : y ∈ x :: y :: r := by simp
      have hh := h.has y hy
      have hset : c.settled y.w = true := by
        unfold Ck.settled
        have hcom : 0 < (c.tx y.w).com := by
          rcases h.each hy with h1 | h1
          · rw [hdead _ (Ck.tx_mem hh)] at h1; cases h1
          · exact h1
        rw [hh, decide_eq_true hcom, List.all_eq_true.2 (fun z hz => by rw [hdead z hz]; rfl)]
        rfl
      have := List.any_eq_false.1 hs.2 y (by simp)
      exact this hset
end
end Ver
end Go.Proofs.Ytpjjpjdamieeeaa
