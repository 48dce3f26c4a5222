/- A clock told without memory: its transactions and how many commits there were; what Begin, Commit and Abort make of it, and what a transaction sees. No condition but those that each fact names. -/
import Derived.WalkLawsBesides
namespace Go.Proofs.Ytpjjpjdamieeeaa
set_option maxRecDepth 100000
set_option linter.unusedVariables false

/-- A transaction: how many commits there were when it began; as which commit it was committed (0: not); is it live? -/
structure Tx where
  mark : Nat
  com : Nat
  live : Bool
def tx0 : Tx := ⟨0, 0, false⟩
structure Ck where
  l : List Tx
  n : Nat
namespace Ck
def has (c : Ck) (t : Int) : Bool := decide (1 ≤ t ∧ t ≤ (c.l.length : Int))
def tx (c : Ck) (t : Int) : Tx := c.l.getD (t.toNat - 1) tx0
def cnt (c : Ck) : Nat := c.l.countP (·.live)
def isLive (c : Ck) (t : Int) : Bool := c.has t && (c.tx t).live
def isAb (c : Ck) (t : Int) : Bool := c.has t && (!(c.tx t).live && decide ((c.tx t).com = 0))
def sees (c : Ck) (t b : Int) : Bool := c.has t && (c.has b && (decide (t = b) || (decide (0 < (c.tx b).com) && decide ((c.tx b).com ≤ (c.tx t).mark))))
def clashes (c : Ck) (t b : Int) : Bool := c.has t && (c.has b && (!decide (t = b) && ((c.tx b).live || decide ((c.tx t).mark < (c.tx b).com))))
def settled (c : Ck) (b : Int) : Bool := c.has b && (decide (0 < (c.tx b).com) && c.l.all (fun x => !x.live || decide ((c.tx b).com ≤ x.mark)))
def begE (c : Ck) : Int := if 4 ≤ c.cnt then 3 else 0
def begT (c : Ck) : Int := if 4 ≤ c.cnt then 0 else ((c.l.length + 1 : Nat) : Int)
def beg (c : Ck) : Ck := if 4 ≤ c.cnt then c else ⟨c.l ++ [⟨c.n, 0, true⟩], c.n⟩
def endE (c : Ck) (t : Int) : Int := if c.isLive t then 0 else 5
def comS (c : Ck) (t : Int) : Ck := if c.isLive t then ⟨c.l.set (t.toNat - 1) ⟨(c.tx t).mark, c.n + 1, false⟩, c.n + 1⟩ else c
def abS (c : Ck) (t : Int) : Ck := if c.isLive t then ⟨c.l.set (t.toNat - 1) ⟨(c.tx t).mark, (c.tx t).com, false⟩, c.n⟩ else c
def new : Ck := ⟨[], 0⟩
structure Ok (c : Ck) : Prop where
  low : ∀ x ∈ c.l, x.mark ≤ c.n ∧ x.com ≤ c.n
  fresh : ∀ x ∈ c.l, x.live = true → x.com = 0
theorem new_ok : new.Ok := ⟨fun x h => by simp [new] at h, fun x h => by simp [new] at h⟩
theorem has_iff {c : Ck} {t : Int} : c.has t = true ↔ 1 ≤ t ∧ t ≤ (c.l.length : Int) := by simp [has]
theorem tx_mem {c : Ck} {t : Int} (h : c.has t = true) : c.tx t ∈ c.l := by
  have := has_iff.1 h
  unfold tx
  rw [List.getD, List.getElem?_eq_getElem (by omega)]
  exact List.getElem_mem _
theorem live_has {c : Ck} {t : Int} (h : c.isLive t = true) : c.has t = true ∧ (c.tx t).live = true := by simpa [isLive] using h
theorem set_tx {c : Ck} {u b : Int} {x : Tx} {n : Nat} (hu : c.has u = true) (hb : c.has b = true) : (⟨c.l.set (u.toNat - 1) x, n⟩ : Ck).tx b = if b = u then x else c.tx b := by
  have h1 := has_iff.1 hu
  have h2 := has_iff.1 hb
  unfold tx
  simp only [List.getD, List.getElem?_set]
  by_cases e : b = u
  · subst e
    rw [if_pos rfl, if_pos (by omega), if_pos rfl]
    rfl
  · rw [if_neg (by omega), if_neg e]
theorem set_has {c : Ck} {u b : Int} {x : Tx} {n : Nat} : (⟨c.l.set (u.toNat - 1) x, n⟩ : Ck).has b = c.has b := by simp [has]
theorem beg_len (c : Ck) : c.beg.l.length = if 4 ≤ c.cnt then c.l.length else c.l.length + 1 := by unfold beg; split <;> simp
theorem com_len (c : Ck) (t : Int) : (c.comS t).l.length = c.l.length := by unfold comS; split <;> simp
theorem ab_len (c : Ck) (t : Int) : (c.abS t).l.length = c.l.length := by unfold abS; split <;> simp
theorem beg_tx {c : Ck} {b : Int} (hb : c.has b = true) : c.beg.tx b = c.tx b := by
  have h := has_iff.1 hb
  unfold beg
  split
  · rfl
  · unfold tx
    simp only [List.getD]
    rw [List.getElem?_append_left (by omega)]
theorem beg_has {c : Ck} {b : Int} (hb : c.has b = true) : c.beg.has b = true := by
  have h := has_iff.1 hb
  rw [has_iff, beg_len]
  split <;> omega
theorem beg_new {c : Ck} (h : ¬ 4 ≤ c.cnt) : c.beg.tx ((c.l.length + 1 : Nat) : Int) = ⟨c.n, 0, true⟩ ∧ c.beg.has ((c.l.length + 1 : Nat) : Int) = true := by
  constructor
  · unfold beg
    rw [if_neg h]
    unfold tx
    simp
  · rw [has_iff, beg_len, if_neg h]; omega
theorem beg_ok {c : Ck} (h : c.Ok) : c.beg.Ok := by
  unfold beg
  split
  · exact h
  · refine ⟨fun x hx => ?_, fun x hx => ?_⟩
    · rcases List.mem_append.1 hx with hx | hx
      · exact h.low x hx
      · simp at hx; subst hx; simp
    · rcases List.mem_append.1 hx with hx | hx
      · exact h.fresh x hx
      · simp at hx; subst hx; simp
theorem com_ok {c : Ck} (h : c.Ok) (t : Int) : (c.comS t).Ok := by
  unfold comS
  split
  · rename_i hl
    obtain ⟨h1, h2⟩ := live_has hl
    have hm := h.low _ (tx_mem h1)
    refine ⟨fun x hx => ?_, fun x hx => ?_⟩
    · rcases List.mem_or_eq_of_mem_set hx with hx | rfl
      · have := h.low x hx
        simp only; omega
      · simp only; omega
    · rcases List.mem_or_eq_of_mem_set hx with hx | rfl
      · exact h.fresh x hx
      · simp
  · exact h
theorem ab_ok {c : Ck} (h : c.Ok) (t : Int) : (c.abS t).Ok := by
  unfold abS
  split
  · rename_i hl
    obtain ⟨h1, h2⟩ := live_has hl
    have hm := h.low _ (tx_mem h1)
    refine ⟨fun x hx => ?_, fun x hx => ?_⟩
    · rcases List.mem_or_eq_of_mem_set hx with hx | rfl
      · exact h.low x hx
      · exact hm
    · rcases List.mem_or_eq_of_mem_set hx with hx | rfl
      · exact h.fresh x hx
      · simp
  · exact h
theorem com_n (c : Ck) (t : Int) : c.n ≤ (c.comS t).n := by unfold comS; split <;> simp
/-- countP where one element is put in place of another. -/
theorem countP_put (p : Tx → Bool) : ∀ (l : List Tx) (i : Nat) (x : Tx) (h : i < l.length), (l.set i x).countP p + (if p l[i] then 1 else 0) = l.countP p + (if p x then 1 else 0)
  | [], i, x, h => by simp at h
  | y :: l, 0, x, h => by
    simp only [List.set_cons_zero, List.countP_cons, List.getElem_cons_zero]
    omega
  | y :: l, i + 1, x, h => by
    have := countP_put p l i x (by simpa using h)
    simp only [List.set_cons_succ, List.countP_cons, List.getElem_cons_succ]
    omega
theorem beg_cnt {c : Ck} (h : ¬ 4 ≤ c.cnt) : c.beg.cnt = c.cnt + 1 := by
  unfold beg
  rw [if_neg h]
  simp [cnt]
theorem set_cnt {c : Ck} {t : Int} {x : Tx} {n : Nat} (h : c.isLive t = true) (hx : x.live = false) : (⟨c.l.set (t.toNat - 1) x, n⟩ : Ck).cnt + 1 = c.cnt := by
  obtain ⟨h1, h2⟩ := live_has h
  have hb := has_iff.1 h1
  have hi : t.toNat - 1 < c.l.length := by omega
  have := countP_put (·.live) c.l (t.toNat - 1) x hi
  have e : c.l[t.toNat - 1] = c.tx t := by unfold tx; rw [List.getD, List.getElem?_eq_getElem hi]; rfl
  rw [e, h2, hx] at this
  simpa [cnt] using this
theorem cnt_le (c : Ck) : c.cnt ≤ c.l.length := List.countP_le_length
/-- What t sees, from c0 on: t is there and live, its mark is as it was, and all that was there is seen as it was; what came later isn't seen. -/
structure Since (c0 c : Ck) (t : Int) : Prop where
  ok : c.Ok
  has0 : c0.has t = true
  len : c0.l.length ≤ c.l.length
  live : (c.tx t).live = true
  mark : (c.tx t).mark = (c0.tx t).mark
  top : (c0.tx t).mark ≤ c.n
  old : ∀ b, c0.has b = true → b ≠ t → (c.tx b).com = (c0.tx b).com ∨ ((c0.tx b).com = 0 ∧ (c0.tx t).mark < (c.tx b).com)
  later : ∀ b, c.has b = true → c0.has b = false → (c.tx b).com = 0 ∨ (c0.tx t).mark < (c.tx b).com
theorem Since.has {c0 c : Ck} {t : Int} (h : Since c0 c t) {b : Int} (hb : c0.has b = true) : c.has b = true := by
  have h1 := has_iff.1 hb
  have h2 := h.len
  rw [has_iff]; omega
theorem Since.refl {c : Ck} (h : c.Ok) {t : Int} (hl : c.isLive t = true) : Since c c t := by
  obtain ⟨h1, h2⟩ := live_has hl
  exact ⟨h, h1, Nat.le_refl _, h2, rfl, (h.low _ (tx_mem h1)).1, fun b _ _ => .inl rfl, fun b hb hn => by rw [hb] at hn; cases hn⟩
theorem Since.seesOld {c0 c : Ck} {t : Int} (h : Since c0 c t) {b : Int} (hb : c0.has b = true) (hne : b ≠ t) : c.sees t b = c0.sees t b := by
  have e1 := h.has hb
  have e2 := h.has h.has0
  unfold sees
  rw [e1, e2, hb, h.has0, h.mark]
  simp only [Bool.true_and]
  rw [decide_eq_false (fun e => hne e.symm)]
  simp only [Bool.false_or]
  rcases h.old b hb hne with e | ⟨e, e'⟩
  · rw [e]
  · rw [e]
    rw [decide_eq_false (show ¬ (c.tx b).com ≤ (c0.tx t).mark by omega)]
    simp
theorem Since.seesNew {c0 c : Ck} {t : Int} (h : Since c0 c t) {b : Int} (hb : c0.has b = false) : c.sees t b = false := by
  have hne : ¬ t = b := fun e => by subst e; rw [h.has0] at hb; cases hb
  unfold sees
  cases hc : c.has b with
  | false => simp
  | true =>
    rw [h.has h.has0, h.mark, decide_eq_false hne]
    simp only [Bool.true_and, Bool.false_or]
    rcases h.later b hc hb with e | e
    · rw [e]; simp
    · rw [decide_eq_false (show ¬ (c.tx b).com ≤ (c0.tx t).mark by omega)]; simp
theorem Since.isLive {c0 c : Ck} {t : Int} (h : Since c0 c t) : c.isLive t = true := by
  unfold Ck.isLive
  rw [h.has h.has0, h.live]
  rfl
theorem Since.beg {c0 c : Ck} {t : Int} (h : Since c0 c t) : Since c0 c.beg t := by
  by_cases hf : 4 ≤ c.cnt
  · have e : c.beg = c := by unfold Ck.beg; rw [if_pos hf]
    rw [e]; exact h
  · have ht := h.has h.has0
    have hn : c.beg.n = c.n := by unfold Ck.beg; split <;> rfl
    refine ⟨beg_ok h.ok, h.has0, by have := h.len; rw [beg_len]; split <;> omega, by rw [beg_tx ht]; exact h.live, by rw [beg_tx ht]; exact h.mark, by rw [hn]; exact h.top, fun b hb hne => ?_, fun b hb hnb => ?_⟩
    · rw [beg_tx (h.has hb)]
      exact h.old b hb hne
    · cases hcb : c.has b with
      | true => rw [beg_tx hcb]; exact h.later b hcb hnb
      | false =>
        have hb' := has_iff.1 hb
        rw [beg_len, if_neg hf] at hb'
        have hc' : ¬ (1 ≤ b ∧ b ≤ (c.l.length : Int)) := fun e => by rw [has_iff.2 e] at hcb; cases hcb
        have e : b = ((c.l.length + 1 : Nat) : Int) := by omega
        subst e
        rw [(beg_new hf).1]
        exact .inl rfl
theorem Since.put {c0 c : Ck} {t : Int} (h : Since c0 c t) {u : Int} (hu : c.isLive u = true) (hut : u ≠ t) {x : Tx} {n : Nat} (hx : x.com = 0 ∨ c.n < x.com) (hn : c.n ≤ n) (hok : (⟨c.l.set (u.toNat - 1) x, n⟩ : Ck).Ok) : Since c0 ⟨c.l.set (u.toNat - 1) x, n⟩ t := by
  obtain ⟨h1, h2⟩ := live_has hu
  have ht := h.has h.has0
  have hf := h.ok.fresh _ (tx_mem h1) h2
  have htop := h.top
  refine ⟨hok, h.has0, by simpa using h.len, ?_, ?_, by simp only; omega, fun b hb hne => ?_, fun b hb hnb => ?_⟩
  · rw [set_tx h1 ht, if_neg (fun e => hut e.symm)]; exact h.live
  · rw [set_tx h1 ht, if_neg (fun e => hut e.symm)]; exact h.mark
  · rw [set_tx h1 (h.has hb)]
    by_cases e : b = u
    · subst e
      rw [if_pos rfl]
      rcases h.old b hb hne with e0 | ⟨e0, e1⟩
      · rcases hx with hx | hx
        · exact .inl (by omega)
        · exact .inr ⟨by omega, by omega⟩
      · omega
    · rw [if_neg e]; exact h.old b hb hne
  · rw [set_has] at hb
    rw [set_tx h1 hb]
    by_cases e : b = u
    · rw [if_pos e]
      rcases hx with hx | hx
      · exact .inl hx
      · exact .inr (by omega)
    · rw [if_neg e]; exact h.later b hb hnb
theorem Since.com {c0 c : Ck} {t : Int} (h : Since c0 c t) {u : Int} (hut : u ≠ t) : Since c0 (c.comS u) t := by
  have hok := com_ok h.ok u
  unfold comS at hok ⊢
  split
  · rename_i hu
    rw [if_pos hu] at hok
    exact h.put hu hut (.inr (Nat.lt_succ_self _)) (Nat.le_succ _) hok
  · exact h
theorem Since.ab {c0 c : Ck} {t : Int} (h : Since c0 c t) {u : Int} (hut : u ≠ t) : Since c0 (c.abS u) t := by
  have hok := ab_ok h.ok u
  unfold abS at hok ⊢
  split
  · rename_i hu
    rw [if_pos hu] at hok
    obtain ⟨h1, h2⟩ := live_has hu
    exact h.put hu hut (.inl (show (c.tx u).com = 0 from h.ok.fresh _ (tx_mem h1) h2)) (Nat.le_refl _) hok
  · exact h
end Ck
end Go.Proofs.Ytpjjpjdamieeeaa
