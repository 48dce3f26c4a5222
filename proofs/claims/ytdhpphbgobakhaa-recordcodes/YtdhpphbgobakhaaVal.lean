/- Plain facts on property values: which are valid, how they stand to one another. No condition. -/
import Derived.Test.YtdhpphbgobakhaaBits
import Derived.Laws.Strings
import Derived.Laws.Cover1
namespace Go.Proofs.Ytdhpphbgobakhaa.Val
open Fl (S IR nanB normN keyN NaNw cmpK)
set_option linter.unusedSimpArgs false
def cmpI (a b : Int) : Int := if a < b then -1 else if b < a then 1 else 0
def cmpB (a b : Bool) : Int := if a == b then 0 else if b then -1 else 1
def ltT (s t : ByteArray) : Bool := Op.bytesLess s.toList t.toList
def eqT (s t : ByteArray) : Bool := s.toList == t.toList
def cmpT (s t : ByteArray) : Int := if ltT s t then -1 else if eqT s t then 0 else 1
theorem cmpI_lo {a b : Int} (h : a < b) : cmpI a b = -1 := by unfold cmpI; rw [if_pos h]
theorem cmpI_hi {a b : Int} (h : b < a) : cmpI a b = 1 := by unfold cmpI; rw [if_neg (by omega), if_pos h]
theorem cmpI_eq {a b : Int} (h : a = b) : cmpI a b = 0 := by unfold cmpI; rw [if_neg (by omega), if_neg (by omega)]
/-- A value of package api. -/
structure V where
  k : Int
  b : Bool
  n : Int
  f : Nat
  t : ByteArray
def cmpV (x y : V) : Int :=
  if x.k ≠ y.k then cmpI x.k y.k else if x.k = 1 then cmpB x.b y.b else if x.k = 2 then cmpI x.n y.n
  else if x.k = 3 then cmpK (keyN x.f) (keyN y.f) else if x.k = 4 then cmpT x.t y.t else 0
def byteOk (c : UInt8) : Bool := decide (32 ≤ c.toNat) && decide (c.toNat ≤ 126)
def textOk (l : List UInt8) : Bool := l.all byteOk
def blankB (x : V) : Bool := !x.b && x.n == 0 && x.f == 0 && x.t.size == 0
def oddB (x : V) : Bool := (x.k != 1 && x.b) || (x.k != 2 && x.n != 0) || (x.k != 3 && x.f != 0) || (x.k != 4 && x.t.size != 0) || normN x.f != x.f
def isB (x : V) : Bool := !oddB x && textOk x.t.data.toList && decide (0 ≤ x.k) && decide (x.k ≤ 4) && decide (x.t.size ≤ 12)
theorem textOk_take (l : List UInt8) (k : Nat) (h : k < l.length) : textOk (l.take (k + 1)) = (textOk (l.take k) && byteOk l[k]) := by
  unfold textOk; rw [List.take_succ_eq_append_getElem h, List.all_append]; simp
theorem textOk_bad (l : List UInt8) (k : Nat) (h : k < l.length) (hb : byteOk l[k] = false) : textOk l = false := by
  unfold textOk; rw [List.all_eq_false]; exact ⟨l[k], List.getElem_mem h, by rw [hb]; decide⟩
theorem textOk_nil : textOk [] = true := rfl
theorem normN_zero : normN 0 = 0 := by decide +kernel
theorem size_data (t : ByteArray) : t.data.toList.length = t.size := rfl
theorem textOk_empty {t : ByteArray} (h : t.size = 0) : textOk t.data.toList = true := by
  have : t.data.toList = [] := List.length_eq_zero_iff.1 (by rw [size_data, h])
  rw [this]; rfl
def plainB (t : ByteArray) : Bool := decide (t.size ≤ 12) && textOk t.data.toList
theorem isB0 (b : Bool) (n : Int) (f : Nat) (t : ByteArray) : isB ⟨0, b, n, f, t⟩ = blankB ⟨0, b, n, f, t⟩ := by
  unfold isB oddB blankB
  by_cases hf : f = 0
  · subst hf
    by_cases ht : t.size = 0
    · simp [bne, normN_zero, ht, textOk_empty ht]
    · simp [bne, normN_zero, beq_eq_false_iff_ne.2 ht]
  · simp [bne, beq_eq_false_iff_ne.2 hf]
theorem isB1 (b : Bool) (n : Int) (f : Nat) (t : ByteArray) : isB ⟨1, b, n, f, t⟩ = blankB ⟨1, false, n, f, t⟩ := by
  unfold isB oddB blankB
  by_cases hf : f = 0
  · subst hf
    by_cases ht : t.size = 0
    · simp [bne, normN_zero, ht, textOk_empty ht]
    · simp [bne, normN_zero, beq_eq_false_iff_ne.2 ht]
  · simp [bne, beq_eq_false_iff_ne.2 hf]
theorem isB2 (b : Bool) (n : Int) (f : Nat) (t : ByteArray) : isB ⟨2, b, n, f, t⟩ = blankB ⟨2, b, 0, f, t⟩ := by
  unfold isB oddB blankB
  by_cases hf : f = 0
  · subst hf
    by_cases ht : t.size = 0
    · simp [bne, normN_zero, ht, textOk_empty ht]
    · simp [bne, normN_zero, beq_eq_false_iff_ne.2 ht]
  · simp [bne, beq_eq_false_iff_ne.2 hf]
theorem isB3 (b : Bool) (n : Int) (f : Nat) (t : ByteArray) : isB ⟨3, b, n, f, t⟩ = (blankB ⟨3, b, n, 0, t⟩ && normN f == f) := by
  unfold isB oddB blankB
  by_cases hf : normN f = f
  · by_cases ht : t.size = 0
    · simp [bne, hf, ht, textOk_empty ht]
    · simp [bne, hf, beq_eq_false_iff_ne.2 ht]
  · simp [bne, beq_eq_false_iff_ne.2 hf]
theorem isB4 (b : Bool) (n : Int) (f : Nat) (t : ByteArray) : isB ⟨4, b, n, f, t⟩ = (blankB ⟨4, b, n, f, ⟨#[]⟩⟩ && plainB t) := by
  have hz : ((ByteArray.mk #[]).size == 0) = true := rfl
  unfold isB oddB blankB plainB
  simp only [hz]
  by_cases hf : f = 0
  · subst hf
    cases b <;> cases hn : (n == 0) <;> cases textOk t.data.toList <;> simp [bne, normN_zero, hn]
  · simp [bne, beq_eq_false_iff_ne.2 hf]
theorem isB_else (k : Int) (b : Bool) (n : Int) (f : Nat) (t : ByteArray) (h : k < 0 ∨ 4 < k) : isB ⟨k, b, n, f, t⟩ = false := by
  unfold isB
  rcases h with h | h
  · have h0 : ¬ 0 ≤ k := by omega
    simp [h0]
  · have h0 : ¬ k ≤ 4 := by omega
    simp [h0]
end Go.Proofs.Ytdhpphbgobakhaa.Val
