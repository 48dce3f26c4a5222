/- Some clocks that the laws of chapter 6 make, without memory. -/
import Derived.Test.YtpeecgieohbolaaKa
namespace Go.Proofs.Ytpeecgieohbolaa
set_option maxRecDepth 100000
set_option linter.unusedVariables false
/-- k times Begin. -/
def bg : Nat → Ck
  | 0 => Ck.new
  | k + 1 => (bg k).beg
theorem bg_begT : ∀ k, k < 11 → (bg k).begT = if k < 4 then (k : Int) + 1 else 0 := by decide
theorem bg_begE : ∀ k, k < 11 → (bg k).begE = if k < 4 then 0 else 3 := by decide
theorem bg_len : ∀ k, k < 11 → (bg k).l.length = min k 4 := by decide
theorem bg_n : ∀ k, k < 11 → (bg k).n = 0 := by decide
theorem bg_e0 : (bg 0).endE 1 = 5 := by decide
theorem bg_end : ∀ k, k < 11 → 0 < k → (bg k).endE 1 = 0 := by decide
/-- What is left when the first of them has ended. -/
theorem bg_com : ∀ k, k < 11 → 0 < k → ((bg k).comS 1).begT = ((min k 4 : Nat) : Int) + 1 ∧ ((bg k).comS 1).begE = 0 ∧ (((bg k).comS 1).beg).endE 1 = 5 ∧ (((bg k).comS 1).beg).cnt = min k 4 ∧ (((bg k).comS 1).beg).l.length = min k 4 + 1 ∧ (((bg k).comS 1).beg).n = 1 ∧ ((bg k).comS 1).l.length = min k 4 := by decide
theorem bg_ab : ∀ k, k < 11 → 0 < k → ((bg k).abS 1).begT = ((min k 4 : Nat) : Int) + 1 ∧ ((bg k).abS 1).begE = 0 ∧ (((bg k).abS 1).beg).endE 1 = 5 ∧ (((bg k).abS 1).beg).cnt = min k 4 ∧ (((bg k).abS 1).beg).l.length = min k 4 + 1 ∧ (((bg k).abS 1).beg).n = 0 ∧ ((bg k).abS 1).l.length = min k 4 := by decide
theorem no_com {c : Ck} {t : Int} (h : c.endE t = 5) : c.comS t = c ∧ c.abS t = c := by
  unfold Ck.endE at h
  unfold Ck.comS Ck.abS
  split at h
  · cases h
  · rename_i hf
    rw [if_neg hf, if_neg hf]
    exact ⟨rfl, rfl⟩
/-- b times Begin, one more that is aborted, then j times Begin. -/
def ag (b : Nat) : Nat → Ck
  | 0 => (bg b).beg.abS ((b : Int) + 1)
  | j + 1 => (ag b j).beg
theorem ag_len : ∀ b, b < 3 → ∀ j, j < 4 → (ag b j).l.length ≤ 10 := by decide
theorem ag_first : ∀ b, b < 3 → (bg b).begT = (b : Int) + 1 ∧ (bg b).begE = 0 ∧ (bg b).beg.endE ((b : Int) + 1) = 0 ∧ (bg b).l.length = b ∧ (bg b).beg.l.length = b + 1 := by decide
theorem ag_sees : ∀ b, b < 3 → ∀ j, j < 4 → ∀ u : Nat, u < 8 → u ≠ b + 1 → (ag b j).sees (u : Int) ((b : Int) + 1) = false ∧ (ag b j).clashes (u : Int) ((b : Int) + 1) = false := by decide
theorem ag_end : ∀ b, b < 3 → ∀ j, j < 4 → (ag b j).isAb ((b : Int) + 1) = true ∧ (ag b j).isLive ((b : Int) + 1) = false ∧ (ag b j).settled ((b : Int) + 1) = false := by decide
end Go.Proofs.Ytpeecgieohbolaa
