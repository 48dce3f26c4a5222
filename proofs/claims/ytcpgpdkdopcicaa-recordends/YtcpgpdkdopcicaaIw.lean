/- Plain facts: a whole number that is not 0, made a float64, is neither a NaN nor a zero. No condition. -/
import Derived.Test.YtcpgpdkdopcicaaBits
namespace Go.Proofs.Ytcpgpdkdopcicaa.Fl
open Ieee
theorem nearest_rung (neg : Bool) (m : Nat) (h0 : m ≠ 0) : ∃ r, double.nearest neg m 0 = double.word neg r ∧ 0 < r ∧ r ≤ IR := by
  unfold Format.nearest
  rw [if_neg h0]
  have hf : double.fractionBits = 52 := rfl
  have hp : double.leastPlace = -1074 := by decide
  have hb : double.binade = 2 ^ 52 := rfl
  have hi : double.infRung = IR := by decide
  simp only [hf, hp, hb, hi]
  have elast : max ((0 : Int) + ((m.log2 : Nat) : Int) - ((52 : Nat) : Int)) (-1074) = (m.log2 : Int) - 52 := by omega
  rw [elast]
  have er : ((m.log2 : Int) - 52 - -1074).toNat = m.log2 + 1022 := by omega
  rw [er]
  refine ⟨_, rfl, ?_, Nat.min_le_right _ _⟩
  have : 0 < IR := by decide
  have h2 : 0 < (m.log2 + 1022) * 2 ^ 52 := Nat.mul_pos (by omega) (by decide)
  omega
theorem rung_word' (s : Bool) (r : Nat) (h : r ≤ IR) : rung (double.word s r) = r := by
  have hs : double.signWeight = S := by decide
  have : IR < S := by decide
  unfold Format.word rung; rw [hs]; split
  · rw [Nat.add_mod_left, Nat.mod_eq_of_lt (by omega)]
  · rw [Nat.mod_eq_of_lt (by omega)]
theorem conv_ok (n : Int) (h : n ≠ 0) : FloatKind.f64.nearest n ≠ 0 ∧ normN (FloatKind.f64.nearest n) = FloatKind.f64.nearest n := by
  obtain ⟨r, e, h1, h2⟩ := nearest_rung (decide (n < 0)) n.natAbs (by omega)
  have e' : FloatKind.f64.nearest n = double.word (decide (n < 0)) r := e
  have hr := rung_word' (decide (n < 0)) r h2
  rw [e']
  constructor
  · intro hz
    rw [hz] at hr
    unfold rung at hr; simp at hr; omega
  · unfold normN
    rw [if_neg (by rw [(nanB_false _).2 (by rw [hr]; exact h2)]; decide)]
end Go.Proofs.Ytcpgpdkdopcicaa.Fl
