/- Plain facts on the bit operations that package real does to the words of float64. No condition but that a word is below 2^64. -/
import Derived.Test.YtdhpphbgobakhaaFl
import Derived.Laws.Bits64
namespace Go.Proofs.Ytdhpphbgobakhaa.Fl

theorem and_lo (b : Nat) (h : b < 2 ^ 63) : b &&& 2 ^ 63 = 0 := by
  apply Nat.eq_of_testBit_eq
  intro i
  rw [Nat.testBit_and, Nat.testBit_two_pow, Nat.zero_testBit]
  by_cases hi : 63 = i
  · subst hi; rw [Nat.testBit_lt_two_pow h]; rfl
  · simp [hi]
theorem and_hi (c : Nat) (h : c < 2 ^ 63) : (2 ^ 63 + c) &&& 2 ^ 63 = 2 ^ 63 := by
  have e1 := Nat.two_pow_add_eq_or_of_lt (i := 63) (b := c) h 1
  rw [Nat.mul_one] at e1
  apply Nat.eq_of_testBit_eq
  intro i
  rw [e1, Nat.testBit_and, Nat.testBit_or, Nat.testBit_two_pow]
  by_cases hi : 63 = i
  · simp [hi]
  · simp [hi]
theorem andS (b : Nat) (h : b < 2 * S) : bits .and .u64 (b : Int) 9223372036854775808 = if b < S then 0 else (S : Int) := by
  have e := bits_and_u64_nat b 9223372036854775808 (by unfold S at h; omega) (by decide)
  rw [show ((9223372036854775808 : Nat) : Int) = 9223372036854775808 from rfl] at e
  rw [e, show (9223372036854775808 : Nat) = 2 ^ 63 by decide]
  by_cases h1 : b < S
  · rw [if_pos h1, and_lo b (by unfold S at h1; omega)]; rfl
  · rw [if_neg h1, show b = 2 ^ 63 + (b - 2 ^ 63) by unfold S at h1; omega, and_hi _ (by unfold S at h; omega)]; rfl
theorem xorM (b : Nat) (h : b < 2 * S) : bits .xor .u64 IntKind.u64.max (b : Int) = ((2 * S - 1 - b : Nat) : Int) := by
  unfold S at h ⊢
  have : BitVec.ofInt IntKind.u64.bits IntKind.u64.max = BitVec.allOnes IntKind.u64.bits := by decide
  simp only [bits, this, BitVec.allOnes_xor, BitVec.toNat_not, BitVec.ofInt_natCast, BitVec.toNat_ofNat]
  rw [show IntKind.u64.bits = 64 from rfl, Nat.mod_eq_of_lt (by omega)]
  have g : IntKind.u64.wrap ((2 ^ 64 - 1 - b : Nat) : Int) = ((2 ^ 64 - 1 - b : Nat) : Int) := by
    simp [IntKind.wrap_u64]; omega
  exact g
theorem orS (b : Nat) (h : b < S) : bits .or .u64 (b : Int) 9223372036854775808 = ((b + S : Nat) : Int) := by
  have e := bits_or_u64_nat b 9223372036854775808 (by unfold S at h; omega) (by decide)
  rw [show ((9223372036854775808 : Nat) : Int) = 9223372036854775808 from rfl] at e
  rw [e, Nat.or_comm]
  have := Nat.two_pow_add_eq_or_of_lt (i := 63) (b := b) (by unfold S at h; omega) 1
  rw [Nat.mul_one] at this
  rw [show (9223372036854775808 : Nat) = 2 ^ 63 by decide, ← this, show (2 : Nat) ^ 63 = S by decide, Nat.add_comm]
theorem andNotS (b : Nat) (h : b < 2 * S) : bits .andNot .u64 (b : Int) 9223372036854775808 = ((b % S : Nat) : Int) := by
  have hb : BitVec.ofInt IntKind.u64.bits (b : Int) = BitVec.ofNat 64 b := by rw [BitVec.ofInt_natCast]; rfl
  have hm : ~~~ (BitVec.ofInt 64 9223372036854775808) = BitVec.ofNat 64 (2 ^ 63 - 1) := by decide
  simp only [bits]
  rw [hb]
  show IntKind.u64.wrap (((BitVec.ofNat 64 b &&& ~~~ (BitVec.ofInt 64 9223372036854775808)).toNat : Nat) : Int) = _
  rw [hm]
  show IntKind.u64.wrap (((BitVec.ofNat 64 b &&& BitVec.ofNat 64 (2 ^ 63 - 1)).toNat : Nat) : Int) = _
  rw [BitVec.toNat_and, BitVec.toNat_ofNat, BitVec.toNat_ofNat]
  rw [Nat.mod_eq_of_lt (show b < 2 ^ 64 by unfold S at h; omega), show (2 ^ 63 - 1) % 2 ^ 64 = 2 ^ 63 - 1 by decide, Nat.and_two_pow_sub_one_eq_mod, show (2 : Nat) ^ 63 = S by decide]
  have : b % S < S := Nat.mod_lt _ (by decide)
  unfold S at this ⊢
  simp [IntKind.wrap_u64]; omega

def flip (x : Nat) : Nat := if x < S then x + S else x - S
theorem neg_flip (x : Nat) (h : x < 2 * S) : Op.negFloat .f64 x = flip x := by
  unfold Op.negFloat flip
  show x ^^^ 2 ^ 63 = _
  by_cases h1 : x < S
  · rw [if_pos h1]
    have e1 := Nat.two_pow_add_eq_or_of_lt (i := 63) (b := x) (by unfold S at h1; omega) 1
    apply Nat.eq_of_testBit_eq
    intro i
    rw [show x + S = 2 ^ 63 * 1 + x by unfold S; omega, e1, Nat.mul_one]
    simp only [Nat.testBit_xor, Nat.testBit_or, Nat.testBit_two_pow]
    by_cases hi : i = 63
    · subst hi
      rw [Nat.testBit_lt_two_pow (show x < 2 ^ 63 by unfold S at h1; omega)]; simp
    · simp [Ne.symm hi]
  · rw [if_neg h1]
    have e1 := Nat.two_pow_add_eq_or_of_lt (i := 63) (b := x - S) (by unfold S at h1 h ⊢; omega) 1
    apply Nat.eq_of_testBit_eq
    intro i
    have hx : x = 2 ^ 63 * 1 + (x - S) := by unfold S at h1 ⊢; omega
    have hl : x - S < 2 ^ 63 := by unfold S at h1 h ⊢; omega
    rw [hx, e1, Nat.mul_one, show 2 ^ 63 ||| (x - S) = 2 ^ 63 ||| (x - S) from rfl]
    rw [Nat.testBit_xor, Nat.testBit_or, Nat.testBit_two_pow]
    rw [show (2 ^ 63 ||| (x - S)) - S = x - S by rw [Nat.mul_one] at e1; rw [← e1]; unfold S; omega]
    by_cases hi : i = 63
    · subst hi
      rw [Nat.testBit_lt_two_pow hl]; simp
    · simp [Ne.symm hi]
theorem flip_lt (x : Nat) (h : x < 2 * S) : flip x < 2 * S := by unfold flip; split <;> omega
theorem rung_flip (x : Nat) : rung (flip x) = rung x := by
  unfold flip rung; split
  · rw [Nat.add_mod_right]
  · rename_i h1
    rw [← Nat.add_mod_right (x - S) S, Nat.sub_add_cancel (by omega)]
theorem nanB_flip (x : Nat) : nanB (flip x) = nanB x := by
  rw [Bool.eq_iff_iff, nanB_iff, nanB_iff, rung_flip x]
theorem keyN_flip (x : Nat) (h : x < 2 * S) (hn : nanB x = false) : keyN (flip x) = 2 * S - 1 - keyN x := by
  have h2 := nanB_flip x
  rw [hn] at h2
  have e1 : normN x = x := by unfold normN; rw [if_neg (by rw [hn]; decide)]
  have e2 : normN (flip x) = flip x := by unfold normN; rw [if_neg (by rw [h2]; decide)]
  unfold keyN; rw [e1, e2]; unfold flip; split <;> split <;> omega
theorem cmpK_flip (x y : Nat) (hx : x < 2 * S) (hy : y < 2 * S) (nx : nanB x = false) (ny : nanB y = false) :
    cmpK (keyN (flip x)) (keyN (flip y)) = - cmpK (keyN x) (keyN y) := by
  rw [keyN_flip x hx nx, keyN_flip y hy ny]
  have h1 := keyN_lt x hx
  have h2 := keyN_lt y hy
  unfold cmpK
  split <;> split <;> (try split) <;> (try split) <;> omega
end Go.Proofs.Ytdhpphbgobakhaa.Fl
