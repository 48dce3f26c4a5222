/- Plain facts: sixteen hexadecimal digits stand in the order of their numbers; the order of keys is the order of numbers. -/
import Derived.Test.YtoladfiajalmoaaDoorText
namespace Go.Proofs.YtoladfiajalmoaaDoor
open Fl (S IR nanB normN keyN NaNw cmpK unkN ofB)
theorem hexd_mono (a b : Nat) (ha : a < 16) (hb : b < 16) : hexd a < hexd b ↔ a < b := by unfold hexd; split <;> split <;> omega
theorem hexd_inj (a b : Nat) (ha : a < 16) (hb : b < 16) : hexd a = hexd b ↔ a = b := by unfold hexd; split <;> split <;> omega
theorem ofNat_lt (a b : Nat) (ha : a < 256) (hb : b < 256) : UInt8.ofNat a < UInt8.ofNat b ↔ a < b := by
  rw [UInt8.lt_iff_toNat_lt, UInt8.toNat_ofNat_of_lt' ha, UInt8.toNat_ofNat_of_lt' hb]
theorem ofNat_inj (a b : Nat) (ha : a < 256) (hb : b < 256) : UInt8.ofNat a = UInt8.ofNat b ↔ a = b := by
  rw [← UInt8.toNat_inj, UInt8.toNat_ofNat_of_lt' ha, UInt8.toNat_ofNat_of_lt' hb]
theorem mod_split (k n : Nat) : k % 16 ^ (n + 1) = (k / 16 ^ n % 16) * 16 ^ n + k % 16 ^ n := by
  rw [Nat.pow_succ, Nat.mod_mul]
  rw [Nat.mul_comm (16 ^ n)]
  omega
theorem hexL_inj (k l : Nat) : ∀ n, hexL k n = hexL l n ↔ k % 16 ^ n = l % 16 ^ n
  | 0 => by simp [hexL, Nat.mod_one]
  | n + 1 => by
    have hk : k / 16 ^ n % 16 < 16 := Nat.mod_lt _ (by decide)
    have hl : l / 16 ^ n % 16 < 16 := Nat.mod_lt _ (by decide)
    have hp : 0 < 16 ^ n := Nat.pow_pos (by decide)
    have m1 : k % 16 ^ n < 16 ^ n := Nat.mod_lt _ hp
    have m2 : l % 16 ^ n < 16 ^ n := Nat.mod_lt _ hp
    simp only [hexL, List.cons.injEq]
    rw [ofNat_inj _ _ (hexd_lt _ hk) (hexd_lt _ hl), hexd_inj _ _ hk hl, hexL_inj k l n, mod_split k n, mod_split l n]
    generalize k / 16 ^ n % 16 = a at *
    generalize l / 16 ^ n % 16 = b at *
    generalize k % 16 ^ n = c at *
    generalize l % 16 ^ n = d at *
    generalize 16 ^ n = p at *
    constructor
    · rintro ⟨rfl, rfl⟩; rfl
    · intro h
      rcases Nat.lt_trichotomy a b with g | g | g
      · exfalso
        have : (a + 1) * p ≤ b * p := Nat.mul_le_mul_right _ g
        rw [Nat.add_mul] at this; omega
      · subst g; exact ⟨rfl, by omega⟩
      · exfalso
        have : (b + 1) * p ≤ a * p := Nat.mul_le_mul_right _ g
        rw [Nat.add_mul] at this; omega
theorem hexL_less (k l : Nat) : ∀ n, Op.bytesLess (hexL k n) (hexL l n) = decide (k % 16 ^ n < l % 16 ^ n)
  | 0 => by simp [hexL, Nat.mod_one, Op.bytesLess]
  | n + 1 => by
    have hk : k / 16 ^ n % 16 < 16 := Nat.mod_lt _ (by decide)
    have hl : l / 16 ^ n % 16 < 16 := Nat.mod_lt _ (by decide)
    have hp : 0 < 16 ^ n := Nat.pow_pos (by decide)
    have m1 : k % 16 ^ n < 16 ^ n := Nat.mod_lt _ hp
    have m2 : l % 16 ^ n < 16 ^ n := Nat.mod_lt _ hp
    have o1 := ofNat_lt _ _ (hexd_lt _ hk) (hexd_lt _ hl)
    have o2 := ofNat_inj _ _ (hexd_lt _ hk) (hexd_lt _ hl)
    rw [hexd_mono _ _ hk hl] at o1
    rw [hexd_inj _ _ hk hl] at o2
    simp only [hexL, Op.bytesLess]
    rw [hexL_less k l n, mod_split k n, mod_split l n]
    rw [Bool.eq_iff_iff]
    simp only [Bool.or_eq_true, Bool.and_eq_true, decide_eq_true_eq, beq_iff_eq, o1, o2]
    clear o1 o2
    generalize k / 16 ^ n % 16 = a at *
    generalize l / 16 ^ n % 16 = b at *
    generalize k % 16 ^ n = c at *
    generalize l % 16 ^ n = d at *
    generalize 16 ^ n = p at *
    rcases Nat.lt_trichotomy a b with g | g | g
    · have : (a + 1) * p ≤ b * p := Nat.mul_le_mul_right _ g
      rw [Nat.add_mul] at this
      exact ⟨fun _ => by omega, fun _ => .inl g⟩
    · subst g
      exact ⟨fun h => by rcases h with h | ⟨_, h⟩ <;> omega, fun h => .inr ⟨rfl, by omega⟩⟩
    · have : (b + 1) * p ≤ a * p := Nat.mul_le_mul_right _ g
      rw [Nat.add_mul] at this
      exact ⟨fun h => by rcases h with h | ⟨h, _⟩ <;> omega, fun h => by omega⟩
theorem hex_less (k l : Nat) (hk : k < 2 * S) (hl : l < 2 * S) : Op.bytesLess (hexL k 16) (hexL l 16) = decide (k < l) := by
  rw [hexL_less, Nat.mod_eq_of_lt (by unfold S at hk; omega), Nat.mod_eq_of_lt (by unfold S at hl; omega)]
theorem hex_inj (k l : Nat) (hk : k < 2 * S) (hl : l < 2 * S) : hexL k 16 = hexL l 16 ↔ k = l := by
  rw [hexL_inj, Nat.mod_eq_of_lt (by unfold S at hk; omega), Nat.mod_eq_of_lt (by unfold S at hl; omega)]
theorem key_srung (x : Nat) (hx : x < 2 * S) (h : nanB x = false) : (keyN x : Int) = if x < S then (S : Int) + Fl.srung x else (S : Int) - 1 + Fl.srung x := by
  have e : normN x = x := by unfold normN; rw [if_neg (by rw [h]; decide)]
  unfold keyN; rw [e]
  unfold Fl.srung Fl.sg Fl.neg Fl.rung
  split
  · rename_i h1
    rw [Nat.div_eq_of_lt h1, Nat.mod_eq_of_lt h1]; simp; omega
  · rename_i h1
    have e1 : x / S = 1 := by rw [Nat.div_eq_iff (by decide)]; omega
    have e2 : x % S = x - S := by rw [Nat.mod_eq_sub_mod (by omega), Nat.mod_eq_of_lt (by omega)]
    rw [e1, e2]; simp; omega
/-- What the language calls less stands before, in the order of keys. -/
theorem less_key (x y : Nat) (hx : x < 2 * S) (hy : y < 2 * S) (h : (FloatKind.f64.format.order x y == some .lt) = true) : keyN x < keyN y := by
  have h' := beq_iff_eq.1 h
  cases nx : nanB x
  · cases ny : nanB y
    · have hx' := (Fl.nanB_false x).1 nx
      have hy' := (Fl.nanB_false y).1 ny
      rw [Fl.order_eq x y hx' hy', Fl.cmp_def] at h'
      have hlt : Fl.srung x < Fl.srung y := by
        by_cases g : Fl.srung x < Fl.srung y
        · exact g
        · rw [if_neg g] at h'; split at h' <;> cases h'
      have k1 := key_srung x hx nx
      have k2 := key_srung y hy ny
      have s1 : x < S → 0 ≤ Fl.srung x := by
        intro g; unfold Fl.srung Fl.sg Fl.neg; rw [Nat.div_eq_of_lt g]; simp
      have s2 : ¬ y < S → Fl.srung y ≤ 0 := by
        intro g; unfold Fl.srung Fl.sg Fl.neg
        have e1 : y / S = 1 := by rw [Nat.div_eq_iff (by decide)]; omega
        rw [e1]; simp
      split at k1 <;> split at k2
      · omega
      · have := s1 ‹_›; have := s2 ‹_›; omega
      · omega
      · omega
    · rw [Fl.order_nan_right x y ((Fl.nanB_iff y).1 ny)] at h'; cases h'
  · rw [Fl.order_nan_left x y ((Fl.nanB_iff x).1 nx)] at h'; cases h'
def orN (a : Nat) : Nat := a ||| 9218868437227405313
theorem orN_lt (a : Nat) (h : a < 2 * S) : orN a < 2 * S := by
  unfold orN S at *
  exact Nat.or_lt_two_pow (n := 64) (by omega) (by decide)
theorem orN_nan (a : Nat) : nanB (orN a) = true := by
  rw [Fl.nanB_iff]
  unfold Fl.rung orN
  rw [show S = 2 ^ 63 by decide, Nat.or_mod_two_pow, show 9218868437227405313 % 2 ^ 63 = 9218868437227405313 by decide]
  have := Nat.right_le_or (n := a % 2 ^ 63) (m := 9218868437227405313)
  unfold IR; omega
theorem orN_bits (a : Nat) (h : a < 2 * S) : bits .or .u64 (a : Int) 9218868437227405313 = ((orN a : Nat) : Int) :=
  bits_or_u64_nat a 9218868437227405313 (by unfold S at h; omega) (by decide)
end Go.Proofs.YtoladfiajalmoaaDoor
