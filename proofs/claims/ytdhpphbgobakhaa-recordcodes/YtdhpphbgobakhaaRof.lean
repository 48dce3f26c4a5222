/- What real.Of and the reference's Of of chapter 1 return: contracts, each for every word below 2^64. -/
import Derived.Test.YtdhpphbgobakhaaRf
namespace Go.Proofs.Ytdhpphbgobakhaa
set_option maxRecDepth 100000
open Go.ChangeShapes Go.WideShapes Go.ChangeAt Go.RowKit
open Fl (S IR nanB normN keyN NaNw cmpK unkN ofB)
/-- What Of returns beside its bool. -/
def ofF (k : Nat) : Nat := if ofB k then unkN k else 0
theorem ofF_yes (k : Nat) (h : ofB k = true) : ofF k = unkN k := by unfold ofF; rw [if_pos h]
theorem ofF_no (k : Nat) (h : ofB k = false) : ofF k = 0 := by unfold ofF; rw [if_neg (by rw [h]; decide)]
theorem xorS (b : Nat) (h : b < 2 * S) (h2 : ¬ b < S) : bits .xor .u64 (b : Int) 9223372036854775808 = ((b - S : Nat) : Int) := by
  have e := bits_xor_u64_nat b 9223372036854775808 (by unfold S at h; omega) (by decide)
  rw [show ((9223372036854775808 : Nat) : Int) = 9223372036854775808 from rfl] at e
  have n := Fl.neg_flip b h
  unfold Op.negFloat Fl.flip at n
  rw [if_neg h2] at n
  rw [e]
  exact congrArg _ n
theorem rof_any (k : Nat) (hk : k < 2 * S) (w : World) : Calls Try.prog 54 #[.int .u64 (k : Int)] w fun e w' => e = .returned (.tuple #[.float .f64 (ofF k), .bool (ofB k)]) ∧ w = w' := by
  have hu := Fl.unkN_lt k hk
  have Hk := Lib.hid (fun W => rkey_any (unkN k) hu W)
  by_cases h : k < S
  · have hb : ((k : Int) / 9223372036854775808 == 1) = false := by unfold S at h; simp; omega
    have Hx := Lib.hid (show bits BinOp.xor IntKind.u64 IntKind.u64.max (↑k) = ((unkN k : Nat) : Int) by rw [Fl.xorM _ hk, unkN, if_pos h])
    cases ho : ofB k
    · have Ho := Lib.hid (ofF_no k ho)
      have hq : ((keyN (unkN k) : Int) != (k : Int)) = true := by
        unfold ofB at ho; have := beq_eq_false_iff_ne.1 ho; simp; omega
      clear ho hk hu
      go_enter Try.func54, Try.ntmps54
      go_wp2_with fail
      rw [Hx.out, Int.toNat_natCast]
      refine (Hk.out _).mono ?_
      rintro e w' ⟨rfl, rfl⟩
      go_wp2_with fail
      all_goals (go_ret2; exact ⟨by rw [Ho.out]; rfl, rfl⟩)
    · have Ho := Lib.hid (ofF_yes k ho)
      have hq : ((keyN (unkN k) : Int) != (k : Int)) = false := by
        unfold ofB at ho; have := beq_iff_eq.1 ho; rw [this]; simp
      clear ho hk hu
      go_enter Try.func54, Try.ntmps54
      go_wp2_with fail
      rw [Hx.out, Int.toNat_natCast]
      refine (Hk.out _).mono ?_
      rintro e w' ⟨rfl, rfl⟩
      go_wp2_with fail
      all_goals (go_ret2; exact ⟨by rw [Ho.out]; rfl, rfl⟩)
  · have hb : ((k : Int) / 9223372036854775808 == 1) = true := by unfold S at h hk; simp; omega
    have Hx := Lib.hid (show bits BinOp.xor IntKind.u64 (↑k) 9223372036854775808 = ((unkN k : Nat) : Int) by rw [xorS k hk h, unkN, if_neg h])
    cases ho : ofB k
    · have Ho := Lib.hid (ofF_no k ho)
      have hq : ((keyN (unkN k) : Int) != (k : Int)) = true := by
        unfold ofB at ho; have := beq_eq_false_iff_ne.1 ho; simp; omega
      clear ho hk hu
      go_enter Try.func54, Try.ntmps54
      go_wp2_with fail
      rw [Hx.out, Int.toNat_natCast]
      refine (Hk.out _).mono ?_
      rintro e w' ⟨rfl, rfl⟩
      go_wp2_with fail
      all_goals (go_ret2; exact ⟨by rw [Ho.out]; rfl, rfl⟩)
    · have Ho := Lib.hid (ofF_yes k ho)
      have hq : ((keyN (unkN k) : Int) != (k : Int)) = false := by
        unfold ofB at ho; have := beq_iff_eq.1 ho; rw [this]; simp
      clear ho hk hu
      go_enter Try.func54, Try.ntmps54
      go_wp2_with fail
      rw [Hx.out, Int.toNat_natCast]
      refine (Hk.out _).mono ?_
      rintro e w' ⟨rfl, rfl⟩
      go_wp2_with fail
      all_goals (go_ret2; exact ⟨by rw [Ho.out]; rfl, rfl⟩)
theorem of_any (k : Nat) (hk : k < 2 * S) (w : World) : Calls Try.prog 90 #[.int .u64 (k : Int)] w fun e w' => e = .returned (.tuple #[.float .f64 (ofF k), .bool (ofB k)]) ∧ w = w' := by
  cases ho : ofB k
  · rw [ofF_no k ho]; exact of_no k hk ho w
  · rw [ofF_yes k ho]; exact of_yes k hk ho w
end Go.Proofs.Ytdhpphbgobakhaa
