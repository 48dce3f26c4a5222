/- What Weight of package real, and the reference's Of, Cmp and Weight return: contracts, each for every argument. No condition but that words are below 2^64. -/
import Derived.Test.YtoladfiajalmoaaDoorHex
namespace Go.Proofs.YtoladfiajalmoaaDoor
open Go.ChangeShapes Go.WideShapes Go.ChangeAt Go.RowKit
open Fl (S IR nanB normN keyN NaNw cmpK unkN ofB)
theorem below_drewN {B : Nat} {a w : World} (h : Below B a w) (n : Nat) : Below B a (w.drewN n) := ⟨h.os, h.tape, h.output, h.size, h.block⟩
/-- What Of returns beside its bool. -/
def ofF (k : Nat) : Nat := if ofB k then unkN k else 0
theorem ofF_yes (k : Nat) (h : ofB k = true) : ofF k = unkN k := by unfold ofF; rw [if_pos h]
theorem ofF_no (k : Nat) (h : ofB k = false) : ofF k = 0 := by unfold ofF; rw [if_neg (by rw [h]; decide)]
def geB (x : Nat) : Bool := FloatKind.f64.format.order x 0 == some .gt || FloatKind.f64.format.order x 0 == some .eq
theorem weight_any (x : Nat) (w : World) : Calls Tryd.prog 17 #[.float .f64 x] w fun e w' => e = .returned (.bool (geB x)) ∧ w = w' := by
  go_enter Tryd.func17, Tryd.ntmps17
  go_wp2
  all_goals (go_ret; exact ⟨rfl, rfl⟩)
theorem rweight_any (x : Nat) (w : World) : Calls Tryd.prog 18 #[.float .f64 x] w fun e w' => e = .returned (.bool (geB x)) ∧ w = w' := by
  go_enter Tryd.func18, Tryd.ntmps18
  go_wp2
  all_goals (go_ret; exact ⟨rfl, rfl⟩)
theorem rcmp_any (x y : Nat) (hx : x < 2 * S) (hy : y < 2 * S) (w : World) : Calls Tryd.prog 16 #[.float .f64 x, .float .f64 y] w fun e w' => e = .returned (.int .i64 (cmpK (keyN x) (keyN y))) ∧ w = w' := by
  have H1 := Lib.hid (fun W => rkey_any x hx W)
  have H2 := Lib.hid (fun W => rkey_any y hy W)
  clear hx hy
  generalize keyN x = a at *
  generalize keyN y = b at *
  rcases Nat.lt_trichotomy a b with h | h | h
  · have hc := Lib.hid (Fl.cmpK_lo h)
    go_enter Tryd.func16, Tryd.ntmps16
    go_wp2_with fail
    refine (H1.out _).mono ?_
    rintro e w' ⟨rfl, rfl⟩
    go_wp2_with fail
    refine (H2.out _).mono ?_
    rintro e w' ⟨rfl, rfl⟩
    go_wp2_with fail
    all_goals (go_ret; exact ⟨by rw [hc.out]; rfl, rfl⟩)
  · have hc := Lib.hid (Fl.cmpK_eq h)
    have h1 : ¬ a < b := by omega
    have h2 : ¬ b < a := by omega
    clear h
    go_enter Tryd.func16, Tryd.ntmps16
    go_wp2_with fail
    refine (H1.out _).mono ?_
    rintro e w' ⟨rfl, rfl⟩
    go_wp2_with fail
    refine (H2.out _).mono ?_
    rintro e w' ⟨rfl, rfl⟩
    go_wp2_with fail
    all_goals (go_ret; exact ⟨by rw [hc.out]; rfl, rfl⟩)
  · have hc := Lib.hid (Fl.cmpK_hi h)
    have h1 : ¬ a < b := by omega
    go_enter Tryd.func16, Tryd.ntmps16
    go_wp2_with fail
    refine (H1.out _).mono ?_
    rintro e w' ⟨rfl, rfl⟩
    go_wp2_with fail
    refine (H2.out _).mono ?_
    rintro e w' ⟨rfl, rfl⟩
    go_wp2_with fail
    all_goals (go_ret; exact ⟨by rw [hc.out]; rfl, rfl⟩)
theorem xorS (b : Nat) (h : b < 2 * S) (h2 : ¬ b < S) : bits .xor .u64 (b : Int) 9223372036854775808 = ((b - S : Nat) : Int) := by
  have e := bits_xor_u64_nat b 9223372036854775808 (by unfold S at h; omega) (by decide)
  rw [show ((9223372036854775808 : Nat) : Int) = 9223372036854775808 from rfl] at e
  have n := Fl.neg_flip b h
  unfold Op.negFloat Fl.flip at n
  rw [if_neg h2] at n
  rw [e]
  exact congrArg _ n
theorem rof_any (k : Nat) (hk : k < 2 * S) (w : World) : Calls Tryd.prog 9 #[.int .u64 (k : Int)] w fun e w' => e = .returned (.tuple #[.float .f64 (ofF k), .bool (ofB k)]) ∧ w = w' := by
  have hu := Fl.unkN_lt k hk
  have Hk := Lib.hid (fun W => rkey_any (unkN k) hu W)
  by_cases h : k < S
  · have hb : ((k : Int) / 9223372036854775808 == 1) = false := by unfold S at h; simp; omega
    have Hx := Lib.hid (show bits BinOp.xor IntKind.u64 IntKind.u64.max (↑k) = ((unkN k : Nat) : Int) by rw [Fl.xorM _ hk, unkN, if_pos h])
    cases ho : ofB k
    · have Ho := Lib.hid (ofF_no k ho)
      have hq : ((keyN (unkN k) : Int) != (k : Int)) = true := by
        unfold ofB at ho; have := beq_eq_false_iff_ne.1 ho; simp; omega
      clear ho hk hu
      go_enter Tryd.func9, Tryd.ntmps9
      go_wp2_with fail
      rw [Hx.out, Int.toNat_natCast]
      refine (Hk.out _).mono ?_
      rintro e w' ⟨rfl, rfl⟩
      go_wp2_with fail
      all_goals (go_ret2; exact ⟨by rw [Ho.out]; rfl, rfl⟩)
    · have Ho := Lib.hid (ofF_yes k ho)
      have hq : ((keyN (unkN k) : Int) != (k : Int)) = false := by
        unfold ofB at ho; have := beq_iff_eq.1 ho; rw [this]; simp
      clear ho hk hu
      go_enter Tryd.func9, Tryd.ntmps9
      go_wp2_with fail
      rw [Hx.out, Int.toNat_natCast]
      refine (Hk.out _).mono ?_
      rintro e w' ⟨rfl, rfl⟩
      go_wp2_with fail
      all_goals (go_ret2; exact ⟨by rw [Ho.out]; rfl, rfl⟩)
  · have hb : ((k : Int) / 9223372036854775808 == 1) = true := by unfold S at h hk; simp; omega
    have Hx := Lib.hid (show bits BinOp.xor IntKind.u64 (↑k) 9223372036854775808 = ((unkN k : Nat) : Int) by rw [xorS k hk h, unkN, if_neg h])
    cases ho : ofB k
    · have Ho := Lib.hid (ofF_no k ho)
      have hq : ((keyN (unkN k) : Int) != (k : Int)) = true := by
        unfold ofB at ho; have := beq_eq_false_iff_ne.1 ho; simp; omega
      clear ho hk hu
      go_enter Tryd.func9, Tryd.ntmps9
      go_wp2_with fail
      rw [Hx.out, Int.toNat_natCast]
      refine (Hk.out _).mono ?_
      rintro e w' ⟨rfl, rfl⟩
      go_wp2_with fail
      all_goals (go_ret2; exact ⟨by rw [Ho.out]; rfl, rfl⟩)
    · have Ho := Lib.hid (ofF_yes k ho)
      have hq : ((keyN (unkN k) : Int) != (k : Int)) = false := by
        unfold ofB at ho; have := beq_iff_eq.1 ho; rw [this]; simp
      clear ho hk hu
      go_enter Tryd.func9, Tryd.ntmps9
      go_wp2_with fail
      rw [Hx.out, Int.toNat_natCast]
      refine (Hk.out _).mono ?_
      rintro e w' ⟨rfl, rfl⟩
      go_wp2_with fail
      all_goals (go_ret2; exact ⟨by rw [Ho.out]; rfl, rfl⟩)
theorem of_any (k : Nat) (hk : k < 2 * S) (w : World) : Calls Tryd.prog 8 #[.int .u64 (k : Int)] w fun e w' => e = .returned (.tuple #[.float .f64 (ofF k), .bool (ofB k)]) ∧ w = w' := by
  cases ho : ofB k
  · rw [ofF_no k ho]; exact of_no k hk ho w
  · rw [ofF_yes k ho]; exact of_yes k hk ho w
end Go.Proofs.YtoladfiajalmoaaDoor
