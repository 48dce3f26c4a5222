/- What the functions of package real, and those of the reference that the laws ask, return: contracts, each for every argument. No condition but that words are below 2^64. -/
import Derived.Test.YtdhpphbgobakhaaRows
import Derived.Test.YtdhpphbgobakhaaBits
import Derived.WalkKit
import Derived.WalkLawsBesides
import Derived.ProofKit
import Derived.OpenShut
import Derived.Laws.Externs
import Derived.Lib.Hide
namespace Go.Proofs.Ytdhpphbgobakhaa
set_option maxRecDepth 100000
open Go.ChangeShapes Go.WideShapes Go.ChangeAt Go.RowKit
open Fl (S IR nanB normN keyN NaNw cmpK unkN ofB)
@[go_sem] theorem from_run (n : Int) (w : World) : (callFunc 76 #[.int .u64 n]).run Try.prog w = .ok (.value (.float .f64 n.toNat)) w := by
  rw [run_callFunc_extern (e := Extern.MathFloatBits.float64frombits) Try.func76 (by kernel_rfl) (by kernel_rfl) (by kernel_rfl) (by kernel_rfl)]
  rfl
@[go_sem] theorem bits_run (n : Nat) (w : World) : (callFunc 71 #[.float .f64 n]).run Try.prog w = .ok (.value (.int .u64 n)) w := by
  rw [run_callFunc_extern (e := Extern.MathFloatBits.float64bits) Try.func71 (by kernel_rfl) (by kernel_rfl) (by kernel_rfl) (by kernel_rfl)]
  rfl
@[go_sem] theorem unary_negF (b : Nat) : Op.unary .neg (.float .f64 b) = pure (.float .f64 (Op.negFloat .f64 b)) := rfl
@[go_sem] theorem run_store_float {P : Program} {w : World} {a : Addr} {m : Mode} (k : FloatKind) (n : Nat) : (store a (.float k n) m).run P w = stored P w a (.float k n) m := run_store P w a _ m rfl
theorem ret_u {a b : Int} (h : a = b) : Ending.returned (.int .u64 a) = .returned (.int .u64 b) := by rw [h]
theorem ret_f {a b : Nat} (h : a = b) : Ending.returned (.float .f64 a) = .returned (.float .f64 b) := by rw [h]

theorem isNaN_any (x : Nat) (w : World) : Calls Try.prog 100 #[.float .f64 x] w fun e w' => e = .returned (.bool (nanB x)) ∧ w = w' := by
  go_enter Try.func100, Try.ntmps100
  go_wp2
  all_goals (go_ret; exact ⟨rfl, rfl⟩)
theorem norm_any (x : Nat) (w : World) : Calls Try.prog 97 #[.float .f64 x] w fun e w' => e = .returned (.float .f64 (normN x)) ∧ w = w' := by
  cases h : nanB x
  · go_enter Try.func97, Try.ntmps97
    go_wp2_with (go_at_call 100; refine (isNaN_any _ _).mono ?_; rintro e w' ⟨rfl, rfl⟩)
    all_goals (go_ret; exact ⟨by simp [normN, h], rfl⟩)
  · go_enter Try.func97, Try.ntmps97
    go_wp2_with (go_at_call 100; refine (isNaN_any _ _).mono ?_; rintro e w' ⟨rfl, rfl⟩)
    all_goals (go_ret; exact ⟨by simp [normN, h, NaNw], rfl⟩)
theorem key_any (x : Nat) (hx : x < 2 * S) (w : World) : Calls Try.prog 84 #[.float .f64 x] w fun e w' => e = .returned (.int .u64 (keyN x : Nat)) ∧ w = w' := by
  have hn := Fl.normN_lt x hx
  have ha := Fl.andS _ hn
  by_cases h : normN x < S
  · have hb : (bits BinOp.and IntKind.u64 (↑(normN x)) 9223372036854775808 != 0) = false := by rw [ha, if_pos h]; rfl
    have Hv := Lib.hid (show bits BinOp.or IntKind.u64 (↑(normN x)) 9223372036854775808 = ((keyN x : Nat) : Int) by rw [Fl.orS _ h, keyN, if_pos h])
    clear ha hn hx
    go_enter Try.func84, Try.ntmps84
    go_wp2_with (go_at_call 97; refine (norm_any _ _).mono ?_; rintro e w' ⟨rfl, rfl⟩)
    all_goals (go_ret; exact ⟨ret_u Hv.out, rfl⟩)
  · have hb : (bits BinOp.and IntKind.u64 (↑(normN x)) 9223372036854775808 != 0) = true := by rw [ha, if_neg h]; rfl
    have Hv := Lib.hid (show bits BinOp.xor IntKind.u64 IntKind.u64.max (↑(normN x)) = ((keyN x : Nat) : Int) by rw [Fl.xorM _ hn, keyN, if_neg h])
    clear ha hn hx
    go_enter Try.func84, Try.ntmps84
    go_wp2_with (go_at_call 97; refine (norm_any _ _).mono ?_; rintro e w' ⟨rfl, rfl⟩)
    all_goals (go_ret; exact ⟨ret_u Hv.out, rfl⟩)
theorem unkey_any (k : Nat) (hk : k < 2 * S) (w : World) : Calls Try.prog 98 #[.int .u64 (k : Int)] w fun e w' => e = .returned (.int .u64 (unkN k : Nat)) ∧ w = w' := by
  have ha := Fl.andS _ hk
  by_cases h : k < S
  · have hb : (bits BinOp.and IntKind.u64 (↑k) 9223372036854775808 != 0) = false := by rw [ha, if_pos h]; rfl
    have Hv := Lib.hid (show bits BinOp.xor IntKind.u64 IntKind.u64.max (↑k) = ((unkN k : Nat) : Int) by rw [Fl.xorM _ hk, unkN, if_pos h])
    clear ha hk
    go_enter Try.func98, Try.ntmps98
    go_wp2
    all_goals (go_ret; exact ⟨ret_u Hv.out, rfl⟩)
  · have hb : (bits BinOp.and IntKind.u64 (↑k) 9223372036854775808 != 0) = true := by rw [ha, if_neg h]; rfl
    have Hv := Lib.hid (show bits BinOp.andNot IntKind.u64 (↑k) 9223372036854775808 = ((unkN k : Nat) : Int) by
      rw [Fl.andNotS _ hk, unkN, if_neg h]; unfold S at hk h ⊢; omega)
    clear ha hk
    go_enter Try.func98, Try.ntmps98
    go_wp2
    all_goals (go_ret; exact ⟨ret_u Hv.out, rfl⟩)
theorem of_yes (k : Nat) (hk : k < 2 * S) (ho : ofB k = true) (w : World) : Calls Try.prog 90 #[.int .u64 (k : Int)] w fun e w' => e = .returned (.tuple #[.float .f64 (unkN k), .bool true]) ∧ w = w' := by
  have hu := Fl.unkN_lt k hk
  have hb : ((keyN (unkN k) : Int) != (k : Int)) = false := by
    unfold ofB at ho; have := beq_iff_eq.1 ho; rw [this]; simp
  clear ho
  go_enter Try.func90, Try.ntmps90
  go_wp2_with fail
  refine (unkey_any k hk _).mono ?_
  rintro e w' ⟨rfl, rfl⟩
  go_wp2_with fail
  refine (key_any _ hu _).mono ?_
  rintro e w' ⟨rfl, rfl⟩
  go_wp2_with fail
  all_goals (go_ret2; exact ⟨rfl, rfl⟩)
theorem of_no (k : Nat) (hk : k < 2 * S) (ho : ofB k = false) (w : World) : Calls Try.prog 90 #[.int .u64 (k : Int)] w fun e w' => e = .returned (.tuple #[.float .f64 0, .bool false]) ∧ w = w' := by
  have hu := Fl.unkN_lt k hk
  have hb : ((keyN (unkN k) : Int) != (k : Int)) = true := by
    unfold ofB at ho; have := beq_eq_false_iff_ne.1 ho; simp; omega
  clear ho
  go_enter Try.func90, Try.ntmps90
  go_wp2_with fail
  refine (unkey_any k hk _).mono ?_
  rintro e w' ⟨rfl, rfl⟩
  go_wp2_with fail
  refine (key_any _ hu _).mono ?_
  rintro e w' ⟨rfl, rfl⟩
  go_wp2_with fail
  all_goals (go_ret2; exact ⟨rfl, rfl⟩)
theorem isn_any (k : Int) (w : World) : Calls Try.prog 99 #[.int .u64 k] w fun e w' => e = .returned (.bool false) ∧ w = w' := by
  have hb : (k != k) = false := by simp
  go_enter Try.func99, Try.ntmps99
  go_wp2
  all_goals (go_ret; exact ⟨rfl, rfl⟩)
theorem compare_any (a b : Nat) (w : World) : Calls Try.prog 96 #[.int .u64 (a : Int), .int .u64 (b : Int)] w fun e w' => e = .returned (.int .i64 (cmpK a b)) ∧ w = w' := by
  rcases Nat.lt_trichotomy a b with h | h | h
  · have hc := Lib.hid (Fl.cmpK_lo h)
    go_enter Try.func96, Try.ntmps96
    go_wp2_with (go_at_call 99; refine (isn_any _ _).mono ?_; rintro e w' ⟨rfl, rfl⟩)
    all_goals (go_ret; exact ⟨by rw [hc.out]; rfl, rfl⟩)
  · have hc := Lib.hid (Fl.cmpK_eq h)
    have h1 : ¬ a < b := by omega
    have h2 : ¬ b < a := by omega
    clear h
    go_enter Try.func96, Try.ntmps96
    go_wp2_with (go_at_call 99; refine (isn_any _ _).mono ?_; rintro e w' ⟨rfl, rfl⟩)
    all_goals (go_ret; exact ⟨by rw [hc.out]; rfl, rfl⟩)
  · have hc := Lib.hid (Fl.cmpK_hi h)
    have h1 : ¬ a < b := by omega
    go_enter Try.func96, Try.ntmps96
    go_wp2_with (go_at_call 99; refine (isn_any _ _).mono ?_; rintro e w' ⟨rfl, rfl⟩)
    all_goals (go_ret; exact ⟨by rw [hc.out]; rfl, rfl⟩)
theorem cmp_any (x y : Nat) (hx : x < 2 * S) (hy : y < 2 * S) (w : World) : Calls Try.prog 81 #[.float .f64 x, .float .f64 y] w fun e w' => e = .returned (.int .i64 (cmpK (keyN x) (keyN y))) ∧ w = w' := by
  go_enter Try.func81, Try.ntmps81
  go_wp2_with fail
  refine (key_any _ hx _).mono ?_
  rintro e w' ⟨rfl, rfl⟩
  go_wp2_with fail
  refine (key_any _ hy _).mono ?_
  rintro e w' ⟨rfl, rfl⟩
  go_wp2_with fail
  refine (compare_any _ _ _).mono ?_
  rintro e w' ⟨rfl, rfl⟩
  go_wp2_with fail
  all_goals (go_ret; exact ⟨rfl, rfl⟩)
def sameB (x y : Nat) : Bool := x == y
theorem same_any (x y : Nat) (w : World) : Calls Try.prog 87 #[.float .f64 x, .float .f64 y] w fun e w' => e = .returned (.bool (sameB x y)) ∧ w = w' := by
  go_enter Try.func87, Try.ntmps87
  go_wp2
  all_goals (go_ret; exact ⟨congrArg (fun b => Ending.returned (.bool b)) (by unfold sameB; rw [Bool.eq_iff_iff]; simp; omega), rfl⟩)
theorem nan_any (w : World) : Calls Try.prog 89 #[] w fun e w' => e = .returned (.float .f64 NaNw) ∧ w = w' := by
  go_enter Try.func89, Try.ntmps89
  go_wp2
  all_goals (go_ret; exact ⟨rfl, rfl⟩)
theorem rnorm_any (x : Nat) (w : World) : Calls Try.prog 72 #[.float .f64 x] w fun e w' => e = .returned (.float .f64 (normN x)) ∧ w = w' := by
  cases h : nanB x
  · have Hn := Lib.hid (show normN x = x by simp [normN, h])
    unfold nanB at h
    go_enter Try.func72, Try.ntmps72
    go_wp2_with (go_at_call 89; refine (nan_any _).mono ?_; rintro e w' ⟨rfl, rfl⟩)
    all_goals (go_ret; exact ⟨by rw [Hn.out]; rfl, rfl⟩)
  · have Hn := Lib.hid (show normN x = NaNw by simp [normN, h])
    unfold nanB at h
    go_enter Try.func72, Try.ntmps72
    go_wp2_with (go_at_call 89; refine (nan_any _).mono ?_; rintro e w' ⟨rfl, rfl⟩)
    all_goals (go_ret; exact ⟨by rw [Hn.out]; rfl, rfl⟩)
theorem u64_nat {a : Int} (h : (Lit.int .u64 a).wf = true) : ∃ n : Nat, a = n ∧ n < 2 * S := by
  have h1 : 0 ≤ a ∧ a ≤ 18446744073709551615 := by simpa [Lit.wf, IntKind.min, IntKind.max, IntKind.signed, IntKind.bits] using h
  exact ⟨a.toNat, by omega, by unfold S; omega⟩
end Go.Proofs.Ytdhpphbgobakhaa
