/- What the reference's Key and Cmp of chapter 1 return: contracts, each for every argument. No condition but that words are below 2^64. -/
import Derived.Test.YtdhpphbgobakhaaWalk
namespace Go.Proofs.Ytdhpphbgobakhaa
set_option maxRecDepth 100000
open Go.ChangeShapes Go.WideShapes Go.ChangeAt Go.RowKit
open Fl (S IR nanB normN keyN NaNw cmpK unkN ofB)
theorem rkey_any (x : Nat) (hx : x < 2 * S) (w : World) : Calls Try.prog 44 #[.float .f64 x] w fun e w' => e = .returned (.int .u64 (keyN x : Nat)) ∧ w = w' := by
  have hn := Fl.normN_lt x hx
  have Hk := Lib.hid (fun W => rnorm_any x W)
  by_cases h : normN x < S
  · have hb : ((normN x : Int) / 9223372036854775808 == 1) = false := by unfold S at h; simp; omega
    have Hv := Lib.hid (show bits BinOp.or IntKind.u64 (↑(normN x)) 9223372036854775808 = ((keyN x : Nat) : Int) by rw [Fl.orS _ h, keyN, if_pos h])
    clear hn hx
    go_enter Try.func44, Try.ntmps44
    go_wp2_with fail
    refine (Hk.out _).mono ?_
    rintro e w' ⟨rfl, rfl⟩
    go_wp2_with fail
    all_goals (go_ret; exact ⟨ret_u Hv.out, rfl⟩)
  · have hb : ((normN x : Int) / 9223372036854775808 == 1) = true := by unfold S at h hn; simp; omega
    have Hv := Lib.hid (show bits BinOp.xor IntKind.u64 IntKind.u64.max (↑(normN x)) = ((keyN x : Nat) : Int) by rw [Fl.xorM _ hn, keyN, if_neg h])
    clear hn hx
    go_enter Try.func44, Try.ntmps44
    go_wp2_with fail
    refine (Hk.out _).mono ?_
    rintro e w' ⟨rfl, rfl⟩
    go_wp2_with fail
    all_goals (go_ret; exact ⟨ret_u Hv.out, rfl⟩)
theorem rcmp_any (x y : Nat) (hx : x < 2 * S) (hy : y < 2 * S) (w : World) : Calls Try.prog 57 #[.float .f64 x, .float .f64 y] w fun e w' => e = .returned (.int .i64 (cmpK (keyN x) (keyN y))) ∧ w = w' := by
  have H1 := Lib.hid (fun W => rkey_any x hx W)
  have H2 := Lib.hid (fun W => rkey_any y hy W)
  clear hx hy
  generalize keyN x = a at *
  generalize keyN y = b at *
  rcases Nat.lt_trichotomy a b with h | h | h
  · have hc := Lib.hid (Fl.cmpK_lo h)
    go_enter Try.func57, Try.ntmps57
    go_wp2_with fail
    refine (H1.out _).mono ?_
    rintro e w' ⟨rfl, rfl⟩
    go_wp2_with fail
    refine (H2.out _).mono ?_
    rintro e w' ⟨rfl, rfl⟩
    go_wp2_with fail
    all_goals (go_ret; exact ⟨by rw [hc.out]; rfl, rfl⟩)
  · have hc := Lib.hid (Fl.cmpK_eq h)
    have h1 : ¬ a < b := by omega
    have h2 : ¬ b < a := by omega
    clear h
    go_enter Try.func57, Try.ntmps57
    go_wp2_with fail
    refine (H1.out _).mono ?_
    rintro e w' ⟨rfl, rfl⟩
    go_wp2_with fail
    refine (H2.out _).mono ?_
    rintro e w' ⟨rfl, rfl⟩
    go_wp2_with fail
    all_goals (go_ret; exact ⟨by rw [hc.out]; rfl, rfl⟩)
  · have hc := Lib.hid (Fl.cmpK_hi h)
    have h1 : ¬ a < b := by omega
    go_enter Try.func57, Try.ntmps57
    go_wp2_with fail
    refine (H1.out _).mono ?_
    rintro e w' ⟨rfl, rfl⟩
    go_wp2_with fail
    refine (H2.out _).mono ?_
    rintro e w' ⟨rfl, rfl⟩
    go_wp2_with fail
    all_goals (go_ret; exact ⟨by rw [hc.out]; rfl, rfl⟩)
end Go.Proofs.Ytdhpphbgobakhaa
