/- Small functions of package redo: contracts. Conditions: the Drum lies in memory. -/
import Derived.Test.YtembonenaoineaaDk
import Derived.Test.YtembonenaoineaaGq
import Derived.Test.YtembonenaoineaaLq
import Derived.IntWalk
import Derived.BigQuiet
import Derived.Deep.QuietTactic
import Derived.Lib.MinMax
namespace Go.Proofs.Ytembonenaoineaa
set_option maxRecDepth 100000
set_option linter.unusedVariables false
open Go.ChangeShapes Go.WideShapes Go.ChangeAt Go.RowKit
open Lb (encI encIs encS In64 encI_len)

def hdV (n k z : Int) : Value := .agg #[.int .i64 n, .int .i64 k, .int .i64 z]
theorem bankSectors_any {F : Nat → Prop} {w : World} {a : Nat} {s : DS} (h : PD F w a s) :
    Calls Try.prog 57 #[.pointer (some ⟨a, 0, none⟩)] w fun e w' => e = .returned (.int .i64 (bk s.now : Nat)) ∧ w = w' := by
  have HL := Lib.hid (len_any h)
  have hf := h.ok.few
  have HR : Hid (max ((s.now.length : Int) - 2) 0 / 2 = (bk s.now : Nat)) := by simp only [Hid]; unfold bk; omega
  clear h
  by_cases h2 : s.now.length < 2
  · have hm : (s.now.length : Int) - 2 < 0 := by omega
    go_enter Try.func57, Try.ntmps57
    go_wp2_with fail
    refine HL.out.mono ?_
    rintro e w' ⟨rfl, rfl⟩
    go_wp2
    go_ret
    exact ⟨ret_i (by have := HR.out; omega), rfl⟩
  · have hm : ¬ (s.now.length : Int) - 2 < 0 := by omega
    go_enter Try.func57, Try.ntmps57
    go_wp2_with fail
    refine HL.out.mono ?_
    rintro e w' ⟨rfl, rfl⟩
    go_wp2
    go_ret
    exact ⟨ret_i (by have := HR.out; omega), rfl⟩
theorem bk_few {S : List (List UInt8)} (h : S.length ≤ 200) : bk S ≤ 99 := by unfold bk; omega
theorem bankBytes_any {F : Nat → Prop} {w : World} {a : Nat} {s : DS} (h : PD F w a s) :
    Calls Try.prog 48 #[.pointer (some ⟨a, 0, none⟩)] w fun e w' => e = .returned (.int .i64 ((bk s.now * 64 : Nat) : Int)) ∧ w = w' := by
  have HL := Lib.hid (bankSectors_any h)
  have hf := bk_few h.ok.few
  clear h
  go_enter Try.func48, Try.ntmps48
  go_wp2_with fail
  refine HL.out.mono ?_
  rintro e w' ⟨rfl, rfl⟩
  go_wp2
  go_ret
  exact ⟨ret_i (by omega), rfl⟩
theorem firstSector_any {F : Nat → Prop} {w : World} {a : Nat} {s : DS} (h : PD F w a s) (k : Nat) (hk : k ≤ 1) :
    Calls Try.prog 56 #[.pointer (some ⟨a, 0, none⟩), .int .i64 (k : Nat)] w fun e w' => e = .returned (.int .i64 (fst s.now k : Nat)) ∧ w = w' := by
  have HL := Lib.hid (bankSectors_any h)
  have hf := bk_few h.ok.few
  clear h
  have hm : k * bk s.now ≤ 99 := by rcases (show k = 0 ∨ k = 1 by omega) with rfl | rfl <;> omega
  have HR : Hid (2 + (k : Int) * (bk s.now : Nat) = (fst s.now k : Nat)) := by simp only [Hid]; unfold fst; push_cast; rfl
  have h0 : 0 ≤ (k : Int) * (bk s.now : Nat) := by exact_mod_cast Nat.zero_le _
  have h1 : (k : Int) * (bk s.now : Nat) ≤ 99 := by exact_mod_cast hm
  go_enter Try.func56, Try.ntmps56
  go_wp2_with fail
  refine HL.out.mono ?_
  rintro e w' ⟨rfl, rfl⟩
  go_wp2
  go_ret
  exact ⟨ret_i HR.out, rfl⟩
set_option maxHeartbeats 1000000 in
theorem valid_any {F : Nat → Prop} {w : World} {a : Nat} {s : DS} (h : PD F w a s) (n k z : Int) :
    Calls Try.prog 61 #[hdV n k z, .pointer (some ⟨a, 0, none⟩)] w fun e w' => e = .returned (.bool (hvB (bk s.now) n k z)) ∧ Below w.heap.size w w' := by
  unfold hdV
  have hb := (Below.refl w.heap.size w).alloc (Nat.le_refl _) (.cells #[.int .i64 n, .int .i64 k, .int .i64 z] 70)
  have HB := Lib.hid hb
  have HP := Lib.hid (h.below hb)
  clear hb h
  by_cases c1 : 1 ≤ n
  · by_cases c2 : n ≤ 1099511627776
    · by_cases c3 : k = 0
      · subst c3
        by_cases c5 : 0 ≤ z
        · by_cases c6 : z ≤ ((bk s.now * 64 : Nat) : Int)
          · have HV : Hid (hvB (bk s.now) n 0 z = true) := by show hvB _ _ _ _ = true; unfold hvB; exact decide_eq_true ⟨c1, c2, by simp, c5, c6⟩
            go_enter Try.func61, Try.ntmps61
            go_wp2_with fail
            go_quiet ((go_at_call 48; with_reducible exact quiet_eq (bankBytes_any (HP.out.drewN _))))
            go_wp2
            go_ret
            exact ⟨ret_b (by rw [HV.out]; first | done | exact decide_eq_true (by omega) | exact decide_eq_false (by omega)), below_drewN HB.out nq⟩
          · have d6 : decide (z ≤ ((bk s.now * 64 : Nat) : Int)) = false := by simpa using c6
            have HV : Hid (hvB (bk s.now) n 0 z = false) := by show hvB _ _ _ _ = false; unfold hvB; exact decide_eq_false (fun hh => by omega)
            go_enter Try.func61, Try.ntmps61
            go_wp2_with fail
            go_quiet ((go_at_call 48; with_reducible exact quiet_eq (bankBytes_any (HP.out.drewN _))))
            go_wp2
            go_ret
            exact ⟨ret_b (by rw [HV.out]; first | done | exact decide_eq_true (by omega) | exact decide_eq_false (by omega)), below_drewN HB.out nq⟩
        · have d5 : decide (0 ≤ z) = false := by simpa using c5
          have HV : Hid (hvB (bk s.now) n 0 z = false) := by show hvB _ _ _ _ = false; unfold hvB; exact decide_eq_false (fun hh => by omega)
          go_enter Try.func61, Try.ntmps61
          go_wp2_with fail
          go_quiet (fail)
          go_wp2
          go_ret
          exact ⟨ret_b (by rw [HV.out]; first | done | exact decide_eq_true (by omega) | exact decide_eq_false (by omega)), below_drewN HB.out nq⟩
      · by_cases c4 : k = 1
        · subst c4
          by_cases c5 : 0 ≤ z
          · by_cases c6 : z ≤ ((bk s.now * 64 : Nat) : Int)
            · have HV : Hid (hvB (bk s.now) n 1 z = true) := by show hvB _ _ _ _ = true; unfold hvB; exact decide_eq_true ⟨c1, c2, by simp, c5, c6⟩
              go_enter Try.func61, Try.ntmps61
              go_wp2_with fail
              go_quiet ((go_at_call 48; with_reducible exact quiet_eq (bankBytes_any (HP.out.drewN _))))
              go_wp2
              go_ret
              exact ⟨ret_b (by rw [HV.out]; first | done | exact decide_eq_true (by omega) | exact decide_eq_false (by omega)), below_drewN HB.out nq⟩
            · have d6 : decide (z ≤ ((bk s.now * 64 : Nat) : Int)) = false := by simpa using c6
              have HV : Hid (hvB (bk s.now) n 1 z = false) := by show hvB _ _ _ _ = false; unfold hvB; exact decide_eq_false (fun hh => by omega)
              go_enter Try.func61, Try.ntmps61
              go_wp2_with fail
              go_quiet ((go_at_call 48; with_reducible exact quiet_eq (bankBytes_any (HP.out.drewN _))))
              go_wp2
              go_ret
              exact ⟨ret_b (by rw [HV.out]; first | done | exact decide_eq_true (by omega) | exact decide_eq_false (by omega)), below_drewN HB.out nq⟩
          · have d5 : decide (0 ≤ z) = false := by simpa using c5
            have HV : Hid (hvB (bk s.now) n 1 z = false) := by show hvB _ _ _ _ = false; unfold hvB; exact decide_eq_false (fun hh => by omega)
            go_enter Try.func61, Try.ntmps61
            go_wp2_with fail
            go_quiet (fail)
            go_wp2
            go_ret
            exact ⟨ret_b (by rw [HV.out]; first | done | exact decide_eq_true (by omega) | exact decide_eq_false (by omega)), below_drewN HB.out nq⟩
        · have d3 : (k == 0) = false := by simpa using c3
          have d4 : (k == 1) = false := by simpa using c4
          have HV : Hid (hvB (bk s.now) n k z = false) := by show hvB _ _ _ _ = false; unfold hvB; exact decide_eq_false (fun hh => by omega)
          go_enter Try.func61, Try.ntmps61
          go_wp2_with fail
          go_quiet (fail)
          go_wp2
          go_ret
          exact ⟨ret_b (by rw [HV.out]; first | done | exact decide_eq_true (by omega) | exact decide_eq_false (by omega)), below_drewN HB.out nq⟩
    · have d2 : decide (n ≤ 1099511627776) = false := by simpa using c2
      have HV : Hid (hvB (bk s.now) n k z = false) := by show hvB _ _ _ _ = false; unfold hvB; exact decide_eq_false (fun hh => by omega)
      go_enter Try.func61, Try.ntmps61
      go_wp2_with fail
      go_quiet (fail)
      go_wp2
      go_ret
      exact ⟨ret_b (by rw [HV.out]; first | done | exact decide_eq_true (by omega) | exact decide_eq_false (by omega)), below_drewN HB.out nq⟩
  · have d1 : decide (1 ≤ n) = false := by simpa using c1
    have HV : Hid (hvB (bk s.now) n k z = false) := by show hvB _ _ _ _ = false; unfold hvB; exact decide_eq_false (fun hh => by omega)
    go_enter Try.func61, Try.ntmps61
    go_wp2_with fail
    go_quiet (fail)
    go_wp2
    go_ret
    exact ⟨ret_b (by rw [HV.out]; first | done | exact decide_eq_true (by omega) | exact decide_eq_false (by omega)), below_drewN HB.out nq⟩
end Go.Proofs.Ytembonenaoineaa
