/- What Str and Real of a Cursor of the reference do: contracts. Conditions: the cells of the Cursor, and of the bytes that it reads, lie in memory. -/
import Derived.Test.YtembonenaoineaaLf
namespace Go.Proofs.Ytembonenaoineaa
set_option maxRecDepth 100000
set_option linter.unusedVariables false
open Go.ChangeShapes Go.WideShapes Go.ChangeAt Go.RowKit
open Lb
open Fl (S IR nanB normN keyN NaNw cmpK unkN ofB)
open Go.Lib (uvarint zigzag uvarint_small uvarint_big unzigzag)

theorem rcstr_any (a : Nat) (g : Option Nat) (st : Option (List UInt8)) (w : World) (h : Cur w a g st) :
    Calls Try.prog 59 #[.pointer (some ⟨a, 0, none⟩)] w (Moves a g w (.string (bstr (resS st))) (nxtS st)) := by
  have H := Lib.hid (rcint_any a g st w h)
  clear h
  cases hn : nxtI st with
  | none =>
    rw [hn] at H
    have Hn := Lib.hid (show nxtS st = none ∧ resS st = [] by simp [nxtS, resS, hn])
    clear hn
    go_enter Try.func59, Try.ntmps59
    go_wp2_with fail
    refine H.out.mono ?_
    rintro e w1 ⟨rfl, hc1, hg1⟩
    have HC := Lib.hid hc1
    obtain ⟨h1, h2, h3, h4, k1, k2⟩ := hc1
    go_wp2_with fail
    refine (rfail_any a g _ _ HC.out).mono ?_
    rintro e w' ⟨rfl, hc, hg⟩
    go_wp2
    go_ret
    rw [Hn.out.1, Hn.out.2]
    exact ⟨rfl, hc, only_trans hg1 hg⟩
  | some l =>
    rw [hn] at H
    have Hn := Lib.hid hn
    clear hn
    obtain ⟨n, hrn⟩ : ∃ n : Int, resI st = n := ⟨_, rfl⟩
    rw [hrn] at H
    by_cases hf : 0 ≤ n ∧ n ≤ (l.length : Int)
    · obtain ⟨m, rfl⟩ : ∃ m : Nat, n = m := ⟨n.toNat, by omega⟩
      have hm : m ≤ l.length := by omega
      have HN := Lib.hid (show nxtS st = some (l.drop m) ∧ resS st = l.take m by
        have hff : fits (m : Int) l = true := by simp [fits]; omega
        unfold nxtS resS
        rw [Hn.out, hrn]
        simp [hff])
      clear hrn hf
      go_enter Try.func59, Try.ntmps59
      go_wp2_with fail
      refine H.out.mono ?_
      rintro e w1 ⟨rfl, hc1, hg1⟩
      have HC := Lib.hid hc1
      obtain ⟨h1, h2, h3, h4, A, c, k1, k2, k3, k4, k5⟩ := hc1
      have hcap := k3.cap
      have hcv := (k3.take m).conv m (by simp; omega)
      have Hst := Lib.hid (cur_step HC.out k3 k4 hm k5)
      have hsl := slice_from A l.length c m hm
      have hst := slice_to A l.length c m (by omega)
      clear k3 k4
      go_wp2_with fail
      go_ret
      rw [HN.out.1, HN.out.2]
      exact ⟨rfl, Hst.out, only_trans hg1 (grown_set _ _ _ _)⟩
    · have HN := Lib.hid (show nxtS st = none ∧ resS st = [] by
        have hff : fits n l = false := by simp [fits]; omega
        unfold nxtS resS
        rw [Hn.out, hrn]
        simp [hff])
      clear hrn
      have hf2 : n < 0 ∨ (0 ≤ n ∧ (l.length : Int) < n) := by omega
      clear hf
      rcases hf2 with hf2 | ⟨hf2, hf3⟩
      all_goals
        go_enter Try.func59, Try.ntmps59
        go_wp2_with fail
        refine H.out.mono ?_
        rintro e w1 ⟨rfl, hc1, hg1⟩
        have HC := Lib.hid hc1
        obtain ⟨h1, h2, h3, h4, A, c, k1, k2, k3, k4, k5⟩ := hc1
        clear k3 k4
        go_wp2_with fail
        refine (rfail_any a g _ _ HC.out).mono ?_
        rintro e w' ⟨rfl, hc, hg⟩
        go_wp2
        go_ret
        rw [HN.out.1, HN.out.2]
        exact ⟨rfl, hc, only_trans hg1 hg⟩
end Go.Proofs.Ytembonenaoineaa
