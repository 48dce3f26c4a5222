/- The program's Same and SameEdge of chapter 10 against what is zero, and consistent: contracts. Conditions: the node's rows lie in memory; words of float64 are below 2^64; strings are of a length that Go allows. -/
import Derived.Test.YtdhpphbgobakhaaZb
import Derived.Test.YtdhpphbgobakhaaZm
namespace Go.Proofs.Ytdhpphbgobakhaa
set_option maxRecDepth 100000
set_option linter.unusedVariables false
open Go.ChangeShapes Go.WideShapes Go.ChangeAt Go.RowKit
open Fl (S cmpK keyN normN)
open Val (V cmpV isB ltT)
theorem pequal_nil (A : Option Addr) (n c : Nat) (w : World) (hn : n ≤ 1000000) : Calls Try.prog 78 #[.slice A n c, .slice none 0 0] w fun e w' => e = .returned (.bool (decide (n = 0))) ∧ w = w' := by
  by_cases h : n = 0
  · subst h
    go_enter Try.func78, Try.ntmps78
    go_wp2
    go_loopw [13] (fun i wr => i = .int .i64 0 ∧ w = wr) (fun i _ => 0)
    case atStart => exact ⟨rfl, rfl⟩
    case round =>
      obtain ⟨rfl, rfl⟩ := hrel
      go_wp2
      go_ret
      exact ⟨rfl, rfl⟩
  · have hq : ((n : Int) != 0) = true := by simp; omega
    have HF := Lib.hid (decide_eq_false h)
    clear h
    go_enter Try.func78, Try.ntmps78
    go_wp2
    go_ret
    exact ⟨ret_b HF.out.symm, rfl⟩
theorem pequalf_nil (A : Option Addr) (n c : Nat) (f : Value) (w : World) (hn : n ≤ 1000000) : Calls Try.prog 79 #[.slice A n c, .slice none 0 0, f] w fun e w' => e = .returned (.bool (decide (n = 0))) ∧ w = w' := by
  by_cases h : n = 0
  · subst h
    go_enter Try.func79, Try.ntmps79
    go_wp2
    go_loopw [17] (fun i wr => i = .int .i64 0 ∧ w = wr) (fun i _ => 0)
    case atStart => exact ⟨rfl, rfl⟩
    case round =>
      obtain ⟨rfl, rfl⟩ := hrel
      go_wp2
      go_ret
      exact ⟨rfl, rfl⟩
  · have hq : ((n : Int) != 0) = true := by simp; omega
    have HF := Lib.hid (decide_eq_false h)
    clear h
    go_enter Try.func79, Try.ntmps79
    go_wp2
    go_ret
    exact ⟨ret_b HF.out.symm, rfl⟩
def zS : Ns := ⟨none, 0, none, 0⟩
theorem psame_zero (n : Nd) (s : Ns) (w : World) (hl1 : n.ls.length ≤ 1000000) (hl2 : n.ps.length ≤ 1000000) : Calls Try.prog 61 #[ndv n s, ndv zN zS] w fun e w' => e = .returned (.bool (emptyN n)) ∧ Below w.heap.size w w' := by
  have HD : Hid (emptyN n = (decide (n.ls.length = 0) && decide (n.ps.length = 0))) := rfl
  obtain ⟨ls, ps⟩ := n
  obtain ⟨A, lc, B, pc⟩ := s
  simp only at hl1 hl2 HD
  have HE := Lib.hid (fun W => pequal_nil A ls.length lc W hl1)
  have HF := Lib.hid (fun f W => pequalf_nil B ps.length pc f W hl2)
  generalize emptyN ⟨ls, ps⟩ = r at *
  cases h1 : decide (ls.length = 0) with
  | false =>
    have HR := Lib.hid (show r = false by rw [HD.out, h1]; rfl)
    rw [h1] at HE
    clear h1
    unfold zS zN
    go_enter Try.func61, Try.ntmps61
    go_wp2_with fail
    (with_reducible refine (HE.out _).mono ?_); rintro e w1 ⟨rfl, rfl⟩
    go_wp2_with fail
    go_ret
    exact ⟨ret_b HR.out.symm, two_boxes w _ _⟩
  | true =>
    have HR := Lib.hid (show r = decide (ps.length = 0) by rw [HD.out, h1]; rfl)
    rw [h1] at HE
    clear h1
    generalize decide (ps.length = 0) = q at *
    unfold zS zN
    go_enter Try.func61, Try.ntmps61
    go_wp2_with fail
    (with_reducible refine (HE.out _).mono ?_); rintro e w1 ⟨rfl, rfl⟩
    go_wp2_with fail
    (with_reducible refine (HF.out _ _).mono ?_); rintro e w1 ⟨rfl, rfl⟩
    go_wp2_with fail
    go_ret
    exact ⟨ret_b HR.out.symm, two_boxes w _ _⟩
theorem cmp_zero (f : Nat) (hf : f < 2 * S) : (cmpK (keyN f) (keyN 0) == 0) = sameB f 0 := by
  have k0 : keyN 0 = S := by decide +kernel
  by_cases h : f = 0
  · subst h; simp [cmpK, sameB]
  · have hs : sameB f 0 = false := by unfold sameB; simpa using h
    rw [hs, k0]
    have hne : keyN f ≠ S := by
      unfold keyN
      have hn : normN f ≠ 0 := by
        unfold normN; split
        · decide
        · exact h
      have hlt := Fl.normN_lt f hf
      split <;> omega
    unfold cmpK
    split
    · rfl
    · split
      · rfl
      · omega
theorem psameedge_zero (x : Eg) (hf : x.w < 2 * S) (w : World) : Calls Try.prog 62 #[egv x, egv zE] w fun e w' => e = .returned (.bool (zeroE x)) ∧ Below w.heap.size w w' := by
  obtain ⟨a, b, t, f⟩ := x
  simp only at hf
  have HD : Hid (zeroE ⟨a, b, t, f⟩ = (decide (a = 0) && decide (b = 0) && decide (t.size = 0) && sameB f 0)) := rfl
  have HC := Lib.hid (fun W => cmp_any f 0 hf (by decide) W)
  have HZ := Lib.hid (cmp_zero f hf)
  generalize zeroE ⟨a, b, t, f⟩ = r at *
  unfold zE
  by_cases h1 : a = 0
  case neg =>
    have HE := Lib.hid (show r = false by rw [HD.out, decide_eq_false h1]; rfl)
    have q1 : (a == 0) = false := by simpa using h1
    clear h1
    go_enter Try.func62, Try.ntmps62
    go_wp2
    go_ret
    exact ⟨ret_b HE.out.symm, two_boxes w _ _⟩
  by_cases h2 : b = 0
  case neg =>
    have HE := Lib.hid (show r = false by rw [HD.out, decide_eq_false h2]; simp)
    have q1 : (b == 0) = false := by simpa using h2
    clear h2
    subst h1
    go_enter Try.func62, Try.ntmps62
    go_wp2
    go_ret
    exact ⟨ret_b HE.out.symm, two_boxes w _ _⟩
  by_cases h3 : t.size = 0
  case neg =>
    have HE := Lib.hid (show r = false by rw [HD.out, decide_eq_false h3]; simp)
    have q1 : t.toList.isEmpty = false := by rw [isEmpty_dec, decide_eq_false h3]
    have q2 : (t.toList == (ByteArray.mk #[]).toList) = false := by
      rw [beq_eq_false_iff_ne]; intro e; rw [e] at q1; exact absurd q1 (by decide +kernel)
    clear h3
    subst h1
    subst h2
    go_enter Try.func62, Try.ntmps62
    go_wp2
    go_ret
    exact ⟨ret_b HE.out.symm, two_boxes w _ _⟩
  have HE := Lib.hid (show r = sameB f 0 by rw [HD.out, decide_eq_true h1, decide_eq_true h2, decide_eq_true h3]; rfl)
  have ht := empty_eq h3
  subst ht
  clear h3
  subst h1
  subst h2
  rw [HE.out, ← HZ.out]
  clear HE HZ HD
  generalize cmpK (keyN f) (keyN 0) = g at *
  go_enter Try.func62, Try.ntmps62
  go_wp2_with (go_at_call 81; (with_reducible refine (HC.out _).mono ?_); rintro e w1 ⟨rfl, rfl⟩)
  go_ret
  exact ⟨rfl, two_boxes w _ _⟩
end Go.Proofs.Ytdhpphbgobakhaa
