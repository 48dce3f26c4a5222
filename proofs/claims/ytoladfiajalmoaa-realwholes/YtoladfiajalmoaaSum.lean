/- What real.Sum and the reference's Sum return for any slice of float64, whatever NaNs the machine makes on the way: one and the same word. Condition: the slice's cells lie in memory. -/
import Derived.Test.YtoladfiajalmoaaWalk
import Derived.Laws.FloatArith
import Derived.Deep.Draws
namespace Go.Proofs.Ytoladfiajalmoaa
open Go.ChangeShapes Go.WideShapes Go.ChangeAt Go.RowKit
open Fl (S IR nanB normN keyN NaNw cmpK unkN ofB)

namespace Fl
def addN (x y : Nat) : Nat := match FloatKind.f64.format.add x y with | some r => r | none => NaNw
/-- Equal words, or two NaNs. -/
def Lik (x y : Nat) : Prop := x = y ∨ (nanB x = true ∧ nanB y = true)
theorem Lik.refl (x : Nat) : Lik x x := .inl rfl
theorem Lik.norm {x y : Nat} (h : Lik x y) : normN x = normN y := by
  rcases h with h | ⟨h1, h2⟩
  · rw [h]
  · unfold normN; rw [if_pos h1, if_pos h2]
theorem add_nan (x y : Nat) (h : nanB x = true) : FloatKind.f64.format.add x y = none := by
  rw [nanB_iff] at h
  unfold Ieee.Format.add; rw [read_nan x h]; rfl
theorem Lik.add_some {x y z r : Nat} (h : Lik x y) (e : FloatKind.f64.format.add x z = some r) : Lik r (addN y z) := by
  rcases h with h | ⟨h1, h2⟩
  · subst h; unfold addN; rw [e]; exact .inl rfl
  · rw [add_nan x z h1] at e; cases e
theorem Lik.add_none {x y z r : Nat} (h : Lik x y) (e : FloatKind.f64.format.add x z = none) (hr : nanB r = true) : Lik r (addN y z) := by
  have hy : FloatKind.f64.format.add y z = none := by
    rcases h with h | ⟨h1, h2⟩
    · subst h; exact e
    · exact add_nan y z h2
  unfold addN; rw [hy]; exact .inr ⟨hr, nanB_NaNw⟩
def foldN (l : List Nat) : Nat := l.foldl addN 0
def sumN (l : List Nat) : Nat := normN (foldN l)
theorem foldN_snoc (l : List Nat) (x : Nat) : foldN (l ++ [x]) = addN (foldN l) x := by unfold foldN; rw [List.foldl_append]; rfl
theorem foldN_take (l : List Nat) (k : Nat) (h : k < l.length) : foldN (l.take (k + 1)) = addN (foldN (l.take k)) l[k] := by
  rw [List.take_succ_eq_append_getElem h, foldN_snoc]
def nb (x y : Nat) (W : World) : Nat := (Question.nanBits .f64 x y).cut (W.tape W.drawn (.nanBits .f64 x y))
theorem nanB_nb (x y : Nat) (W : World) : nanB (nb x y W) = true := by
  rw [nanB_iff]
  unfold nb Question.cut
  simp only
  generalize W.tape W.drawn (.nanBits .f64 x y) = t
  unfold IR rung S
  have : (2 : Nat) ^ 52 - 1 = 4503599627370495 := by decide
  rw [this]
  have : (2 : Nat) ^ 63 = 9223372036854775808 := by decide
  rw [this]
  have h1 := Nat.mod_lt (t / 2) (show 4503599627370495 > 0 by decide)
  generalize t / 2 % 4503599627370495 = q at *
  rcases Nat.mod_two_eq_zero_or_one t with h | h <;> rw [h] <;> omega
end Fl
theorem add_run_none {P : Program} (t : TypeId) (x y : Nat) (h : FloatKind.f64.format.add x y = none) (w : World) :
    (binOp .add t (.float .f64 x) (.float .f64 y)).run P w = .ok (.float .f64 (Fl.nb x y w)) w.drew := by
  simp [binOp, Op.floatArith, h, Question.forced]; rfl

/-- The cells of a slice of float64 hold the words l. -/
def FRow (w : World) (A : Option Addr) (l : List Nat) : Prop := ∀ k (h : k < l.length), ∃ ad, A = some ad ∧ w.cell? (ad.add k) = some (.float .f64 l[k])
def Drawn (w w' : World) : Prop := ∃ m, w' = w.drewN m
def Lk (v : Value) (g : Nat) : Prop := ∃ f, v = .float .f64 f ∧ Fl.Lik f g

set_option maxHeartbeats 400000 in
theorem sum_any (A : Option Addr) (l : List Nat) (c : Nat) (w : World) (hr : FRow w A l) (hl : l.length ≤ 1000) :
    Calls Try.prog 15 #[.slice A l.length c] w fun e w' => e = .returned (.float .f64 (Fl.sumN l)) ∧ Drawn w w' := by
  have HR := Lib.hid hr
  clear hr
  go_enter Try.func15, Try.ntmps15
  go_wp2
  go_loopw [3, 8] (fun s i w1 => ∃ k : Nat, k ≤ l.length ∧ i = .int .i64 k ∧ Lk s (Fl.foldN (l.take k)) ∧ Drawn w w1) (fun _ i _ => l.length - (intOf i).toNat)
  case atStart => exact ⟨0, Nat.zero_le _, rfl, ⟨0, rfl, Fl.Lik.refl _⟩, 0, rfl⟩
  case round =>
    obtain ⟨k, hk, rfl, ⟨f, rfl, hf⟩, m, rfl⟩ := hrel
    have Hf := Lib.hid hf
    clear hf
    by_cases hlt : k < l.length
    · obtain ⟨ad, rfl, hc⟩ := HR.out k hlt
      have HS := Lib.hid (Fl.foldN_take l k hlt)
      cases ha : FloatKind.f64.format.add f l[k] with
      | some r =>
        have hrun := fun W => run_float_arith (P := Try.prog) W .add 23 .f64 f l[k] r ha
        have HL := Lib.hid (Hf.out.add_some ha)
        clear ha
        go_wp2
        exact ⟨⟨k + 1, hlt, by go_num, ⟨r, rfl, by rw [HS.out]; exact HL.out⟩, m, rfl⟩, by simp [intOf]; omega⟩
      | none =>
        have hrun := fun W => add_run_none (P := Try.prog) 23 f l[k] ha W
        have HL := Lib.hid (fun W => Hf.out.add_none ha (Fl.nanB_nb f l[k] W))
        clear ha
        go_wp2
        exact ⟨⟨k + 1, hlt, by go_num, ⟨_, rfl, by rw [HS.out]; exact HL.out _⟩, m + 1, rfl⟩, by simp [intOf]; omega⟩
    · have HN := Lib.hid (show normN f = Fl.sumN l by unfold Fl.sumN; rw [Hf.out.norm, List.take_of_length_le (by omega)])
      go_wp2_with fail
      refine (norm_any _ _).mono ?_
      rintro e w' ⟨rfl, rfl⟩
      go_wp2
      go_ret
      exact ⟨ret_f HN.out, m, rfl⟩
set_option maxHeartbeats 400000 in
theorem rsum_any (A : Option Addr) (l : List Nat) (c : Nat) (w : World) (hr : FRow w A l) (hl : l.length ≤ 1000) :
    Calls Try.prog 16 #[.slice A l.length c] w fun e w' => e = .returned (.float .f64 (Fl.sumN l)) ∧ Drawn w w' := by
  have HR := Lib.hid hr
  clear hr
  go_enter Try.func16, Try.ntmps16
  go_wp2
  go_loopw [3, 4] (fun s i w1 => ∃ k : Nat, k ≤ l.length ∧ i = .int .i64 k ∧ Lk s (Fl.foldN (l.take k)) ∧ Drawn w w1) (fun _ i _ => l.length - (intOf i).toNat)
  case atStart => exact ⟨0, Nat.zero_le _, rfl, ⟨0, rfl, Fl.Lik.refl _⟩, 0, rfl⟩
  case round =>
    obtain ⟨k, hk, rfl, ⟨f, rfl, hf⟩, m, rfl⟩ := hrel
    have Hf := Lib.hid hf
    clear hf
    by_cases hlt : k < l.length
    · obtain ⟨ad, rfl, hc⟩ := HR.out k hlt
      have HS := Lib.hid (Fl.foldN_take l k hlt)
      cases ha : FloatKind.f64.format.add f l[k] with
      | some r =>
        have hrun := fun W => run_float_arith (P := Try.prog) W .add 23 .f64 f l[k] r ha
        have HL := Lib.hid (Hf.out.add_some ha)
        clear ha
        go_wp2
        exact ⟨⟨k + 1, hlt, by go_num, ⟨r, rfl, by rw [HS.out]; exact HL.out⟩, m, rfl⟩, by simp [intOf]; omega⟩
      | none =>
        have hrun := fun W => add_run_none (P := Try.prog) 23 f l[k] ha W
        have HL := Lib.hid (fun W => Hf.out.add_none ha (Fl.nanB_nb f l[k] W))
        clear ha
        go_wp2
        exact ⟨⟨k + 1, hlt, by go_num, ⟨_, rfl, by rw [HS.out]; exact HL.out _⟩, m + 1, rfl⟩, by simp [intOf]; omega⟩
    · have HN := Lib.hid (show normN f = Fl.sumN l by unfold Fl.sumN; rw [Hf.out.norm, List.take_of_length_le (by omega)])
      go_wp2_with fail
      refine (rnorm_any _ _).mono ?_
      rintro e w' ⟨rfl, rfl⟩
      go_wp2
      go_ret
      exact ⟨ret_f HN.out, m, rfl⟩
end Go.Proofs.Ytoladfiajalmoaa
