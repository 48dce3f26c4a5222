/- Plain facts on the edges of float64 (infinities, NaNs, zeros) and their sums, and the contracts of math.Inf, math.NaN and Weight. No condition. -/
import Derived.Test.YtoladfiajalmoaaSum
import Derived.Laws.Rows
import Derived.Laws.OwnMore
import Derived.Below
namespace Go.Proofs.Ytoladfiajalmoaa
open Go.ChangeShapes Go.WideShapes Go.ChangeAt Go.RowKit
open Fl (S IR nanB normN keyN NaNw cmpK unkN ofB)
namespace Fl
theorem keyN_nan (x : Nat) (h : nanB x = true) : keyN x = NaNw + S := by
  unfold keyN normN; rw [if_pos h]; decide
theorem keyN_le (x : Nat) (hx : x < 2 * S) (h : nanB x = false) : S - 1 - IR ≤ keyN x ∧ keyN x ≤ IR + S := by
  have hr := (nanB_false x).1 h
  have e : normN x = x := by unfold normN; rw [if_neg (by rw [h]; decide)]
  unfold keyN; rw [e]
  unfold rung at hr
  have hI : IR < S := by decide
  split
  · rw [Nat.mod_eq_of_lt (by assumption)] at hr; omega
  · have : x % S = x - S := by rw [Nat.mod_eq_sub_mod (by omega), Nat.mod_eq_of_lt (by omega)]
    omega
def geB (x : Nat) : Bool := FloatKind.f64.format.order x 0 == some .gt || FloatKind.f64.format.order x 0 == some .eq
theorem geB_nan (x : Nat) (h : nanB x = true) : geB x = false := by
  rw [nanB_iff] at h; unfold geB; rw [order_nan_left x 0 h]; rfl
theorem add_nan_right (x y : Nat) (h : nanB y = true) : FloatKind.f64.format.add x y = none := by
  rw [nanB_iff] at h
  unfold Ieee.Format.add; rw [read_nan y h]; cases FloatKind.f64.format.read x <;> rfl
theorem sum_one_nan (x y : Nat) (h : nanB y = true) : sumN [x, y] = NaNw := by
  have e : foldN [x, y] = NaNw := by
    show addN (addN 0 x) y = _
    unfold addN; rw [add_nan_right _ y h]
  unfold sumN; rw [e]; unfold normN; rw [if_pos nanB_NaNw]
theorem kIR : keyN IR = IR + S := by decide +kernel
theorem kMI : keyN (flip IR) = S - 1 - IR := by decide +kernel
theorem kN1 : keyN 9221120237041090561 = NaNw + S := by decide +kernel
theorem kS0 : cmpK (keyN S) (keyN 0) = -1 := by decide +kernel
theorem gS : geB S = true := by decide +kernel
theorem sInf : sumN [IR, flip IR] = NaNw := by decide +kernel
theorem sZero : sumN [S] = 0 := by decide +kernel
end Fl
theorem inf_any (w : World) : Calls Try.prog 17 #[.int .i64 1] w fun e w' => e = .returned (.float .f64 IR) ∧ w = w' := by
  go_enter Try.func17, Try.ntmps17
  go_wp2
  all_goals (go_ret; exact ⟨rfl, rfl⟩)
theorem mnan_any (w : World) : Calls Try.prog 19 #[] w fun e w' => e = .returned (.float .f64 9221120237041090561) ∧ w = w' := by
  go_enter Try.func19, Try.ntmps19
  go_wp2
  all_goals (go_ret; exact ⟨rfl, rfl⟩)
theorem weight_any (x : Nat) (w : World) : Calls Try.prog 20 #[.float .f64 x] w fun e w' => e = .returned (.bool (Fl.geB x)) ∧ w = w' := by
  go_enter Try.func20, Try.ntmps20
  go_wp2
  all_goals (go_ret; exact ⟨rfl, rfl⟩)
theorem frow_new (w : World) (t : TypeId) (l : List Nat) (f : Array Value) (hf : f.toList = l.map (Value.float .f64)) :
    FRow (w.alloc (.cells f t)) (some ⟨w.heap.size, 0, none⟩) l := by
  intro k hk
  refine ⟨_, rfl, ?_⟩
  have e : (Addr.add ⟨w.heap.size, 0, none⟩ k) = ⟨w.heap.size, k, none⟩ := by unfold Addr.add; split <;> simp_all
  rw [e]
  have h1 : (w.alloc (.cells f t)).cell? ⟨w.heap.size, k, none⟩ = f[k]? := cell_of_row _ _ k f t (0, 0) (heap_alloc_new w _)
  rw [h1, ← Array.getElem?_toList, hf]
  simp [hk]
theorem frow_at (w : World) (t : TypeId) (b : Nat) (hb : w.heap.size = b) (l : List Nat) (f : Array Value) (hf : f.toList = l.map (Value.float .f64)) :
    FRow (w.alloc (.cells f t)) (some ⟨b, 0, none⟩) l := by subst hb; exact frow_new w t l f hf
theorem grown_drewN {a w : World} (h : Grown a w) (n : Nat) : Grown a (w.drewN n) := h
theorem below_drewN {B : Nat} {a w : World} (h : Below B a w) (n : Nat) : Below B a (w.drewN n) := ⟨h.os, h.tape, h.output, h.size, h.block⟩
end Go.Proofs.Ytoladfiajalmoaa
