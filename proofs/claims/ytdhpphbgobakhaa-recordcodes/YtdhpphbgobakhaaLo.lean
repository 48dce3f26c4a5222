/- A Cursor over an argument; what a draw leaves. The openers of arguments: Mo. -/
import Derived.Test.YtdhpphbgobakhaaLd
import Derived.Test.YtdhpphbgobakhaaMo
namespace Go.Proofs.Ytdhpphbgobakhaa
set_option maxRecDepth 100000
set_option linter.unusedVariables false
open Go.ChangeShapes Go.WideShapes Go.ChangeAt Go.RowKit
/-- A Cursor of the reference over an argument. -/
theorem cur_arg {w w1 : World} {A : Option Addr} {l : List UInt8} {c : Nat} (t : TypeId) (h : BS w A l c) (hb : Below w.heap.size w w1) (hl : l.length ≤ 1000000) :
    ∃ g : Option Nat, Cur (w1.alloc (.cells #[.slice A l.length c, .bool false] t)) w1.heap.size g (some l) ∧ ∀ k, g = some k → k < w.heap.size := by
  have hs := hb.size
  by_cases hl0 : l = []
  · exact ⟨none, cur_new t none (h.below hb) (fun _ _ => .inl hl0) (by simp) hl, fun k e => by cases e⟩
  · obtain ⟨ad, rfl, hc⟩ := h.cells 0 (List.length_pos_iff.2 hl0)
    have hlt := World.block_lt_of_cell? w _ hc
    rw [add_block] at hlt
    refine ⟨some ad.block, cur_new t _ (h.below hb) (fun ad' e => .inr (by injection e with e; rw [e])) (fun e => ?_) hl, fun k e => ?_⟩
    · injection e with e; omega
    · injection e with e; omega
theorem Cur.drewN {W : World} {a : Nat} {g : Option Nat} {st : Option (List UInt8)} (h : Cur W a g st) (n : Nat) : Cur (W.drewN n) a g st := by
  obtain ⟨h1, h2, h3, h4, h5⟩ := h
  refine ⟨h1, h2, h3, h4, ?_⟩
  cases st with
  | none => exact h5
  | some l =>
    obtain ⟨A, c, k1, k2, k3, k4, k5⟩ := h5
    exact ⟨A, c, k1, k2, k3.drewN n, k4, k5⟩
end Go.Proofs.Ytdhpphbgobakhaa
