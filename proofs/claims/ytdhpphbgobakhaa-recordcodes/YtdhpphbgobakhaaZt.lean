/- The walk of the law RecordTwice of chapter 10. No condition. -/
import Derived.Test.YtdhpphbgobakhaaZo
namespace Go.Proofs.Ytdhpphbgobakhaa
set_option maxRecDepth 100000
set_option linter.unusedVariables false
open Go.ChangeShapes Go.WideShapes Go.ChangeAt Go.RowKit
open Fl (S cmpK keyN normN)
open Val (V cmpV isB ltT)
/-- Gone. -/
def tw (e : Bool) (id : Int) : Wr := ⟨e, id, true, zN, zE⟩
theorem tw_write (e : Bool) (id : Int) : writeB 20 20 (tw e id) = (decide (1 ≤ id) && decide (id ≤ 20)) := by
  have h1 : emptyN zN = true := by decide +kernel
  have h2 : edgeB zE = false := by decide +kernel
  have h3 : zeroE zE = true := by decide +kernel
  unfold writeB tw
  cases e <;> simp [h1, h2, h3]
theorem tw_may (e : Bool) (a b : Int) : mayB 20 20 [tw e a, tw e b, tw (!e) 1] = (decide (1 ≤ a) && decide (a ≤ 20) && decide (1 ≤ b) && decide (b ≤ 20) && decide (a ≠ b)) := by
  have e1 : (List.range 3).all (mayW 20 20 [tw e a, tw e b, tw (!e) 1]) = (mayW 20 20 [tw e a, tw e b, tw (!e) 1] 0 && mayW 20 20 [tw e a, tw e b, tw (!e) 1] 1 && mayW 20 20 [tw e a, tw e b, tw (!e) 1] 2) := by
    simp [List.range_succ, Bool.and_assoc]
  have m0 : mayW 20 20 [tw e a, tw e b, tw (!e) 1] 0 = (decide (1 ≤ a) && decide (a ≤ 20)) := by
    rw [← tw_write e a]; simp [mayW]
  have m1 : mayW 20 20 [tw e a, tw e b, tw (!e) 1] 1 = (decide (1 ≤ b) && decide (b ≤ 20) && decide (a ≠ b)) := by
    rw [← tw_write e b]; simp [mayW, twinB, tw]; rfl
  have m2 : mayW 20 20 [tw e a, tw e b, tw (!e) 1] 2 = true := by
    have : writeB 20 20 (tw (!e) 1) = true := by rw [tw_write]; rfl
    simp [mayW, twinB, this, List.range_succ]
    cases e <;> simp [tw]
  unfold mayB
  show (_ && (List.range 3).all _) = _
  rw [e1, m0, m1, m2]
  generalize decide (1 ≤ a) = p
  generalize decide (a ≤ 20) = q
  generalize decide (1 ≤ b) = r
  generalize decide (b ≤ 20) = s
  generalize decide (a ≠ b) = t
  cases p <;> cases q <;> cases r <;> cases s <;> cases t <;> rfl
theorem nd_zero (w : World) : NdAt w zN zS := ⟨fun k hk => absurd hk (by simp [zN]), fun k hk => absurd hk (by simp [zN])⟩
theorem ok_zero : NdOk zN := ⟨by simp [zN], by simp [zN], (fun x hx => by cases hx), (fun x hx => by cases hx)⟩
end Go.Proofs.Ytdhpphbgobakhaa
