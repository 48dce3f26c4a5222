/- What Whole and fail of a Cursor of the reference do: contracts. Conditions: the cells of the Cursor, and of the bytes that it reads, lie in memory. -/
import Derived.Test.YtdhpphbgobakhaaLd
namespace Go.Proofs.Ytdhpphbgobakhaa
set_option maxRecDepth 100000
set_option linter.unusedVariables false
open Go.ChangeShapes Go.WideShapes Go.ChangeAt Go.RowKit
open Lb
open Fl (S IR nanB normN keyN NaNw cmpK unkN ofB)
open Go.Lib (uvarint zigzag uvarint_small uvarint_big unzigzag)

theorem rfail_any (a : Nat) (g : Option Nat) (st : Option (List UInt8)) (w : World) (h : Cur w a g st) :
    Calls Try.prog 53 #[.pointer (some ⟨a, 0, none⟩)] w (Moves a g w (.tuple #[]) none) := by
  obtain ⟨⟨u0, c0⟩, u1, c1⟩ := h.cells
  obtain ⟨h1, h2, h3, h4, _⟩ := h
  go_enter Try.func53, Try.ntmps53
  go_wp2
  go_end0
  have d0 : (w.setCell ⟨a, 1, none⟩ (.bool true)).cell? ⟨a, 0, none⟩ = some u0 := by rw [World.cell?_setCell_other _ _ _ _ (Ne.symm (ne01 a))]; exact c0
  refine ⟨rfl, ⟨by simpa [World.setCell] using h1, h2, by simpa using h3, by simpa using h4, World.cell?_setCell_same _ _ _ d0, ?_⟩, only_trans (grown_set w a 1 _) (grown_set _ a 0 _)⟩
  rw [World.cell?_setCell_other _ _ _ _ (ne01 a)]
  exact World.cell?_setCell_same _ _ _ c1
end Go.Proofs.Ytdhpphbgobakhaa
