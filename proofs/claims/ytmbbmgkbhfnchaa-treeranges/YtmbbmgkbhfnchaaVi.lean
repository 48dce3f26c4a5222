/- What package value's Is (with blank, normal, plain) and the reference's Is, Exact return: contracts, each for every argument. Condition: words of float64 are below 2^64, strings are of a length that Go allows. -/
import Derived.Test.YtmbbmgkbhfnchaaVw
import Derived.Deep.RegionHeld3
import Derived.Deep.QuietTactic
import Derived.BigQuiet
namespace Go.Proofs.Ytmbbmgkbhfnchaa
set_option maxRecDepth 100000
open Go.ChangeShapes Go.WideShapes Go.ChangeAt Go.RowKit
open Fl (S IR nanB normN keyN NaNw cmpK)
open Val (cmpI cmpB cmpT ltT eqT V cmpV byteOk textOk blankB oddB isB plainB)
theorem byte_at (t : ByteArray) (k : Nat) (h : k < t.size) : byteOk (t.data.toList[k]'(by rw [Val.size_data]; exact h)) = byteOk t[k] := rfl
theorem size_ne {t : ByteArray} (h : t ≠ ⟨#[]⟩) : t.size ≠ 0 := by
  intro h0
  exact h (ByteArray.ext (Array.size_eq_zero_iff.1 h0))
theorem isEmpty_size (t : ByteArray) : t.toList.isEmpty = (t.size == 0) := by
  rw [ByteArray.toList_eq, Bool.eq_iff_iff, List.isEmpty_iff, ← List.length_eq_zero_iff, Val.size_data]; simp
end Go.Proofs.Ytmbbmgkbhfnchaa
