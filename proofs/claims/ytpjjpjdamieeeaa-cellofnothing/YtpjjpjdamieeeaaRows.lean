/-
  No cell of these rows narrows 'for every input' (looked for: loops, veiled, ifaces, maps, wideKeys, modest, calm, conditions, laid).
  DERIVED. THE GIVEN ROWS OF THIS SEAT. 8 by the template 'for every input the law returns true; each argument reads behind the call as it read before'; 0 by the template 'total and deterministic' (their statements: YtpjjpjdamieeeaaTotals.lean).
  GIVEN WITH THE SEED: the statements are not yours to turn. If you find one false, say at which input.
  Laid BY PROGRAM, IN A SANDBOX (cutbox-rows.mjs): the forced cells as the released guide's own fill.sh prints them over the translation a643f38437366a2f… (all of the seat's roots in one cut). By AI agents, Wed Nov 11 2026. No macro, syntax, notation, axiom, sorry.
-/
import Derived.Test.YtpjjpjdamieeeaaChecked
import GoSem.Claim
import GoSem.ClaimJoined
import GoSem.ClaimMapViews
import Derived.JoinedTies
import Derived.KernelRfl
namespace Go.Proofs.Ytpjjpjdamieeeaa
/- THE CELL 'sum', in the pinned program and in every row, IS THE sha256 OF THE DUMP (.gsa) THAT YtpjjpjdamieeeaaProg.lean LOADS. Nothing in Lean hashes anything: it is a label: what it is worth is what the hold of that sum in a sandbox is worth. -/
noncomputable def Try.pinned : Pinned := { name := "ytpjjpjdamieeeaa", sum := "a643f38437366a2f75d163d181042ffda08368bf933969e94b1e9b997da81bb5", checked := Try.checked }
namespace Rows
def none {H : Type} : Left H := { results := [], args := [] }

/-- 'ligaturelaw7.CellPlays': WHATEVER THE INPUT: true; the input reads as it did. -/
def cellPlaysSpec : ChangeSpec := { name := "cellPlays", fn := fun _ => fun
  | [d] => { results := [.lit (.bool true)], args := [d] }
  | _ => none }
def cellPlaysRow : OpenClaim := { program := "ytpjjpjdamieeeaa", sum := "a643f38437366a2f75d163d181042ffda08368bf933969e94b1e9b997da81bb5", func := "ligature/ligaturelaw7.CellPlays", spec := "cellPlays", unfollowed := true, recurses := true, apart := false }
def CellPlaysSaid : Prop := cellPlaysRow.holds Try.pinned (OpenSpec.ofChange cellPlaysSpec)

/-- ITS FALSE NEIGHBOUR: 'it returns false'. Refute it at one input. -/
def cellPlaysWrong : ChangeSpec := { name := "cellPlays", fn := fun _ => fun
  | [d] => { results := [.lit (.bool false)], args := [d] }
  | _ => none }
def CellPlaysWrongFalsely : Prop := cellPlaysRow.holds Try.pinned (OpenSpec.ofChange cellPlaysWrong)

/-- 'ligaturelaw7.CellSweeps': WHATEVER THE INPUT: true; the input reads as it did. -/
def cellSweepsSpec : ChangeSpec := { name := "cellSweeps", fn := fun _ => fun
  | [d] => { results := [.lit (.bool true)], args := [d] }
  | _ => none }
def cellSweepsRow : OpenClaim := { program := "ytpjjpjdamieeeaa", sum := "a643f38437366a2f75d163d181042ffda08368bf933969e94b1e9b997da81bb5", func := "ligature/ligaturelaw7.CellSweeps", spec := "cellSweeps", unfollowed := true, recurses := true, apart := false }
def CellSweepsSaid : Prop := cellSweepsRow.holds Try.pinned (OpenSpec.ofChange cellSweepsSpec)

/-- ITS FALSE NEIGHBOUR: 'it returns false'. Refute it at one input. -/
def cellSweepsWrong : ChangeSpec := { name := "cellSweeps", fn := fun _ => fun
  | [d] => { results := [.lit (.bool false)], args := [d] }
  | _ => none }
def CellSweepsWrongFalsely : Prop := cellSweepsRow.holds Try.pinned (OpenSpec.ofChange cellSweepsWrong)

/-- 'ligaturelaw7.CellFirst': WHATEVER THE INPUT: true; the input reads as it did. -/
def cellFirstSpec : ChangeSpec := { name := "cellFirst", fn := fun _ => fun
  | [d1, d2, d3] => { results := [.lit (.bool true)], args := [d1, d2, d3] }
  | _ => none }
def cellFirstRow : OpenClaim := { program := "ytpjjpjdamieeeaa", sum := "a643f38437366a2f75d163d181042ffda08368bf933969e94b1e9b997da81bb5", func := "ligature/ligaturelaw7.CellFirst", spec := "cellFirst", unfollowed := true, recurses := true, apart := false }
def CellFirstSaid : Prop := cellFirstRow.holds Try.pinned (OpenSpec.ofChange cellFirstSpec)

/-- ITS FALSE NEIGHBOUR: 'it returns false'. Refute it at one input. -/
def cellFirstWrong : ChangeSpec := { name := "cellFirst", fn := fun _ => fun
  | [d1, d2, d3] => { results := [.lit (.bool false)], args := [d1, d2, d3] }
  | _ => none }
def CellFirstWrongFalsely : Prop := cellFirstRow.holds Try.pinned (OpenSpec.ofChange cellFirstWrong)

/-- 'ligaturelaw7.CellTexts': WHATEVER THE INPUT: true; the input reads as it did. -/
def cellTextsSpec : ChangeSpec := { name := "cellTexts", fn := fun _ => fun
  | [d] => { results := [.lit (.bool true)], args := [d] }
  | _ => none }
def cellTextsRow : OpenClaim := { program := "ytpjjpjdamieeeaa", sum := "a643f38437366a2f75d163d181042ffda08368bf933969e94b1e9b997da81bb5", func := "ligature/ligaturelaw7.CellTexts", spec := "cellTexts", unfollowed := true, recurses := true, apart := false }
def CellTextsSaid : Prop := cellTextsRow.holds Try.pinned (OpenSpec.ofChange cellTextsSpec)

/-- ITS FALSE NEIGHBOUR: 'it returns false'. Refute it at one input. -/
def cellTextsWrong : ChangeSpec := { name := "cellTexts", fn := fun _ => fun
  | [d] => { results := [.lit (.bool false)], args := [d] }
  | _ => none }
def CellTextsWrongFalsely : Prop := cellTextsRow.holds Try.pinned (OpenSpec.ofChange cellTextsWrong)

/-- 'ligaturelaw7.CellOfNothing': WHATEVER THE INPUT: true; the input reads as it did. -/
def cellOfNothingSpec : ChangeSpec := { name := "cellOfNothing", fn := fun _ => fun
  | [d1, d2] => { results := [.lit (.bool true)], args := [d1, d2] }
  | _ => none }
def cellOfNothingRow : OpenClaim := { program := "ytpjjpjdamieeeaa", sum := "a643f38437366a2f75d163d181042ffda08368bf933969e94b1e9b997da81bb5", func := "ligature/ligaturelaw7.CellOfNothing", spec := "cellOfNothing", unfollowed := true, recurses := true, apart := false }
def CellOfNothingSaid : Prop := cellOfNothingRow.holds Try.pinned (OpenSpec.ofChange cellOfNothingSpec)

/-- ITS FALSE NEIGHBOUR: 'it returns false'. Refute it at one input. -/
def cellOfNothingWrong : ChangeSpec := { name := "cellOfNothing", fn := fun _ => fun
  | [d1, d2] => { results := [.lit (.bool false)], args := [d1, d2] }
  | _ => none }
def CellOfNothingWrongFalsely : Prop := cellOfNothingRow.holds Try.pinned (OpenSpec.ofChange cellOfNothingWrong)

/-- 'ligaturelaw7.CellMarks': WHATEVER THE INPUT: true; the input reads as it did. -/
def cellMarksSpec : ChangeSpec := { name := "cellMarks", fn := fun _ => fun
  | [d1, d2] => { results := [.lit (.bool true)], args := [d1, d2] }
  | _ => none }
def cellMarksRow : OpenClaim := { program := "ytpjjpjdamieeeaa", sum := "a643f38437366a2f75d163d181042ffda08368bf933969e94b1e9b997da81bb5", func := "ligature/ligaturelaw7.CellMarks", spec := "cellMarks", unfollowed := true, recurses := true, apart := false }
def CellMarksSaid : Prop := cellMarksRow.holds Try.pinned (OpenSpec.ofChange cellMarksSpec)

/-- ITS FALSE NEIGHBOUR: 'it returns false'. Refute it at one input. -/
def cellMarksWrong : ChangeSpec := { name := "cellMarks", fn := fun _ => fun
  | [d1, d2] => { results := [.lit (.bool false)], args := [d1, d2] }
  | _ => none }
def CellMarksWrongFalsely : Prop := cellMarksRow.holds Try.pinned (OpenSpec.ofChange cellMarksWrong)

/-- 'ligaturelaw7.CellGone': WHATEVER THE INPUT: true; the input reads as it did. -/
def cellGoneSpec : ChangeSpec := { name := "cellGone", fn := fun _ => fun
  | [d1, d2] => { results := [.lit (.bool true)], args := [d1, d2] }
  | _ => none }
def cellGoneRow : OpenClaim := { program := "ytpjjpjdamieeeaa", sum := "a643f38437366a2f75d163d181042ffda08368bf933969e94b1e9b997da81bb5", func := "ligature/ligaturelaw7.CellGone", spec := "cellGone", unfollowed := true, recurses := true, apart := false }
def CellGoneSaid : Prop := cellGoneRow.holds Try.pinned (OpenSpec.ofChange cellGoneSpec)

/-- ITS FALSE NEIGHBOUR: 'it returns false'. Refute it at one input. -/
def cellGoneWrong : ChangeSpec := { name := "cellGone", fn := fun _ => fun
  | [d1, d2] => { results := [.lit (.bool false)], args := [d1, d2] }
  | _ => none }
def CellGoneWrongFalsely : Prop := cellGoneRow.holds Try.pinned (OpenSpec.ofChange cellGoneWrong)

/-- 'ligaturelaw7.CellUndoes': WHATEVER THE INPUT: true; the input reads as it did. -/
def cellUndoesSpec : ChangeSpec := { name := "cellUndoes", fn := fun _ => fun
  | [d1, d2, d3] => { results := [.lit (.bool true)], args := [d1, d2, d3] }
  | _ => none }
def cellUndoesRow : OpenClaim := { program := "ytpjjpjdamieeeaa", sum := "a643f38437366a2f75d163d181042ffda08368bf933969e94b1e9b997da81bb5", func := "ligature/ligaturelaw7.CellUndoes", spec := "cellUndoes", unfollowed := true, recurses := true, apart := false }
def CellUndoesSaid : Prop := cellUndoesRow.holds Try.pinned (OpenSpec.ofChange cellUndoesSpec)

/-- ITS FALSE NEIGHBOUR: 'it returns false'. Refute it at one input. -/
def cellUndoesWrong : ChangeSpec := { name := "cellUndoes", fn := fun _ => fun
  | [d1, d2, d3] => { results := [.lit (.bool false)], args := [d1, d2, d3] }
  | _ => none }
def CellUndoesWrongFalsely : Prop := cellUndoesRow.holds Try.pinned (OpenSpec.ofChange cellUndoesWrong)

/- THE SECOND FORM. 'bulk': how many values and letters a reading holds, each counted each time it is reached (what is shared counts as often as it is met; a slice's spare places count too). A statement '..UptoSaid' is the law's where the arguments, and the package variables that the reading takes, are together of bulk at most 1048576: NARROWER than '..Said'. Prove '..Said' where nothing that the law and all that it calls make is longer than what came in: it says more and counts as full. Else prove '..UptoSaid'. A law counts once. -/
mutual
def uptoBulk {H : Type} : DataW H → Nat
  | .lit (.string bytes) => bytes.length + 1
  | .lit _ => 1
  | .nil => 1
  | .ptr d => uptoBulk d + 1
  | .slice elems spare => uptoBulkAll elems + uptoBulkAll spare + 1
  | .agg parts => uptoBulkAll parts + 1
  | .iface _ d => uptoBulk d + 1
  | .map entries => uptoBulkEntries entries + 1
  | .held _ => 1
def uptoBulkAll {H : Type} : List (DataW H) → Nat
  | [] => 0
  | d :: r => uptoBulk d + uptoBulkAll r
def uptoBulkEntries {H : Type} : List (Lit × DataW H) → Nat
  | [] => 0
  | x :: r => uptoBulkEntry x + uptoBulkEntries r
def uptoBulkEntry {H : Type} : Lit × DataW H → Nat
  | (.string bytes, d) => bytes.length + uptoBulk d + 1
  | (_, d) => uptoBulk d + 1
 end
def uptoSmall : (H : Type) → List (DataW H) → Bool := fun _ ds => decide (uptoBulkAll ds ≤ 1048576)
def OpenSpec.upto (s : _root_.Go.ChangeSpec) : _root_.Go.OpenSpec := { _root_.Go.OpenSpec.ofChange s with cond := some uptoSmall }

/-- 'ligaturelaw7.CellPlays', WHERE WHAT IT READS IS OF BULK AT MOST 1048576: true; the input reads as it did. -/
def cellPlaysUptoRow : OpenClaim := { program := "ytpjjpjdamieeeaa", sum := "a643f38437366a2f75d163d181042ffda08368bf933969e94b1e9b997da81bb5", func := "ligature/ligaturelaw7.CellPlays", spec := "cellPlays", unfollowed := true, recurses := true, apart := false, narrowed := true }
def CellPlaysUptoSaid : Prop := cellPlaysUptoRow.holds Try.pinned (OpenSpec.upto cellPlaysSpec)

/-- 'ligaturelaw7.CellSweeps', WHERE WHAT IT READS IS OF BULK AT MOST 1048576: true; the input reads as it did. -/
def cellSweepsUptoRow : OpenClaim := { program := "ytpjjpjdamieeeaa", sum := "a643f38437366a2f75d163d181042ffda08368bf933969e94b1e9b997da81bb5", func := "ligature/ligaturelaw7.CellSweeps", spec := "cellSweeps", unfollowed := true, recurses := true, apart := false, narrowed := true }
def CellSweepsUptoSaid : Prop := cellSweepsUptoRow.holds Try.pinned (OpenSpec.upto cellSweepsSpec)

/-- 'ligaturelaw7.CellFirst', WHERE WHAT IT READS IS OF BULK AT MOST 1048576: true; the input reads as it did. -/
def cellFirstUptoRow : OpenClaim := { program := "ytpjjpjdamieeeaa", sum := "a643f38437366a2f75d163d181042ffda08368bf933969e94b1e9b997da81bb5", func := "ligature/ligaturelaw7.CellFirst", spec := "cellFirst", unfollowed := true, recurses := true, apart := false, narrowed := true }
def CellFirstUptoSaid : Prop := cellFirstUptoRow.holds Try.pinned (OpenSpec.upto cellFirstSpec)

/-- 'ligaturelaw7.CellTexts', WHERE WHAT IT READS IS OF BULK AT MOST 1048576: true; the input reads as it did. -/
def cellTextsUptoRow : OpenClaim := { program := "ytpjjpjdamieeeaa", sum := "a643f38437366a2f75d163d181042ffda08368bf933969e94b1e9b997da81bb5", func := "ligature/ligaturelaw7.CellTexts", spec := "cellTexts", unfollowed := true, recurses := true, apart := false, narrowed := true }
def CellTextsUptoSaid : Prop := cellTextsUptoRow.holds Try.pinned (OpenSpec.upto cellTextsSpec)

/-- 'ligaturelaw7.CellOfNothing', WHERE WHAT IT READS IS OF BULK AT MOST 1048576: true; the input reads as it did. -/
def cellOfNothingUptoRow : OpenClaim := { program := "ytpjjpjdamieeeaa", sum := "a643f38437366a2f75d163d181042ffda08368bf933969e94b1e9b997da81bb5", func := "ligature/ligaturelaw7.CellOfNothing", spec := "cellOfNothing", unfollowed := true, recurses := true, apart := false, narrowed := true }
def CellOfNothingUptoSaid : Prop := cellOfNothingUptoRow.holds Try.pinned (OpenSpec.upto cellOfNothingSpec)

/-- 'ligaturelaw7.CellMarks', WHERE WHAT IT READS IS OF BULK AT MOST 1048576: true; the input reads as it did. -/
def cellMarksUptoRow : OpenClaim := { program := "ytpjjpjdamieeeaa", sum := "a643f38437366a2f75d163d181042ffda08368bf933969e94b1e9b997da81bb5", func := "ligature/ligaturelaw7.CellMarks", spec := "cellMarks", unfollowed := true, recurses := true, apart := false, narrowed := true }
def CellMarksUptoSaid : Prop := cellMarksUptoRow.holds Try.pinned (OpenSpec.upto cellMarksSpec)

/-- 'ligaturelaw7.CellGone', WHERE WHAT IT READS IS OF BULK AT MOST 1048576: true; the input reads as it did. -/
def cellGoneUptoRow : OpenClaim := { program := "ytpjjpjdamieeeaa", sum := "a643f38437366a2f75d163d181042ffda08368bf933969e94b1e9b997da81bb5", func := "ligature/ligaturelaw7.CellGone", spec := "cellGone", unfollowed := true, recurses := true, apart := false, narrowed := true }
def CellGoneUptoSaid : Prop := cellGoneUptoRow.holds Try.pinned (OpenSpec.upto cellGoneSpec)

/-- 'ligaturelaw7.CellUndoes', WHERE WHAT IT READS IS OF BULK AT MOST 1048576: true; the input reads as it did. -/
def cellUndoesUptoRow : OpenClaim := { program := "ytpjjpjdamieeeaa", sum := "a643f38437366a2f75d163d181042ffda08368bf933969e94b1e9b997da81bb5", func := "ligature/ligaturelaw7.CellUndoes", spec := "cellUndoes", unfollowed := true, recurses := true, apart := false, narrowed := true }
def CellUndoesUptoSaid : Prop := cellUndoesUptoRow.holds Try.pinned (OpenSpec.upto cellUndoesSpec)

end Rows
end Go.Proofs.Ytpjjpjdamieeeaa
