/-
  No cell of these rows narrows 'for every input' (looked for: loops, veiled, ifaces, maps, wideKeys, modest, calm, conditions, laid).
  DERIVED. THE GIVEN ROWS OF THIS SEAT. 6 by the template 'for every input the law returns true; each argument reads behind the call as it read before'; 0 by the template 'total and deterministic' (their statements: YtpeecgieohbolaaTotals.lean).
  GIVEN WITH THE SEED: the statements are not yours to turn. If you find one false, say at which input.
  Laid BY PROGRAM, IN A SANDBOX (cutbox-rows.mjs): the forced cells as the released guide's own fill.sh prints them over the translation 6b1df84e2337419e… (all of the seat's roots in one cut). By AI agents, Wed Nov 11 2026. No macro, syntax, notation, axiom, sorry.
-/
import Derived.Test.YtpeecgieohbolaaChecked
import GoSem.Claim
import GoSem.ClaimJoined
import GoSem.ClaimMapViews
import Derived.JoinedTies
import Derived.KernelRfl
namespace Go.Proofs.Ytpeecgieohbolaa
/- THE CELL 'sum', in the pinned program and in every row, IS THE sha256 OF THE DUMP (.gsa) THAT YtpeecgieohbolaaProg.lean LOADS. Nothing in Lean hashes anything: it is a label: what it is worth is what the hold of that sum in a sandbox is worth. -/
noncomputable def Try.pinned : Pinned := { name := "ytpeecgieohbolaa", sum := "6b1df84e2337419e4ac105dd4f0be1acd8638a8d017eb0b036e5fc3d34fd73b3", checked := Try.checked }
namespace Rows
def none {H : Type} : Left H := { results := [], args := [] }

/-- 'ligaturelaw6.ClockPlays': WHATEVER THE INPUT: true; the input reads as it did. -/
def clockPlaysSpec : ChangeSpec := { name := "clockPlays", fn := fun _ => fun
  | [d] => { results := [.lit (.bool true)], args := [d] }
  | _ => none }
def clockPlaysRow : OpenClaim := { program := "ytpeecgieohbolaa", sum := "6b1df84e2337419e4ac105dd4f0be1acd8638a8d017eb0b036e5fc3d34fd73b3", func := "ligature/ligaturelaw6.ClockPlays", spec := "clockPlays", unfollowed := true, recurses := true, apart := false }
def ClockPlaysSaid : Prop := clockPlaysRow.holds Try.pinned (OpenSpec.ofChange clockPlaysSpec)

/-- ITS FALSE NEIGHBOUR: 'it returns false'. Refute it at one input. -/
def clockPlaysWrong : ChangeSpec := { name := "clockPlays", fn := fun _ => fun
  | [d] => { results := [.lit (.bool false)], args := [d] }
  | _ => none }
def ClockPlaysWrongFalsely : Prop := clockPlaysRow.holds Try.pinned (OpenSpec.ofChange clockPlaysWrong)

/-- 'ligaturelaw6.ClockStays': WHATEVER THE INPUT: true; the input reads as it did. -/
def clockStaysSpec : ChangeSpec := { name := "clockStays", fn := fun _ => fun
  | [d1, d2] => { results := [.lit (.bool true)], args := [d1, d2] }
  | _ => none }
def clockStaysRow : OpenClaim := { program := "ytpeecgieohbolaa", sum := "6b1df84e2337419e4ac105dd4f0be1acd8638a8d017eb0b036e5fc3d34fd73b3", func := "ligature/ligaturelaw6.ClockStays", spec := "clockStays", unfollowed := true, recurses := true, apart := false }
def ClockStaysSaid : Prop := clockStaysRow.holds Try.pinned (OpenSpec.ofChange clockStaysSpec)

/-- ITS FALSE NEIGHBOUR: 'it returns false'. Refute it at one input. -/
def clockStaysWrong : ChangeSpec := { name := "clockStays", fn := fun _ => fun
  | [d1, d2] => { results := [.lit (.bool false)], args := [d1, d2] }
  | _ => none }
def ClockStaysWrongFalsely : Prop := clockStaysRow.holds Try.pinned (OpenSpec.ofChange clockStaysWrong)

/-- 'ligaturelaw6.ClockFull': WHATEVER THE INPUT: true; the input reads as it did. -/
def clockFullSpec : ChangeSpec := { name := "clockFull", fn := fun _ => fun
  | [d1, d2] => { results := [.lit (.bool true)], args := [d1, d2] }
  | _ => none }
def clockFullRow : OpenClaim := { program := "ytpeecgieohbolaa", sum := "6b1df84e2337419e4ac105dd4f0be1acd8638a8d017eb0b036e5fc3d34fd73b3", func := "ligature/ligaturelaw6.ClockFull", spec := "clockFull", unfollowed := true, recurses := true, apart := false }
def ClockFullSaid : Prop := clockFullRow.holds Try.pinned (OpenSpec.ofChange clockFullSpec)

/-- ITS FALSE NEIGHBOUR: 'it returns false'. Refute it at one input. -/
def clockFullWrong : ChangeSpec := { name := "clockFull", fn := fun _ => fun
  | [d1, d2] => { results := [.lit (.bool false)], args := [d1, d2] }
  | _ => none }
def ClockFullWrongFalsely : Prop := clockFullRow.holds Try.pinned (OpenSpec.ofChange clockFullWrong)

/-- 'ligaturelaw6.ClockOfNothing': WHATEVER THE INPUT: true; the input reads as it did. -/
def clockOfNothingSpec : ChangeSpec := { name := "clockOfNothing", fn := fun _ => fun
  | [d1, d2] => { results := [.lit (.bool true)], args := [d1, d2] }
  | _ => none }
def clockOfNothingRow : OpenClaim := { program := "ytpeecgieohbolaa", sum := "6b1df84e2337419e4ac105dd4f0be1acd8638a8d017eb0b036e5fc3d34fd73b3", func := "ligature/ligaturelaw6.ClockOfNothing", spec := "clockOfNothing", unfollowed := true, recurses := true, apart := false }
def ClockOfNothingSaid : Prop := clockOfNothingRow.holds Try.pinned (OpenSpec.ofChange clockOfNothingSpec)

/-- ITS FALSE NEIGHBOUR: 'it returns false'. Refute it at one input. -/
def clockOfNothingWrong : ChangeSpec := { name := "clockOfNothing", fn := fun _ => fun
  | [d1, d2] => { results := [.lit (.bool false)], args := [d1, d2] }
  | _ => none }
def ClockOfNothingWrongFalsely : Prop := clockOfNothingRow.holds Try.pinned (OpenSpec.ofChange clockOfNothingWrong)

/-- 'ligaturelaw6.ClockOrder': WHATEVER THE INPUT: true; the input reads as it did. -/
def clockOrderSpec : ChangeSpec := { name := "clockOrder", fn := fun _ => fun
  | [d1, d2] => { results := [.lit (.bool true)], args := [d1, d2] }
  | _ => none }
def clockOrderRow : OpenClaim := { program := "ytpeecgieohbolaa", sum := "6b1df84e2337419e4ac105dd4f0be1acd8638a8d017eb0b036e5fc3d34fd73b3", func := "ligature/ligaturelaw6.ClockOrder", spec := "clockOrder", unfollowed := true, recurses := true, apart := false }
def ClockOrderSaid : Prop := clockOrderRow.holds Try.pinned (OpenSpec.ofChange clockOrderSpec)

/-- ITS FALSE NEIGHBOUR: 'it returns false'. Refute it at one input. -/
def clockOrderWrong : ChangeSpec := { name := "clockOrder", fn := fun _ => fun
  | [d1, d2] => { results := [.lit (.bool false)], args := [d1, d2] }
  | _ => none }
def ClockOrderWrongFalsely : Prop := clockOrderRow.holds Try.pinned (OpenSpec.ofChange clockOrderWrong)

/-- 'ligaturelaw6.ClockAborts': WHATEVER THE INPUT: true; the input reads as it did. -/
def clockAbortsSpec : ChangeSpec := { name := "clockAborts", fn := fun _ => fun
  | [d1, d2] => { results := [.lit (.bool true)], args := [d1, d2] }
  | _ => none }
def clockAbortsRow : OpenClaim := { program := "ytpeecgieohbolaa", sum := "6b1df84e2337419e4ac105dd4f0be1acd8638a8d017eb0b036e5fc3d34fd73b3", func := "ligature/ligaturelaw6.ClockAborts", spec := "clockAborts", unfollowed := true, recurses := true, apart := false }
def ClockAbortsSaid : Prop := clockAbortsRow.holds Try.pinned (OpenSpec.ofChange clockAbortsSpec)

/-- ITS FALSE NEIGHBOUR: 'it returns false'. Refute it at one input. -/
def clockAbortsWrong : ChangeSpec := { name := "clockAborts", fn := fun _ => fun
  | [d1, d2] => { results := [.lit (.bool false)], args := [d1, d2] }
  | _ => none }
def ClockAbortsWrongFalsely : Prop := clockAbortsRow.holds Try.pinned (OpenSpec.ofChange clockAbortsWrong)

/- THE SECOND FORM. 'bulk': how many values and letters a reading holds, each counted each time it is reached (what is shared counts as often as it is met; a slice's spare places count too). A statement '..UptoSaid' is the law's where the arguments, and the package variables that the reading takes, are together of bulk at most 1048576: NARROWER than '..Said'. Prove '..Said' where nothing that the law and all that it calls make is longer than what came in: it says more and counts as full. Else prove '..UptoSaid'. A law counts once. -/
mutual
def uptoBulk {H : Type} : DataW H → Nat
  | .lit (.string bytes) => bytes.length + 1
  | .lit _ => 1
  | .nil => 1
  | .ptr d => uptoBulk d + 1
  | .slice elems spare => uptoBulkAll elems + uptoBulkAll spare + 1
  | .agg parts => uptoBulkAll parts + 1
  | .iface _ d => uptoBulk d + 1
  | .map entries => uptoBulkEntries entries + 1
  | .held _ => 1
def uptoBulkAll {H : Type} : List (DataW H) → Nat
  | [] => 0
  | d :: r => uptoBulk d + uptoBulkAll r
def uptoBulkEntries {H : Type} : List (Lit × DataW H) → Nat
  | [] => 0
  | x :: r => uptoBulkEntry x + uptoBulkEntries r
def uptoBulkEntry {H : Type} : Lit × DataW H → Nat
  | (.string bytes, d) => bytes.length + uptoBulk d + 1
  | (_, d) => uptoBulk d + 1
 end
def uptoSmall : (H : Type) → List (DataW H) → Bool := fun _ ds => decide (uptoBulkAll ds ≤ 1048576)
def OpenSpec.upto (s : _root_.Go.ChangeSpec) : _root_.Go.OpenSpec := { _root_.Go.OpenSpec.ofChange s with cond := some uptoSmall }

/-- 'ligaturelaw6.ClockPlays', WHERE WHAT IT READS IS OF BULK AT MOST 1048576: true; the input reads as it did. -/
def clockPlaysUptoRow : OpenClaim := { program := "ytpeecgieohbolaa", sum := "6b1df84e2337419e4ac105dd4f0be1acd8638a8d017eb0b036e5fc3d34fd73b3", func := "ligature/ligaturelaw6.ClockPlays", spec := "clockPlays", unfollowed := true, recurses := true, apart := false, narrowed := true }
def ClockPlaysUptoSaid : Prop := clockPlaysUptoRow.holds Try.pinned (OpenSpec.upto clockPlaysSpec)

/-- 'ligaturelaw6.ClockStays', WHERE WHAT IT READS IS OF BULK AT MOST 1048576: true; the input reads as it did. -/
def clockStaysUptoRow : OpenClaim := { program := "ytpeecgieohbolaa", sum := "6b1df84e2337419e4ac105dd4f0be1acd8638a8d017eb0b036e5fc3d34fd73b3", func := "ligature/ligaturelaw6.ClockStays", spec := "clockStays", unfollowed := true, recurses := true, apart := false, narrowed := true }
def ClockStaysUptoSaid : Prop := clockStaysUptoRow.holds Try.pinned (OpenSpec.upto clockStaysSpec)

/-- 'ligaturelaw6.ClockFull', WHERE WHAT IT READS IS OF BULK AT MOST 1048576: true; the input reads as it did. -/
def clockFullUptoRow : OpenClaim := { program := "ytpeecgieohbolaa", sum := "6b1df84e2337419e4ac105dd4f0be1acd8638a8d017eb0b036e5fc3d34fd73b3", func := "ligature/ligaturelaw6.ClockFull", spec := "clockFull", unfollowed := true, recurses := true, apart := false, narrowed := true }
def ClockFullUptoSaid : Prop := clockFullUptoRow.holds Try.pinned (OpenSpec.upto clockFullSpec)

/-- 'ligaturelaw6.ClockOfNothing', WHERE WHAT IT READS IS OF BULK AT MOST 1048576: true; the input reads as it did. -/
def clockOfNothingUptoRow : OpenClaim := { program := "ytpeecgieohbolaa", sum := "6b1df84e2337419e4ac105dd4f0be1acd8638a8d017eb0b036e5fc3d34fd73b3", func := "ligature/ligaturelaw6.ClockOfNothing", spec := "clockOfNothing", unfollowed := true, recurses := true, apart := false, narrowed := true }
def ClockOfNothingUptoSaid : Prop := clockOfNothingUptoRow.holds Try.pinned (OpenSpec.upto clockOfNothingSpec)

/-- 'ligaturelaw6.ClockOrder', WHERE WHAT IT READS IS OF BULK AT MOST 1048576: true; the input reads as it did. -/
def clockOrderUptoRow : OpenClaim := { program := "ytpeecgieohbolaa", sum := "6b1df84e2337419e4ac105dd4f0be1acd8638a8d017eb0b036e5fc3d34fd73b3", func := "ligature/ligaturelaw6.ClockOrder", spec := "clockOrder", unfollowed := true, recurses := true, apart := false, narrowed := true }
def ClockOrderUptoSaid : Prop := clockOrderUptoRow.holds Try.pinned (OpenSpec.upto clockOrderSpec)

/-- 'ligaturelaw6.ClockAborts', WHERE WHAT IT READS IS OF BULK AT MOST 1048576: true; the input reads as it did. -/
def clockAbortsUptoRow : OpenClaim := { program := "ytpeecgieohbolaa", sum := "6b1df84e2337419e4ac105dd4f0be1acd8638a8d017eb0b036e5fc3d34fd73b3", func := "ligature/ligaturelaw6.ClockAborts", spec := "clockAborts", unfollowed := true, recurses := true, apart := false, narrowed := true }
def ClockAbortsUptoSaid : Prop := clockAbortsUptoRow.holds Try.pinned (OpenSpec.upto clockAbortsSpec)

end Rows
end Go.Proofs.Ytpeecgieohbolaa
