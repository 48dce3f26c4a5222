/-
  No cell of these rows narrows 'for every input' (looked for: loops, veiled, ifaces, maps, wideKeys, modest, calm, conditions, laid).
  DERIVED. THE GIVEN ROWS OF THIS SEAT. 7 by the template 'for every input the law returns true; each argument reads behind the call as it read before'; 0 by the template 'total and deterministic' (their statements: YtembonenaoineaaTotals.lean).
  GIVEN WITH THE SEED: the statements are not yours to turn. If you find one false, say at which input.
  Laid BY PROGRAM, IN A SANDBOX (cutbox-rows.mjs): the forced cells as the released guide's own fill.sh prints them over the translation 71c6e0ffbeea2cd4… (all of the seat's roots in one cut). By AI agents, Wed Nov 11 2026. No macro, syntax, notation, axiom, sorry.
-/
import Derived.Test.YtembonenaoineaaChecked
import GoSem.Claim
import GoSem.ClaimJoined
import GoSem.ClaimMapViews
import Derived.JoinedTies
import Derived.KernelRfl
namespace Go.Proofs.Ytembonenaoineaa
/- THE CELL 'sum', in the pinned program and in every row, IS THE sha256 OF THE DUMP (.gsa) THAT YtembonenaoineaaProg.lean LOADS. Nothing in Lean hashes anything: it is a label: what it is worth is what the hold of that sum in a sandbox is worth. -/
noncomputable def Try.pinned : Pinned := { name := "ytembonenaoineaa", sum := "71c6e0ffbeea2cd4b8e3ba9af425c1a554fa139d1b078152022879d966c196c5", checked := Try.checked }
namespace Rows
def none {H : Type} : Left H := { results := [], args := [] }

/-- 'ligaturelaw5.RedoPlays': WHATEVER THE INPUT: true; the input reads as it did. -/
def redoPlaysSpec : ChangeSpec := { name := "redoPlays", fn := fun _ => fun
  | [d1, d2] => { results := [.lit (.bool true)], args := [d1, d2] }
  | _ => none }
def redoPlaysRow : OpenClaim := { program := "ytembonenaoineaa", sum := "71c6e0ffbeea2cd4b8e3ba9af425c1a554fa139d1b078152022879d966c196c5", func := "ligature/ligaturelaw5.RedoPlays", spec := "redoPlays", unfollowed := true, recurses := true, apart := false }
def RedoPlaysSaid : Prop := redoPlaysRow.holds Try.pinned (OpenSpec.ofChange redoPlaysSpec)

/-- ITS FALSE NEIGHBOUR: 'it returns false'. Refute it at one input. -/
def redoPlaysWrong : ChangeSpec := { name := "redoPlays", fn := fun _ => fun
  | [d1, d2] => { results := [.lit (.bool false)], args := [d1, d2] }
  | _ => none }
def RedoPlaysWrongFalsely : Prop := redoPlaysRow.holds Try.pinned (OpenSpec.ofChange redoPlaysWrong)

/-- 'ligaturelaw5.RedoLasts': WHATEVER THE INPUT: true; the input reads as it did. -/
def redoLastsSpec : ChangeSpec := { name := "redoLasts", fn := fun _ => fun
  | [d1, d2, d3, d4, d5] => { results := [.lit (.bool true)], args := [d1, d2, d3, d4, d5] }
  | _ => none }
def redoLastsRow : OpenClaim := { program := "ytembonenaoineaa", sum := "71c6e0ffbeea2cd4b8e3ba9af425c1a554fa139d1b078152022879d966c196c5", func := "ligature/ligaturelaw5.RedoLasts", spec := "redoLasts", unfollowed := true, recurses := true, apart := false }
def RedoLastsSaid : Prop := redoLastsRow.holds Try.pinned (OpenSpec.ofChange redoLastsSpec)

/-- ITS FALSE NEIGHBOUR: 'it returns false'. Refute it at one input. -/
def redoLastsWrong : ChangeSpec := { name := "redoLasts", fn := fun _ => fun
  | [d1, d2, d3, d4, d5] => { results := [.lit (.bool false)], args := [d1, d2, d3, d4, d5] }
  | _ => none }
def RedoLastsWrongFalsely : Prop := redoLastsRow.holds Try.pinned (OpenSpec.ofChange redoLastsWrong)

/-- 'ligaturelaw5.RedoTwice': WHATEVER THE INPUT: true; the input reads as it did. -/
def redoTwiceSpec : ChangeSpec := { name := "redoTwice", fn := fun _ => fun
  | [d1, d2, d3, d4] => { results := [.lit (.bool true)], args := [d1, d2, d3, d4] }
  | _ => none }
def redoTwiceRow : OpenClaim := { program := "ytembonenaoineaa", sum := "71c6e0ffbeea2cd4b8e3ba9af425c1a554fa139d1b078152022879d966c196c5", func := "ligature/ligaturelaw5.RedoTwice", spec := "redoTwice", unfollowed := true, recurses := true, apart := false }
def RedoTwiceSaid : Prop := redoTwiceRow.holds Try.pinned (OpenSpec.ofChange redoTwiceSpec)

/-- ITS FALSE NEIGHBOUR: 'it returns false'. Refute it at one input. -/
def redoTwiceWrong : ChangeSpec := { name := "redoTwice", fn := fun _ => fun
  | [d1, d2, d3, d4] => { results := [.lit (.bool false)], args := [d1, d2, d3, d4] }
  | _ => none }
def RedoTwiceWrongFalsely : Prop := redoTwiceRow.holds Try.pinned (OpenSpec.ofChange redoTwiceWrong)

/-- 'ligaturelaw5.RedoOfNothing': WHATEVER THE INPUT: true; the input reads as it did. -/
def redoOfNothingSpec : ChangeSpec := { name := "redoOfNothing", fn := fun _ => fun
  | [d1, d2] => { results := [.lit (.bool true)], args := [d1, d2] }
  | _ => none }
def redoOfNothingRow : OpenClaim := { program := "ytembonenaoineaa", sum := "71c6e0ffbeea2cd4b8e3ba9af425c1a554fa139d1b078152022879d966c196c5", func := "ligature/ligaturelaw5.RedoOfNothing", spec := "redoOfNothing", unfollowed := true, recurses := true, apart := false }
def RedoOfNothingSaid : Prop := redoOfNothingRow.holds Try.pinned (OpenSpec.ofChange redoOfNothingSpec)

/-- ITS FALSE NEIGHBOUR: 'it returns false'. Refute it at one input. -/
def redoOfNothingWrong : ChangeSpec := { name := "redoOfNothing", fn := fun _ => fun
  | [d1, d2] => { results := [.lit (.bool false)], args := [d1, d2] }
  | _ => none }
def RedoOfNothingWrongFalsely : Prop := redoOfNothingRow.holds Try.pinned (OpenSpec.ofChange redoOfNothingWrong)

/-- 'ligaturelaw5.RedoOrder': WHATEVER THE INPUT: true; the input reads as it did. -/
def redoOrderSpec : ChangeSpec := { name := "redoOrder", fn := fun _ => fun
  | [d1, d2] => { results := [.lit (.bool true)], args := [d1, d2] }
  | _ => none }
def redoOrderRow : OpenClaim := { program := "ytembonenaoineaa", sum := "71c6e0ffbeea2cd4b8e3ba9af425c1a554fa139d1b078152022879d966c196c5", func := "ligature/ligaturelaw5.RedoOrder", spec := "redoOrder", unfollowed := true, recurses := true, apart := false }
def RedoOrderSaid : Prop := redoOrderRow.holds Try.pinned (OpenSpec.ofChange redoOrderSpec)

/-- ITS FALSE NEIGHBOUR: 'it returns false'. Refute it at one input. -/
def redoOrderWrong : ChangeSpec := { name := "redoOrder", fn := fun _ => fun
  | [d1, d2] => { results := [.lit (.bool false)], args := [d1, d2] }
  | _ => none }
def RedoOrderWrongFalsely : Prop := redoOrderRow.holds Try.pinned (OpenSpec.ofChange redoOrderWrong)

/-- 'ligaturelaw5.RedoDead': WHATEVER THE INPUT: true; the input reads as it did. -/
def redoDeadSpec : ChangeSpec := { name := "redoDead", fn := fun _ => fun
  | [d1, d2] => { results := [.lit (.bool true)], args := [d1, d2] }
  | _ => none }
def redoDeadRow : OpenClaim := { program := "ytembonenaoineaa", sum := "71c6e0ffbeea2cd4b8e3ba9af425c1a554fa139d1b078152022879d966c196c5", func := "ligature/ligaturelaw5.RedoDead", spec := "redoDead", unfollowed := true, recurses := true, apart := false }
def RedoDeadSaid : Prop := redoDeadRow.holds Try.pinned (OpenSpec.ofChange redoDeadSpec)

/-- ITS FALSE NEIGHBOUR: 'it returns false'. Refute it at one input. -/
def redoDeadWrong : ChangeSpec := { name := "redoDead", fn := fun _ => fun
  | [d1, d2] => { results := [.lit (.bool false)], args := [d1, d2] }
  | _ => none }
def RedoDeadWrongFalsely : Prop := redoDeadRow.holds Try.pinned (OpenSpec.ofChange redoDeadWrong)

/-- 'ligaturelaw5.RedoBig': WHATEVER THE INPUT: true; the input reads as it did. -/
def redoBigSpec : ChangeSpec := { name := "redoBig", fn := fun _ => fun
  | [d1, d2, d3, d4] => { results := [.lit (.bool true)], args := [d1, d2, d3, d4] }
  | _ => none }
def redoBigRow : OpenClaim := { program := "ytembonenaoineaa", sum := "71c6e0ffbeea2cd4b8e3ba9af425c1a554fa139d1b078152022879d966c196c5", func := "ligature/ligaturelaw5.RedoBig", spec := "redoBig", unfollowed := true, recurses := true, apart := false }
def RedoBigSaid : Prop := redoBigRow.holds Try.pinned (OpenSpec.ofChange redoBigSpec)

/-- ITS FALSE NEIGHBOUR: 'it returns false'. Refute it at one input. -/
def redoBigWrong : ChangeSpec := { name := "redoBig", fn := fun _ => fun
  | [d1, d2, d3, d4] => { results := [.lit (.bool false)], args := [d1, d2, d3, d4] }
  | _ => none }
def RedoBigWrongFalsely : Prop := redoBigRow.holds Try.pinned (OpenSpec.ofChange redoBigWrong)

/- THE SECOND FORM. 'bulk': how many values and letters a reading holds, each counted each time it is reached (what is shared counts as often as it is met; a slice's spare places count too). A statement '..UptoSaid' is the law's where the arguments, and the package variables that the reading takes, are together of bulk at most 1048576: NARROWER than '..Said'. Prove '..Said' where nothing that the law and all that it calls make is longer than what came in: it says more and counts as full. Else prove '..UptoSaid'. A law counts once. -/
mutual
def uptoBulk {H : Type} : DataW H → Nat
  | .lit (.string bytes) => bytes.length + 1
  | .lit _ => 1
  | .nil => 1
  | .ptr d => uptoBulk d + 1
  | .slice elems spare => uptoBulkAll elems + uptoBulkAll spare + 1
  | .agg parts => uptoBulkAll parts + 1
  | .iface _ d => uptoBulk d + 1
  | .map entries => uptoBulkEntries entries + 1
  | .held _ => 1
def uptoBulkAll {H : Type} : List (DataW H) → Nat
  | [] => 0
  | d :: r => uptoBulk d + uptoBulkAll r
def uptoBulkEntries {H : Type} : List (Lit × DataW H) → Nat
  | [] => 0
  | x :: r => uptoBulkEntry x + uptoBulkEntries r
def uptoBulkEntry {H : Type} : Lit × DataW H → Nat
  | (.string bytes, d) => bytes.length + uptoBulk d + 1
  | (_, d) => uptoBulk d + 1
 end
def uptoSmall : (H : Type) → List (DataW H) → Bool := fun _ ds => decide (uptoBulkAll ds ≤ 1048576)
def OpenSpec.upto (s : _root_.Go.ChangeSpec) : _root_.Go.OpenSpec := { _root_.Go.OpenSpec.ofChange s with cond := some uptoSmall }

/-- 'ligaturelaw5.RedoPlays', WHERE WHAT IT READS IS OF BULK AT MOST 1048576: true; the input reads as it did. -/
def redoPlaysUptoRow : OpenClaim := { program := "ytembonenaoineaa", sum := "71c6e0ffbeea2cd4b8e3ba9af425c1a554fa139d1b078152022879d966c196c5", func := "ligature/ligaturelaw5.RedoPlays", spec := "redoPlays", unfollowed := true, recurses := true, apart := false, narrowed := true }
def RedoPlaysUptoSaid : Prop := redoPlaysUptoRow.holds Try.pinned (OpenSpec.upto redoPlaysSpec)

/-- 'ligaturelaw5.RedoLasts', WHERE WHAT IT READS IS OF BULK AT MOST 1048576: true; the input reads as it did. -/
def redoLastsUptoRow : OpenClaim := { program := "ytembonenaoineaa", sum := "71c6e0ffbeea2cd4b8e3ba9af425c1a554fa139d1b078152022879d966c196c5", func := "ligature/ligaturelaw5.RedoLasts", spec := "redoLasts", unfollowed := true, recurses := true, apart := false, narrowed := true }
def RedoLastsUptoSaid : Prop := redoLastsUptoRow.holds Try.pinned (OpenSpec.upto redoLastsSpec)

/-- 'ligaturelaw5.RedoTwice', WHERE WHAT IT READS IS OF BULK AT MOST 1048576: true; the input reads as it did. -/
def redoTwiceUptoRow : OpenClaim := { program := "ytembonenaoineaa", sum := "71c6e0ffbeea2cd4b8e3ba9af425c1a554fa139d1b078152022879d966c196c5", func := "ligature/ligaturelaw5.RedoTwice", spec := "redoTwice", unfollowed := true, recurses := true, apart := false, narrowed := true }
def RedoTwiceUptoSaid : Prop := redoTwiceUptoRow.holds Try.pinned (OpenSpec.upto redoTwiceSpec)

/-- 'ligaturelaw5.RedoOfNothing', WHERE WHAT IT READS IS OF BULK AT MOST 1048576: true; the input reads as it did. -/
def redoOfNothingUptoRow : OpenClaim := { program := "ytembonenaoineaa", sum := "71c6e0ffbeea2cd4b8e3ba9af425c1a554fa139d1b078152022879d966c196c5", func := "ligature/ligaturelaw5.RedoOfNothing", spec := "redoOfNothing", unfollowed := true, recurses := true, apart := false, narrowed := true }
def RedoOfNothingUptoSaid : Prop := redoOfNothingUptoRow.holds Try.pinned (OpenSpec.upto redoOfNothingSpec)

/-- 'ligaturelaw5.RedoOrder', WHERE WHAT IT READS IS OF BULK AT MOST 1048576: true; the input reads as it did. -/
def redoOrderUptoRow : OpenClaim := { program := "ytembonenaoineaa", sum := "71c6e0ffbeea2cd4b8e3ba9af425c1a554fa139d1b078152022879d966c196c5", func := "ligature/ligaturelaw5.RedoOrder", spec := "redoOrder", unfollowed := true, recurses := true, apart := false, narrowed := true }
def RedoOrderUptoSaid : Prop := redoOrderUptoRow.holds Try.pinned (OpenSpec.upto redoOrderSpec)

/-- 'ligaturelaw5.RedoDead', WHERE WHAT IT READS IS OF BULK AT MOST 1048576: true; the input reads as it did. -/
def redoDeadUptoRow : OpenClaim := { program := "ytembonenaoineaa", sum := "71c6e0ffbeea2cd4b8e3ba9af425c1a554fa139d1b078152022879d966c196c5", func := "ligature/ligaturelaw5.RedoDead", spec := "redoDead", unfollowed := true, recurses := true, apart := false, narrowed := true }
def RedoDeadUptoSaid : Prop := redoDeadUptoRow.holds Try.pinned (OpenSpec.upto redoDeadSpec)

/-- 'ligaturelaw5.RedoBig', WHERE WHAT IT READS IS OF BULK AT MOST 1048576: true; the input reads as it did. -/
def redoBigUptoRow : OpenClaim := { program := "ytembonenaoineaa", sum := "71c6e0ffbeea2cd4b8e3ba9af425c1a554fa139d1b078152022879d966c196c5", func := "ligature/ligaturelaw5.RedoBig", spec := "redoBig", unfollowed := true, recurses := true, apart := false, narrowed := true }
def RedoBigUptoSaid : Prop := redoBigUptoRow.holds Try.pinned (OpenSpec.upto redoBigSpec)

end Rows
end Go.Proofs.Ytembonenaoineaa
