/-
  No cell of these rows narrows 'for every input' (looked for: loops, veiled, ifaces, maps, wideKeys, modest, calm, conditions, laid).
  DERIVED. THE GIVEN ROWS OF THIS SEAT. 7 by the template 'for every input the law returns true; each argument reads behind the call as it read before'; 0 by the template 'total and deterministic' (their statements: YtkdffblpoelcfaaTotals.lean).
  GIVEN WITH THE SEED: the statements are not yours to turn. If you find one false, say at which input.
  Laid BY PROGRAM, IN A SANDBOX (cutbox-rows.mjs): the forced cells as the released guide's own fill.sh prints them over the translation 921d36e92d8a97bd… (all of the seat's roots in one cut). By AI agents, Wed Nov 11 2026. No macro, syntax, notation, axiom, sorry.
-/
import Derived.Test.YtkdffblpoelcfaaChecked
import GoSem.Claim
import GoSem.ClaimJoined
import GoSem.ClaimMapViews
import Derived.JoinedTies
import Derived.KernelRfl
namespace Go.Proofs.Ytkdffblpoelcfaa
/- THE CELL 'sum', in the pinned program and in every row, IS THE sha256 OF THE DUMP (.gsa) THAT YtkdffblpoelcfaaProg.lean LOADS. Nothing in Lean hashes anything: it is a label: what it is worth is what the hold of that sum in a sandbox is worth. -/
noncomputable def Try.pinned : Pinned := { name := "ytkdffblpoelcfaa", sum := "921d36e92d8a97bde4d498411dd6a0e3c9c96dfc345824b5dea31b1963b30f8f", checked := Try.checked }
namespace Rows
def none {H : Type} : Left H := { results := [], args := [] }

/-- 'ligaturelaw3.LebLays': WHATEVER THE INPUT: true; the input reads as it did. -/
def lebLaysSpec : ChangeSpec := { name := "lebLays", fn := fun _ => fun
  | [d1, d2, d3, d4] => { results := [.lit (.bool true)], args := [d1, d2, d3, d4] }
  | _ => none }
def lebLaysRow : OpenClaim := { program := "ytkdffblpoelcfaa", sum := "921d36e92d8a97bde4d498411dd6a0e3c9c96dfc345824b5dea31b1963b30f8f", func := "ligature/ligaturelaw3.LebLays", spec := "lebLays", inPlace := ["math.Float64frombits", "math.Float64bits"], apart := false }
def LebLaysSaid : Prop := lebLaysRow.holds Try.pinned (OpenSpec.ofChange lebLaysSpec)

/-- ITS FALSE NEIGHBOUR: 'it returns false'. Refute it at one input. -/
def lebLaysWrong : ChangeSpec := { name := "lebLays", fn := fun _ => fun
  | [d1, d2, d3, d4] => { results := [.lit (.bool false)], args := [d1, d2, d3, d4] }
  | _ => none }
def LebLaysWrongFalsely : Prop := lebLaysRow.holds Try.pinned (OpenSpec.ofChange lebLaysWrong)

/-- 'ligaturelaw3.LebTakes': WHATEVER THE INPUT: true; the input reads as it did. -/
def lebTakesSpec : ChangeSpec := { name := "lebTakes", fn := fun _ => fun
  | [d1, d2] => { results := [.lit (.bool true)], args := [d1, d2] }
  | _ => none }
def lebTakesRow : OpenClaim := { program := "ytkdffblpoelcfaa", sum := "921d36e92d8a97bde4d498411dd6a0e3c9c96dfc345824b5dea31b1963b30f8f", func := "ligature/ligaturelaw3.LebTakes", spec := "lebTakes", inPlace := ["math.Float64frombits", "math.Float64bits"], apart := false }
def LebTakesSaid : Prop := lebTakesRow.holds Try.pinned (OpenSpec.ofChange lebTakesSpec)

/-- ITS FALSE NEIGHBOUR: 'it returns false'. Refute it at one input. -/
def lebTakesWrong : ChangeSpec := { name := "lebTakes", fn := fun _ => fun
  | [d1, d2] => { results := [.lit (.bool false)], args := [d1, d2] }
  | _ => none }
def LebTakesWrongFalsely : Prop := lebTakesRow.holds Try.pinned (OpenSpec.ofChange lebTakesWrong)

/-- 'ligaturelaw3.LebBack': WHATEVER THE INPUT: true; the input reads as it did. -/
def lebBackSpec : ChangeSpec := { name := "lebBack", fn := fun _ => fun
  | [d1, d2, d3] => { results := [.lit (.bool true)], args := [d1, d2, d3] }
  | _ => none }
def lebBackRow : OpenClaim := { program := "ytkdffblpoelcfaa", sum := "921d36e92d8a97bde4d498411dd6a0e3c9c96dfc345824b5dea31b1963b30f8f", func := "ligature/ligaturelaw3.LebBack", spec := "lebBack", inPlace := ["math.Float64frombits", "math.Float64bits"], apart := false }
def LebBackSaid : Prop := lebBackRow.holds Try.pinned (OpenSpec.ofChange lebBackSpec)

/-- ITS FALSE NEIGHBOUR: 'it returns false'. Refute it at one input. -/
def lebBackWrong : ChangeSpec := { name := "lebBack", fn := fun _ => fun
  | [d1, d2, d3] => { results := [.lit (.bool false)], args := [d1, d2, d3] }
  | _ => none }
def LebBackWrongFalsely : Prop := lebBackRow.holds Try.pinned (OpenSpec.ofChange lebBackWrong)

/-- 'ligaturelaw3.LebOne': WHATEVER THE INPUT: true; the input reads as it did. -/
def lebOneSpec : ChangeSpec := { name := "lebOne", fn := fun _ => fun
  | [d] => { results := [.lit (.bool true)], args := [d] }
  | _ => none }
def lebOneRow : OpenClaim := { program := "ytkdffblpoelcfaa", sum := "921d36e92d8a97bde4d498411dd6a0e3c9c96dfc345824b5dea31b1963b30f8f", func := "ligature/ligaturelaw3.LebOne", spec := "lebOne", apart := false }
def LebOneSaid : Prop := lebOneRow.holds Try.pinned (OpenSpec.ofChange lebOneSpec)

/-- ITS FALSE NEIGHBOUR: 'it returns false'. Refute it at one input. -/
def lebOneWrong : ChangeSpec := { name := "lebOne", fn := fun _ => fun
  | [d] => { results := [.lit (.bool false)], args := [d] }
  | _ => none }
def LebOneWrongFalsely : Prop := lebOneRow.holds Try.pinned (OpenSpec.ofChange lebOneWrong)

/-- 'ligaturelaw3.LebOfNothing': WHATEVER THE INPUT: true; the input reads as it did. -/
def lebOfNothingSpec : ChangeSpec := { name := "lebOfNothing", fn := fun _ => fun
  | [d] => { results := [.lit (.bool true)], args := [d] }
  | _ => none }
def lebOfNothingRow : OpenClaim := { program := "ytkdffblpoelcfaa", sum := "921d36e92d8a97bde4d498411dd6a0e3c9c96dfc345824b5dea31b1963b30f8f", func := "ligature/ligaturelaw3.LebOfNothing", spec := "lebOfNothing", inPlace := ["math.Float64frombits", "math.Float64bits"], apart := false }
def LebOfNothingSaid : Prop := lebOfNothingRow.holds Try.pinned (OpenSpec.ofChange lebOfNothingSpec)

/-- ITS FALSE NEIGHBOUR: 'it returns false'. Refute it at one input. -/
def lebOfNothingWrong : ChangeSpec := { name := "lebOfNothing", fn := fun _ => fun
  | [d] => { results := [.lit (.bool false)], args := [d] }
  | _ => none }
def LebOfNothingWrongFalsely : Prop := lebOfNothingRow.holds Try.pinned (OpenSpec.ofChange lebOfNothingWrong)

/-- 'ligaturelaw3.LebJoins': WHATEVER THE INPUT: true; the input reads as it did. -/
def lebJoinsSpec : ChangeSpec := { name := "lebJoins", fn := fun _ => fun
  | [d1, d2, d3] => { results := [.lit (.bool true)], args := [d1, d2, d3] }
  | _ => none }
def lebJoinsRow : OpenClaim := { program := "ytkdffblpoelcfaa", sum := "921d36e92d8a97bde4d498411dd6a0e3c9c96dfc345824b5dea31b1963b30f8f", func := "ligature/ligaturelaw3.LebJoins", spec := "lebJoins", apart := false }
def LebJoinsSaid : Prop := lebJoinsRow.holds Try.pinned (OpenSpec.ofChange lebJoinsSpec)

/-- ITS FALSE NEIGHBOUR: 'it returns false'. Refute it at one input. -/
def lebJoinsWrong : ChangeSpec := { name := "lebJoins", fn := fun _ => fun
  | [d1, d2, d3] => { results := [.lit (.bool false)], args := [d1, d2, d3] }
  | _ => none }
def LebJoinsWrongFalsely : Prop := lebJoinsRow.holds Try.pinned (OpenSpec.ofChange lebJoinsWrong)

/-- 'ligaturelaw3.LebReals': WHATEVER THE INPUT: true; the input reads as it did. -/
def lebRealsSpec : ChangeSpec := { name := "lebReals", fn := fun _ => fun
  | [d] => { results := [.lit (.bool true)], args := [d] }
  | _ => none }
def lebRealsRow : OpenClaim := { program := "ytkdffblpoelcfaa", sum := "921d36e92d8a97bde4d498411dd6a0e3c9c96dfc345824b5dea31b1963b30f8f", func := "ligature/ligaturelaw3.LebReals", spec := "lebReals", inPlace := ["math.Float64frombits", "math.Float64bits"], apart := false }
def LebRealsSaid : Prop := lebRealsRow.holds Try.pinned (OpenSpec.ofChange lebRealsSpec)

/-- ITS FALSE NEIGHBOUR: 'it returns false'. Refute it at one input. -/
def lebRealsWrong : ChangeSpec := { name := "lebReals", fn := fun _ => fun
  | [d] => { results := [.lit (.bool false)], args := [d] }
  | _ => none }
def LebRealsWrongFalsely : Prop := lebRealsRow.holds Try.pinned (OpenSpec.ofChange lebRealsWrong)

/- THE SECOND FORM. 'bulk': how many values and letters a reading holds, each counted each time it is reached (what is shared counts as often as it is met; a slice's spare places count too). A statement '..UptoSaid' is the law's where the arguments, and the package variables that the reading takes, are together of bulk at most 1048576: NARROWER than '..Said'. Prove '..Said' where nothing that the law and all that it calls make is longer than what came in: it says more and counts as full. Else prove '..UptoSaid'. A law counts once. -/
mutual
def uptoBulk {H : Type} : DataW H → Nat
  | .lit (.string bytes) => bytes.length + 1
  | .lit _ => 1
  | .nil => 1
  | .ptr d => uptoBulk d + 1
  | .slice elems spare => uptoBulkAll elems + uptoBulkAll spare + 1
  | .agg parts => uptoBulkAll parts + 1
  | .iface _ d => uptoBulk d + 1
  | .map entries => uptoBulkEntries entries + 1
  | .held _ => 1
def uptoBulkAll {H : Type} : List (DataW H) → Nat
  | [] => 0
  | d :: r => uptoBulk d + uptoBulkAll r
def uptoBulkEntries {H : Type} : List (Lit × DataW H) → Nat
  | [] => 0
  | x :: r => uptoBulkEntry x + uptoBulkEntries r
def uptoBulkEntry {H : Type} : Lit × DataW H → Nat
  | (.string bytes, d) => bytes.length + uptoBulk d + 1
  | (_, d) => uptoBulk d + 1
 end
def uptoSmall : (H : Type) → List (DataW H) → Bool := fun _ ds => decide (uptoBulkAll ds ≤ 1048576)
def OpenSpec.upto (s : _root_.Go.ChangeSpec) : _root_.Go.OpenSpec := { _root_.Go.OpenSpec.ofChange s with cond := some uptoSmall }

/-- 'ligaturelaw3.LebLays', WHERE WHAT IT READS IS OF BULK AT MOST 1048576: true; the input reads as it did. -/
def lebLaysUptoRow : OpenClaim := { program := "ytkdffblpoelcfaa", sum := "921d36e92d8a97bde4d498411dd6a0e3c9c96dfc345824b5dea31b1963b30f8f", func := "ligature/ligaturelaw3.LebLays", spec := "lebLays", inPlace := ["math.Float64frombits", "math.Float64bits"], apart := false, narrowed := true }
def LebLaysUptoSaid : Prop := lebLaysUptoRow.holds Try.pinned (OpenSpec.upto lebLaysSpec)

/-- 'ligaturelaw3.LebTakes', WHERE WHAT IT READS IS OF BULK AT MOST 1048576: true; the input reads as it did. -/
def lebTakesUptoRow : OpenClaim := { program := "ytkdffblpoelcfaa", sum := "921d36e92d8a97bde4d498411dd6a0e3c9c96dfc345824b5dea31b1963b30f8f", func := "ligature/ligaturelaw3.LebTakes", spec := "lebTakes", inPlace := ["math.Float64frombits", "math.Float64bits"], apart := false, narrowed := true }
def LebTakesUptoSaid : Prop := lebTakesUptoRow.holds Try.pinned (OpenSpec.upto lebTakesSpec)

/-- 'ligaturelaw3.LebBack', WHERE WHAT IT READS IS OF BULK AT MOST 1048576: true; the input reads as it did. -/
def lebBackUptoRow : OpenClaim := { program := "ytkdffblpoelcfaa", sum := "921d36e92d8a97bde4d498411dd6a0e3c9c96dfc345824b5dea31b1963b30f8f", func := "ligature/ligaturelaw3.LebBack", spec := "lebBack", inPlace := ["math.Float64frombits", "math.Float64bits"], apart := false, narrowed := true }
def LebBackUptoSaid : Prop := lebBackUptoRow.holds Try.pinned (OpenSpec.upto lebBackSpec)

/-- 'ligaturelaw3.LebOne', WHERE WHAT IT READS IS OF BULK AT MOST 1048576: true; the input reads as it did. -/
def lebOneUptoRow : OpenClaim := { program := "ytkdffblpoelcfaa", sum := "921d36e92d8a97bde4d498411dd6a0e3c9c96dfc345824b5dea31b1963b30f8f", func := "ligature/ligaturelaw3.LebOne", spec := "lebOne", apart := false, narrowed := true }
def LebOneUptoSaid : Prop := lebOneUptoRow.holds Try.pinned (OpenSpec.upto lebOneSpec)

/-- 'ligaturelaw3.LebOfNothing', WHERE WHAT IT READS IS OF BULK AT MOST 1048576: true; the input reads as it did. -/
def lebOfNothingUptoRow : OpenClaim := { program := "ytkdffblpoelcfaa", sum := "921d36e92d8a97bde4d498411dd6a0e3c9c96dfc345824b5dea31b1963b30f8f", func := "ligature/ligaturelaw3.LebOfNothing", spec := "lebOfNothing", inPlace := ["math.Float64frombits", "math.Float64bits"], apart := false, narrowed := true }
def LebOfNothingUptoSaid : Prop := lebOfNothingUptoRow.holds Try.pinned (OpenSpec.upto lebOfNothingSpec)

/-- 'ligaturelaw3.LebJoins', WHERE WHAT IT READS IS OF BULK AT MOST 1048576: true; the input reads as it did. -/
def lebJoinsUptoRow : OpenClaim := { program := "ytkdffblpoelcfaa", sum := "921d36e92d8a97bde4d498411dd6a0e3c9c96dfc345824b5dea31b1963b30f8f", func := "ligature/ligaturelaw3.LebJoins", spec := "lebJoins", apart := false, narrowed := true }
def LebJoinsUptoSaid : Prop := lebJoinsUptoRow.holds Try.pinned (OpenSpec.upto lebJoinsSpec)

/-- 'ligaturelaw3.LebReals', WHERE WHAT IT READS IS OF BULK AT MOST 1048576: true; the input reads as it did. -/
def lebRealsUptoRow : OpenClaim := { program := "ytkdffblpoelcfaa", sum := "921d36e92d8a97bde4d498411dd6a0e3c9c96dfc345824b5dea31b1963b30f8f", func := "ligature/ligaturelaw3.LebReals", spec := "lebReals", inPlace := ["math.Float64frombits", "math.Float64bits"], apart := false, narrowed := true }
def LebRealsUptoSaid : Prop := lebRealsUptoRow.holds Try.pinned (OpenSpec.upto lebRealsSpec)

end Rows
end Go.Proofs.Ytkdffblpoelcfaa
