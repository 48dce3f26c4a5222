/-
  No cell of these rows narrows 'for every input' (looked for: loops, veiled, ifaces, maps, wideKeys, modest, calm, conditions, laid).
  DERIVED. THE GIVEN ROWS OF THIS SEAT. 8 by the template 'for every input the law returns true; each argument reads behind the call as it read before'; 0 by the template 'total and deterministic' (their statements: YtlaigelpkgakeaaTotals.lean).
  GIVEN WITH THE SEED: the statements are not yours to turn. If you find one false, say at which input.
  Laid BY PROGRAM, IN A SANDBOX (cutbox-rows.mjs): the forced cells as the released guide's own fill.sh prints them over the translation 927912b06b861696… (all of the seat's roots in one cut). By AI agents, Wed Nov 11 2026. No macro, syntax, notation, axiom, sorry.
-/
import Derived.Test.YtlaigelpkgakeaaChecked
import GoSem.Claim
import GoSem.ClaimJoined
import GoSem.ClaimMapViews
import Derived.JoinedTies
import Derived.KernelRfl
namespace Go.Proofs.Ytlaigelpkgakeaa
/- THE CELL 'sum', in the pinned program and in every row, IS THE sha256 OF THE DUMP (.gsa) THAT YtlaigelpkgakeaaProg.lean LOADS. Nothing in Lean hashes anything: it is a label: what it is worth is what the hold of that sum in a sandbox is worth. -/
noncomputable def Try.pinned : Pinned := { name := "ytlaigelpkgakeaa", sum := "927912b06b8616965a4ff78367e7780d407268bbb5a3b9de02ba3e1aa3c99f26", checked := Try.checked }
namespace Rows
def none {H : Type} : Left H := { results := [], args := [] }

/-- 'ligaturelaw2.ValueTells': WHATEVER THE INPUT: true; the input reads as it did. -/
def valueTellsSpec : ChangeSpec := { name := "valueTells", fn := fun _ => fun
  | [d1, d2, d3] => { results := [.lit (.bool true)], args := [d1, d2, d3] }
  | _ => none }
def valueTellsRow : OpenClaim := { program := "ytlaigelpkgakeaa", sum := "927912b06b8616965a4ff78367e7780d407268bbb5a3b9de02ba3e1aa3c99f26", func := "ligature/ligaturelaw2.ValueTells", spec := "valueTells", inPlace := ["math.Float64bits", "math.Float64frombits"], apart := false }
def ValueTellsSaid : Prop := valueTellsRow.holds Try.pinned (OpenSpec.ofChange valueTellsSpec)

/-- ITS FALSE NEIGHBOUR: 'it returns false'. Refute it at one input. -/
def valueTellsWrong : ChangeSpec := { name := "valueTells", fn := fun _ => fun
  | [d1, d2, d3] => { results := [.lit (.bool false)], args := [d1, d2, d3] }
  | _ => none }
def ValueTellsWrongFalsely : Prop := valueTellsRow.holds Try.pinned (OpenSpec.ofChange valueTellsWrong)

/-- 'ligaturelaw2.ValueOrders': WHATEVER THE INPUT: true; the input reads as it did. -/
def valueOrdersSpec : ChangeSpec := { name := "valueOrders", fn := fun _ => fun
  | [d1, d2, d3] => { results := [.lit (.bool true)], args := [d1, d2, d3] }
  | _ => none }
def valueOrdersRow : OpenClaim := { program := "ytlaigelpkgakeaa", sum := "927912b06b8616965a4ff78367e7780d407268bbb5a3b9de02ba3e1aa3c99f26", func := "ligature/ligaturelaw2.ValueOrders", spec := "valueOrders", inPlace := ["math.Float64bits", "math.Float64frombits"], apart := false }
def ValueOrdersSaid : Prop := valueOrdersRow.holds Try.pinned (OpenSpec.ofChange valueOrdersSpec)

/-- ITS FALSE NEIGHBOUR: 'it returns false'. Refute it at one input. -/
def valueOrdersWrong : ChangeSpec := { name := "valueOrders", fn := fun _ => fun
  | [d1, d2, d3] => { results := [.lit (.bool false)], args := [d1, d2, d3] }
  | _ => none }
def ValueOrdersWrongFalsely : Prop := valueOrdersRow.holds Try.pinned (OpenSpec.ofChange valueOrdersWrong)

/-- 'ligaturelaw2.ValueBetween': WHATEVER THE INPUT: true; the input reads as it did. -/
def valueBetweenSpec : ChangeSpec := { name := "valueBetween", fn := fun _ => fun
  | [d1, d2, d3] => { results := [.lit (.bool true)], args := [d1, d2, d3] }
  | _ => none }
def valueBetweenRow : OpenClaim := { program := "ytlaigelpkgakeaa", sum := "927912b06b8616965a4ff78367e7780d407268bbb5a3b9de02ba3e1aa3c99f26", func := "ligature/ligaturelaw2.ValueBetween", spec := "valueBetween", inPlace := ["math.Float64bits", "math.Float64frombits"], apart := false }
def ValueBetweenSaid : Prop := valueBetweenRow.holds Try.pinned (OpenSpec.ofChange valueBetweenSpec)

/-- ITS FALSE NEIGHBOUR: 'it returns false'. Refute it at one input. -/
def valueBetweenWrong : ChangeSpec := { name := "valueBetween", fn := fun _ => fun
  | [d1, d2, d3] => { results := [.lit (.bool false)], args := [d1, d2, d3] }
  | _ => none }
def ValueBetweenWrongFalsely : Prop := valueBetweenRow.holds Try.pinned (OpenSpec.ofChange valueBetweenWrong)

/-- 'ligaturelaw2.ValueReals': WHATEVER THE INPUT: true; the input reads as it did. -/
def valueRealsSpec : ChangeSpec := { name := "valueReals", fn := fun _ => fun
  | [d1, d2] => { results := [.lit (.bool true)], args := [d1, d2] }
  | _ => none }
def valueRealsRow : OpenClaim := { program := "ytlaigelpkgakeaa", sum := "927912b06b8616965a4ff78367e7780d407268bbb5a3b9de02ba3e1aa3c99f26", func := "ligature/ligaturelaw2.ValueReals", spec := "valueReals", inPlace := ["math.Float64frombits", "math.Float64bits"], apart := false }
def ValueRealsSaid : Prop := valueRealsRow.holds Try.pinned (OpenSpec.ofChange valueRealsSpec)

/-- ITS FALSE NEIGHBOUR: 'it returns false'. Refute it at one input. -/
def valueRealsWrong : ChangeSpec := { name := "valueReals", fn := fun _ => fun
  | [d1, d2] => { results := [.lit (.bool false)], args := [d1, d2] }
  | _ => none }
def ValueRealsWrongFalsely : Prop := valueRealsRow.holds Try.pinned (OpenSpec.ofChange valueRealsWrong)

/-- 'ligaturelaw2.ValueKinds': WHATEVER THE INPUT: true; the input reads as it did. -/
def valueKindsSpec : ChangeSpec := { name := "valueKinds", fn := fun _ => fun
  | [d1, d2] => { results := [.lit (.bool true)], args := [d1, d2] }
  | _ => none }
def valueKindsRow : OpenClaim := { program := "ytlaigelpkgakeaa", sum := "927912b06b8616965a4ff78367e7780d407268bbb5a3b9de02ba3e1aa3c99f26", func := "ligature/ligaturelaw2.ValueKinds", spec := "valueKinds", inPlace := ["math.Float64bits", "math.Float64frombits"], apart := false }
def ValueKindsSaid : Prop := valueKindsRow.holds Try.pinned (OpenSpec.ofChange valueKindsSpec)

/-- ITS FALSE NEIGHBOUR: 'it returns false'. Refute it at one input. -/
def valueKindsWrong : ChangeSpec := { name := "valueKinds", fn := fun _ => fun
  | [d1, d2] => { results := [.lit (.bool false)], args := [d1, d2] }
  | _ => none }
def ValueKindsWrongFalsely : Prop := valueKindsRow.holds Try.pinned (OpenSpec.ofChange valueKindsWrong)

/-- 'ligaturelaw2.ValueTexts': WHATEVER THE INPUT: true; the input reads as it did. -/
def valueTextsSpec : ChangeSpec := { name := "valueTexts", fn := fun _ => fun
  | [d1, d2] => { results := [.lit (.bool true)], args := [d1, d2] }
  | _ => none }
def valueTextsRow : OpenClaim := { program := "ytlaigelpkgakeaa", sum := "927912b06b8616965a4ff78367e7780d407268bbb5a3b9de02ba3e1aa3c99f26", func := "ligature/ligaturelaw2.ValueTexts", spec := "valueTexts", inPlace := ["math.Float64bits", "math.Float64frombits"], apart := false }
def ValueTextsSaid : Prop := valueTextsRow.holds Try.pinned (OpenSpec.ofChange valueTextsSpec)

/-- ITS FALSE NEIGHBOUR: 'it returns false'. Refute it at one input. -/
def valueTextsWrong : ChangeSpec := { name := "valueTexts", fn := fun _ => fun
  | [d1, d2] => { results := [.lit (.bool false)], args := [d1, d2] }
  | _ => none }
def ValueTextsWrongFalsely : Prop := valueTextsRow.holds Try.pinned (OpenSpec.ofChange valueTextsWrong)

/-- 'ligaturelaw2.ValueInts': WHATEVER THE INPUT: true; the input reads as it did. -/
def valueIntsSpec : ChangeSpec := { name := "valueInts", fn := fun _ => fun
  | [d1, d2, d3] => { results := [.lit (.bool true)], args := [d1, d2, d3] }
  | _ => none }
def valueIntsRow : OpenClaim := { program := "ytlaigelpkgakeaa", sum := "927912b06b8616965a4ff78367e7780d407268bbb5a3b9de02ba3e1aa3c99f26", func := "ligature/ligaturelaw2.ValueInts", spec := "valueInts", inPlace := ["math.Float64bits", "math.Float64frombits"], apart := false }
def ValueIntsSaid : Prop := valueIntsRow.holds Try.pinned (OpenSpec.ofChange valueIntsSpec)

/-- ITS FALSE NEIGHBOUR: 'it returns false'. Refute it at one input. -/
def valueIntsWrong : ChangeSpec := { name := "valueInts", fn := fun _ => fun
  | [d1, d2, d3] => { results := [.lit (.bool false)], args := [d1, d2, d3] }
  | _ => none }
def ValueIntsWrongFalsely : Prop := valueIntsRow.holds Try.pinned (OpenSpec.ofChange valueIntsWrong)

/-- 'ligaturelaw2.ValueOdd': WHATEVER THE INPUT: true; the input reads as it did. -/
def valueOddSpec : ChangeSpec := { name := "valueOdd", fn := fun _ => fun
  | [d1, d2, d3] => { results := [.lit (.bool true)], args := [d1, d2, d3] }
  | _ => none }
def valueOddRow : OpenClaim := { program := "ytlaigelpkgakeaa", sum := "927912b06b8616965a4ff78367e7780d407268bbb5a3b9de02ba3e1aa3c99f26", func := "ligature/ligaturelaw2.ValueOdd", spec := "valueOdd", inPlace := ["math.Float64bits", "math.Float64frombits"], apart := false }
def ValueOddSaid : Prop := valueOddRow.holds Try.pinned (OpenSpec.ofChange valueOddSpec)

/-- ITS FALSE NEIGHBOUR: 'it returns false'. Refute it at one input. -/
def valueOddWrong : ChangeSpec := { name := "valueOdd", fn := fun _ => fun
  | [d1, d2, d3] => { results := [.lit (.bool false)], args := [d1, d2, d3] }
  | _ => none }
def ValueOddWrongFalsely : Prop := valueOddRow.holds Try.pinned (OpenSpec.ofChange valueOddWrong)

/- THE SECOND FORM. 'bulk': how many values and letters a reading holds, each counted each time it is reached (what is shared counts as often as it is met; a slice's spare places count too). A statement '..UptoSaid' is the law's where the arguments, and the package variables that the reading takes, are together of bulk at most 1048576: NARROWER than '..Said'. Prove '..Said' where nothing that the law and all that it calls make is longer than what came in: it says more and counts as full. Else prove '..UptoSaid'. A law counts once. -/
mutual
def uptoBulk {H : Type} : DataW H → Nat
  | .lit (.string bytes) => bytes.length + 1
  | .lit _ => 1
  | .nil => 1
  | .ptr d => uptoBulk d + 1
  | .slice elems spare => uptoBulkAll elems + uptoBulkAll spare + 1
  | .agg parts => uptoBulkAll parts + 1
  | .iface _ d => uptoBulk d + 1
  | .map entries => uptoBulkEntries entries + 1
  | .held _ => 1
def uptoBulkAll {H : Type} : List (DataW H) → Nat
  | [] => 0
  | d :: r => uptoBulk d + uptoBulkAll r
def uptoBulkEntries {H : Type} : List (Lit × DataW H) → Nat
  | [] => 0
  | x :: r => uptoBulkEntry x + uptoBulkEntries r
def uptoBulkEntry {H : Type} : Lit × DataW H → Nat
  | (.string bytes, d) => bytes.length + uptoBulk d + 1
  | (_, d) => uptoBulk d + 1
 end
def uptoSmall : (H : Type) → List (DataW H) → Bool := fun _ ds => decide (uptoBulkAll ds ≤ 1048576)
def OpenSpec.upto (s : _root_.Go.ChangeSpec) : _root_.Go.OpenSpec := { _root_.Go.OpenSpec.ofChange s with cond := some uptoSmall }

/-- 'ligaturelaw2.ValueTells', WHERE WHAT IT READS IS OF BULK AT MOST 1048576: true; the input reads as it did. -/
def valueTellsUptoRow : OpenClaim := { program := "ytlaigelpkgakeaa", sum := "927912b06b8616965a4ff78367e7780d407268bbb5a3b9de02ba3e1aa3c99f26", func := "ligature/ligaturelaw2.ValueTells", spec := "valueTells", inPlace := ["math.Float64bits", "math.Float64frombits"], apart := false, narrowed := true }
def ValueTellsUptoSaid : Prop := valueTellsUptoRow.holds Try.pinned (OpenSpec.upto valueTellsSpec)

/-- 'ligaturelaw2.ValueOrders', WHERE WHAT IT READS IS OF BULK AT MOST 1048576: true; the input reads as it did. -/
def valueOrdersUptoRow : OpenClaim := { program := "ytlaigelpkgakeaa", sum := "927912b06b8616965a4ff78367e7780d407268bbb5a3b9de02ba3e1aa3c99f26", func := "ligature/ligaturelaw2.ValueOrders", spec := "valueOrders", inPlace := ["math.Float64bits", "math.Float64frombits"], apart := false, narrowed := true }
def ValueOrdersUptoSaid : Prop := valueOrdersUptoRow.holds Try.pinned (OpenSpec.upto valueOrdersSpec)

/-- 'ligaturelaw2.ValueBetween', WHERE WHAT IT READS IS OF BULK AT MOST 1048576: true; the input reads as it did. -/
def valueBetweenUptoRow : OpenClaim := { program := "ytlaigelpkgakeaa", sum := "927912b06b8616965a4ff78367e7780d407268bbb5a3b9de02ba3e1aa3c99f26", func := "ligature/ligaturelaw2.ValueBetween", spec := "valueBetween", inPlace := ["math.Float64bits", "math.Float64frombits"], apart := false, narrowed := true }
def ValueBetweenUptoSaid : Prop := valueBetweenUptoRow.holds Try.pinned (OpenSpec.upto valueBetweenSpec)

/-- 'ligaturelaw2.ValueReals', WHERE WHAT IT READS IS OF BULK AT MOST 1048576: true; the input reads as it did. -/
def valueRealsUptoRow : OpenClaim := { program := "ytlaigelpkgakeaa", sum := "927912b06b8616965a4ff78367e7780d407268bbb5a3b9de02ba3e1aa3c99f26", func := "ligature/ligaturelaw2.ValueReals", spec := "valueReals", inPlace := ["math.Float64frombits", "math.Float64bits"], apart := false, narrowed := true }
def ValueRealsUptoSaid : Prop := valueRealsUptoRow.holds Try.pinned (OpenSpec.upto valueRealsSpec)

/-- 'ligaturelaw2.ValueKinds', WHERE WHAT IT READS IS OF BULK AT MOST 1048576: true; the input reads as it did. -/
def valueKindsUptoRow : OpenClaim := { program := "ytlaigelpkgakeaa", sum := "927912b06b8616965a4ff78367e7780d407268bbb5a3b9de02ba3e1aa3c99f26", func := "ligature/ligaturelaw2.ValueKinds", spec := "valueKinds", inPlace := ["math.Float64bits", "math.Float64frombits"], apart := false, narrowed := true }
def ValueKindsUptoSaid : Prop := valueKindsUptoRow.holds Try.pinned (OpenSpec.upto valueKindsSpec)

/-- 'ligaturelaw2.ValueTexts', WHERE WHAT IT READS IS OF BULK AT MOST 1048576: true; the input reads as it did. -/
def valueTextsUptoRow : OpenClaim := { program := "ytlaigelpkgakeaa", sum := "927912b06b8616965a4ff78367e7780d407268bbb5a3b9de02ba3e1aa3c99f26", func := "ligature/ligaturelaw2.ValueTexts", spec := "valueTexts", inPlace := ["math.Float64bits", "math.Float64frombits"], apart := false, narrowed := true }
def ValueTextsUptoSaid : Prop := valueTextsUptoRow.holds Try.pinned (OpenSpec.upto valueTextsSpec)

/-- 'ligaturelaw2.ValueInts', WHERE WHAT IT READS IS OF BULK AT MOST 1048576: true; the input reads as it did. -/
def valueIntsUptoRow : OpenClaim := { program := "ytlaigelpkgakeaa", sum := "927912b06b8616965a4ff78367e7780d407268bbb5a3b9de02ba3e1aa3c99f26", func := "ligature/ligaturelaw2.ValueInts", spec := "valueInts", inPlace := ["math.Float64bits", "math.Float64frombits"], apart := false, narrowed := true }
def ValueIntsUptoSaid : Prop := valueIntsUptoRow.holds Try.pinned (OpenSpec.upto valueIntsSpec)

/-- 'ligaturelaw2.ValueOdd', WHERE WHAT IT READS IS OF BULK AT MOST 1048576: true; the input reads as it did. -/
def valueOddUptoRow : OpenClaim := { program := "ytlaigelpkgakeaa", sum := "927912b06b8616965a4ff78367e7780d407268bbb5a3b9de02ba3e1aa3c99f26", func := "ligature/ligaturelaw2.ValueOdd", spec := "valueOdd", inPlace := ["math.Float64bits", "math.Float64frombits"], apart := false, narrowed := true }
def ValueOddUptoSaid : Prop := valueOddUptoRow.holds Try.pinned (OpenSpec.upto valueOddSpec)

end Rows
end Go.Proofs.Ytlaigelpkgakeaa
