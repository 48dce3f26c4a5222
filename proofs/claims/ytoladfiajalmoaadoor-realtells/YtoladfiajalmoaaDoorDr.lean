/- What the rows' list of library tables gives: the cell of math/bits.deBruijn64tab that is read; a world that holds the tables. -/
import Derived.Test.YtoladfiajalmoaaDoorCards
import Derived.Test.YtoladfiajalmoaaDoorTie
import Derived.WalkKit
import Derived.ProofKit
import Derived.OpenShut
import Derived.ChangeOld
import Derived.Below
import Derived.Deep.DeepHandedRow
import Derived.Lib.LaidTab
import Derived.LaidSub
namespace Go.Proofs.YtoladfiajalmoaaDoor
open Go.ChangeShapes Go.WideShapes Go.ChangeAt Go.RowKit
namespace Dr
def lst : List (String × DataW Unit) := Rows.realTellsRow.laid
def nm (i : Nat) : String := (lst.map (·.1)).getD i ""
theorem own : ownKnob Tryd.prog.godebug = none := by kernel_rfl
theorem laidOut : laidOutB Tryd.prog = true := by kernel_rfl
theorem gTab : Tryd.prog.globalNamed (nm 1) = some 4 := by kernel_rfl
theorem gTabType : (Tryd.prog.globals[4]?).map (·.type) = some 81 := by kernel_rfl
theorem cells81 : Tryd.prog.cellsOf 81 = 64 := by kernel_rfl
theorem cells5 : Tryd.prog.cellsOf 5 = 1 := by kernel_rfl
/-- The numbers of a table. -/
def ints {H : Type} : DataW H → List Int
  | .agg l => l.map fun | .lit (.int _ n) => n | _ => 0
  | _ => []
def vals (k : IntKind) (d : DataW Unit) : Array Value := ((ints d).map (Value.int k)).toArray
theorem table {W : World} (h : laidMetH Tryd.prog lst W) : Lib.TabIs Tryd.prog W (nm 1) .u8 (ints (H := Unit) Rows.laid_math_bits_deBruijn64tab) := by
  have h2 := laidMetH.filter (fun x => x.1 == nm 1) h
  have e : lst.filter (fun x => x.1 == nm 1) = [(nm 1, Lib.tabData .u8 (ints (H := Unit) Rows.laid_math_bits_deBruijn64tab))] := by kernel_rfl
  rw [e] at h2
  exact Lib.tabIs_of_head (rest := []) gTab gTabType Tryd.underlying81 Tryd.underlying5 cells5 cells81 h2
theorem cell {W : World} (h : laidMetH Tryd.prog lst W) : W.cell? ⟨4, 15, none⟩ = some (.int .u8 4) := (table h).cell gTab 15 (by decide)
def put (c : Array Value) : Obj → Obj
  | .cells _ t frozen => .cells c t frozen
  | o => o
noncomputable def laidWorld (os : Os) : World :=
  { World.holding Tryd.prog os ⟨#[], #[], []⟩ with heap := (((World.holding Tryd.prog os ⟨#[], #[], []⟩).heap.modify 3 (put (vals .u8 Rows.laid_math_bits_deBruijn32tab))).modify 4 (put (vals .u8 Rows.laid_math_bits_deBruijn64tab))).modify 1 (put (vals .u64 Rows.laid_internal_strconv_uint64pow10)) }
end Dr
end Go.Proofs.YtoladfiajalmoaaDoor
