/-
  DERIVED. GIVEN WITH THE SEED: THE CARDS: each row of YtoladfiajalmoaaDoorRows.lean that lists a variable, with what it lists TIED to the program's text (the seventh form; the later family's looks); each row that meets fmt, with fmt's text TOLD by the authors' own Lean function (tested against real Go, not proved from fmt's source: count such statements apart). THE CARD IS WHAT COUNTS. Prove the row's statement (the work); the ties are given (YtoladfiajalmoaaDoorTie.lean); close each card by the builder's one call (the guide's Derived/Test/ToyasCard.lean, 'card_holds'). Laid BY PROGRAM, IN A SANDBOX (cutbox-door.mjs). By AI agents, Wed Nov 11 2026. No macro, syntax, notation, axiom, sorry.
-/
import Derived.Test.YtoladfiajalmoaaDoorRows
import GoSem.ClaimSeven
namespace Go.Proofs.YtoladfiajalmoaaDoor
namespace Rows

/-- THE TIED CARD OF 'ligaturelaw1.RealTells'. -/
def realTellsCard : Claim7 := { stood := { row := realTellsRow, standIns := [], harness := (true, "605715b9439ebe6aefe04b7983b6a447da27431fd138629263989121591b76cb"), looks := false }, kinds := [], alts := [], laidByText := true, laidKinds := [.data, .data, .data], laidTests := true, laidLooks := .later }
def RealTellsCardSaid : Prop := Claim7.holds Tryd.pinned (.plain (OpenSpec.ofChange realTellsSpec)) realTellsCard

/-- THE TIED CARD OF 'ligaturelaw1.RealOrders'. -/
def realOrdersCard : Claim7 := { stood := { row := realOrdersRow, standIns := [], harness := (true, "605715b9439ebe6aefe04b7983b6a447da27431fd138629263989121591b76cb"), looks := false }, kinds := [], alts := [], laidByText := true, laidKinds := [.data, .data, .data], laidTests := true, laidLooks := .later }
def RealOrdersCardSaid : Prop := Claim7.holds Tryd.pinned (.plain (OpenSpec.ofChange realOrdersSpec)) realOrdersCard

/-- THE TIED CARD OF 'ligaturelaw1.RealNaNs'. -/
def realNaNsCard : Claim7 := { stood := { row := realNaNsRow, standIns := [], harness := (true, "605715b9439ebe6aefe04b7983b6a447da27431fd138629263989121591b76cb"), looks := false }, kinds := [], alts := [], laidByText := true, laidKinds := [.data, .data, .data], laidTests := true, laidLooks := .later }
def RealNaNsCardSaid : Prop := Claim7.holds Tryd.pinned (.plain (OpenSpec.ofChange realNaNsSpec)) realNaNsCard

/-- THE TIED CARD OF 'ligaturelaw1.RealTexts'. -/
def realTextsCard : Claim7 := { stood := { row := realTextsRow, standIns := [], harness := (true, "605715b9439ebe6aefe04b7983b6a447da27431fd138629263989121591b76cb"), looks := false }, kinds := [], alts := [], laidByText := true, laidKinds := [.data, .data, .data], laidTests := true, laidLooks := .later }
def RealTextsCardSaid : Prop := Claim7.holds Tryd.pinned (.plain (OpenSpec.ofChange realTextsSpec)) realTextsCard

/-- THE SECOND FORM's CARD OF 'ligaturelaw1.RealTells'. -/
def realTellsUptoCard : Claim7 := { stood := { row := realTellsUptoRow, standIns := [], harness := (true, "605715b9439ebe6aefe04b7983b6a447da27431fd138629263989121591b76cb"), looks := false }, kinds := [], alts := [], laidByText := true, laidKinds := [.data, .data, .data], laidTests := true, laidLooks := .later }
def RealTellsUptoCardSaid : Prop := Claim7.holds Tryd.pinned (.plain (OpenSpec.upto realTellsSpec)) realTellsUptoCard

/-- THE SECOND FORM's CARD OF 'ligaturelaw1.RealOrders'. -/
def realOrdersUptoCard : Claim7 := { stood := { row := realOrdersUptoRow, standIns := [], harness := (true, "605715b9439ebe6aefe04b7983b6a447da27431fd138629263989121591b76cb"), looks := false }, kinds := [], alts := [], laidByText := true, laidKinds := [.data, .data, .data], laidTests := true, laidLooks := .later }
def RealOrdersUptoCardSaid : Prop := Claim7.holds Tryd.pinned (.plain (OpenSpec.upto realOrdersSpec)) realOrdersUptoCard

/-- THE SECOND FORM's CARD OF 'ligaturelaw1.RealNaNs'. -/
def realNaNsUptoCard : Claim7 := { stood := { row := realNaNsUptoRow, standIns := [], harness := (true, "605715b9439ebe6aefe04b7983b6a447da27431fd138629263989121591b76cb"), looks := false }, kinds := [], alts := [], laidByText := true, laidKinds := [.data, .data, .data], laidTests := true, laidLooks := .later }
def RealNaNsUptoCardSaid : Prop := Claim7.holds Tryd.pinned (.plain (OpenSpec.upto realNaNsSpec)) realNaNsUptoCard

/-- THE SECOND FORM's CARD OF 'ligaturelaw1.RealTexts'. -/
def realTextsUptoCard : Claim7 := { stood := { row := realTextsUptoRow, standIns := [], harness := (true, "605715b9439ebe6aefe04b7983b6a447da27431fd138629263989121591b76cb"), looks := false }, kinds := [], alts := [], laidByText := true, laidKinds := [.data, .data, .data], laidTests := true, laidLooks := .later }
def RealTextsUptoCardSaid : Prop := Claim7.holds Tryd.pinned (.plain (OpenSpec.upto realTextsSpec)) realTextsUptoCard
end Rows
end Go.Proofs.YtoladfiajalmoaaDoor
