/-
  DERIVED. GIVEN WITH THE SEED: THE CARDS: each row of YtmmdjgjklbchfaaDoorRows.lean that lists a variable, with what it lists TIED to the program's text (the seventh form; the later family's looks); each row that meets fmt, with fmt's text TOLD by the authors' own Lean function (tested against real Go, not proved from fmt's source: count such statements apart). THE CARD IS WHAT COUNTS. Prove the row's statement (the work); the ties are given (YtmmdjgjklbchfaaDoorTie.lean); close each card by the builder's one call (the guide's Derived/Test/ToyasCard.lean, 'card_holds'). Laid BY PROGRAM, IN A SANDBOX (cutbox-door.mjs). By AI agents, Wed Nov 11 2026. No macro, syntax, notation, axiom, sorry.
-/
import Derived.Test.YtmmdjgjklbchfaaDoorRows
import GoSem.ClaimSeven
namespace Go.Proofs.YtmmdjgjklbchfaaDoor
namespace Rows

/-- THE TIED CARD OF 'cupolalaw01.InsTells'. -/
def insTellsCard : Claim7 := { stood := { row := insTellsRow, standIns := [], harness := (true, "f2d2819e9641e93ea9e43828e945dfa33554295c92328f3f0337f4c4b0420917"), looks := false }, kinds := [], alts := [], laidByText := true, laidKinds := [.data], laidTests := true, laidLooks := .later }
def InsTellsCardSaid : Prop := Claim7.holds Tryd.pinned (.plain (OpenSpec.ofChange insTellsSpec)) insTellsCard

/-- THE TIED CARD OF 'cupolalaw01.InsRegs'. -/
def insRegsCard : Claim7 := { stood := { row := insRegsRow, standIns := [], harness := (true, "f2d2819e9641e93ea9e43828e945dfa33554295c92328f3f0337f4c4b0420917"), looks := false }, kinds := [], alts := [], laidByText := true, laidKinds := [.data], laidTests := true, laidLooks := .later }
def InsRegsCardSaid : Prop := Claim7.holds Tryd.pinned (.plain (OpenSpec.ofChange insRegsSpec)) insRegsCard

/-- THE TIED CARD OF 'cupolalaw01.InsWider'. -/
def insWiderCard : Claim7 := { stood := { row := insWiderRow, standIns := [], harness := (true, "f2d2819e9641e93ea9e43828e945dfa33554295c92328f3f0337f4c4b0420917"), looks := false }, kinds := [], alts := [], laidByText := true, laidKinds := [.data], laidTests := true, laidLooks := .later }
def InsWiderCardSaid : Prop := Claim7.holds Tryd.pinned (.plain (OpenSpec.ofChange insWiderSpec)) insWiderCard

/-- THE TIED CARD OF 'cupolalaw01.InsTurned'. -/
def insTurnedCard : Claim7 := { stood := { row := insTurnedRow, standIns := [], harness := (true, "f2d2819e9641e93ea9e43828e945dfa33554295c92328f3f0337f4c4b0420917"), looks := false }, kinds := [], alts := [], laidByText := true, laidKinds := [.data], laidTests := true, laidLooks := .later }
def InsTurnedCardSaid : Prop := Claim7.holds Tryd.pinned (.plain (OpenSpec.ofChange insTurnedSpec)) insTurnedCard

/-- THE TIED CARD OF 'cupolalaw01.InsNames'. -/
def insNamesCard : Claim7 := { stood := { row := insNamesRow, standIns := [], harness := (true, "f2d2819e9641e93ea9e43828e945dfa33554295c92328f3f0337f4c4b0420917"), looks := false }, kinds := [], alts := [], laidByText := true, laidKinds := [.data], laidTests := true, laidLooks := .later }
def InsNamesCardSaid : Prop := Claim7.holds Tryd.pinned (.plain (OpenSpec.ofChange insNamesSpec)) insNamesCard

/-- THE TIED CARD OF 'cupolalaw01.InsLoads'. -/
def insLoadsCard : Claim7 := { stood := { row := insLoadsRow, standIns := [], harness := (true, "f2d2819e9641e93ea9e43828e945dfa33554295c92328f3f0337f4c4b0420917"), looks := false }, kinds := [], alts := [], laidByText := true, laidKinds := [.data], laidTests := true, laidLooks := .later }
def InsLoadsCardSaid : Prop := Claim7.holds Tryd.pinned (.plain (OpenSpec.ofChange insLoadsSpec)) insLoadsCard

/-- THE SECOND FORM's CARD OF 'cupolalaw01.InsTells'. -/
def insTellsUptoCard : Claim7 := { stood := { row := insTellsUptoRow, standIns := [], harness := (true, "f2d2819e9641e93ea9e43828e945dfa33554295c92328f3f0337f4c4b0420917"), looks := false }, kinds := [], alts := [], laidByText := true, laidKinds := [.data], laidTests := true, laidLooks := .later }
def InsTellsUptoCardSaid : Prop := Claim7.holds Tryd.pinned (.plain (OpenSpec.upto insTellsSpec)) insTellsUptoCard

/-- THE SECOND FORM's CARD OF 'cupolalaw01.InsRegs'. -/
def insRegsUptoCard : Claim7 := { stood := { row := insRegsUptoRow, standIns := [], harness := (true, "f2d2819e9641e93ea9e43828e945dfa33554295c92328f3f0337f4c4b0420917"), looks := false }, kinds := [], alts := [], laidByText := true, laidKinds := [.data], laidTests := true, laidLooks := .later }
def InsRegsUptoCardSaid : Prop := Claim7.holds Tryd.pinned (.plain (OpenSpec.upto insRegsSpec)) insRegsUptoCard

/-- THE SECOND FORM's CARD OF 'cupolalaw01.InsWider'. -/
def insWiderUptoCard : Claim7 := { stood := { row := insWiderUptoRow, standIns := [], harness := (true, "f2d2819e9641e93ea9e43828e945dfa33554295c92328f3f0337f4c4b0420917"), looks := false }, kinds := [], alts := [], laidByText := true, laidKinds := [.data], laidTests := true, laidLooks := .later }
def InsWiderUptoCardSaid : Prop := Claim7.holds Tryd.pinned (.plain (OpenSpec.upto insWiderSpec)) insWiderUptoCard

/-- THE SECOND FORM's CARD OF 'cupolalaw01.InsTurned'. -/
def insTurnedUptoCard : Claim7 := { stood := { row := insTurnedUptoRow, standIns := [], harness := (true, "f2d2819e9641e93ea9e43828e945dfa33554295c92328f3f0337f4c4b0420917"), looks := false }, kinds := [], alts := [], laidByText := true, laidKinds := [.data], laidTests := true, laidLooks := .later }
def InsTurnedUptoCardSaid : Prop := Claim7.holds Tryd.pinned (.plain (OpenSpec.upto insTurnedSpec)) insTurnedUptoCard

/-- THE SECOND FORM's CARD OF 'cupolalaw01.InsNames'. -/
def insNamesUptoCard : Claim7 := { stood := { row := insNamesUptoRow, standIns := [], harness := (true, "f2d2819e9641e93ea9e43828e945dfa33554295c92328f3f0337f4c4b0420917"), looks := false }, kinds := [], alts := [], laidByText := true, laidKinds := [.data], laidTests := true, laidLooks := .later }
def InsNamesUptoCardSaid : Prop := Claim7.holds Tryd.pinned (.plain (OpenSpec.upto insNamesSpec)) insNamesUptoCard

/-- THE SECOND FORM's CARD OF 'cupolalaw01.InsLoads'. -/
def insLoadsUptoCard : Claim7 := { stood := { row := insLoadsUptoRow, standIns := [], harness := (true, "f2d2819e9641e93ea9e43828e945dfa33554295c92328f3f0337f4c4b0420917"), looks := false }, kinds := [], alts := [], laidByText := true, laidKinds := [.data], laidTests := true, laidLooks := .later }
def InsLoadsUptoCardSaid : Prop := Claim7.holds Tryd.pinned (.plain (OpenSpec.upto insLoadsSpec)) insLoadsUptoCard
end Rows
end Go.Proofs.YtmmdjgjklbchfaaDoor
