/-
  DERIVED. GIVEN WITH THE SEED: THE CARDS: each row of YtkiefbldkidobaaDoorRows.lean that lists a variable, with what it lists TIED to the program's text (the seventh form; the later family's looks); each row that meets fmt, with fmt's text TOLD by the authors' own Lean function (tested against real Go, not proved from fmt's source: count such statements apart). THE CARD IS WHAT COUNTS. Prove the row's statement (the work); the ties are given (YtkiefbldkidobaaDoorTie.lean); close each card by the builder's one call (the guide's Derived/Test/ToyasCard.lean, 'card_holds'). Laid BY PROGRAM, IN A SANDBOX (cutbox-door.mjs). By AI agents, Wed Nov 11 2026. No macro, syntax, notation, axiom, sorry.
-/
import Derived.Test.YtkiefbldkidobaaDoorRows
import GoSem.ClaimSeven
namespace Go.Proofs.YtkiefbldkidobaaDoor
namespace Rows

/-- THE TIED CARD OF 'cupolalaw08.FlowRuns'. -/
def flowRunsCard : Claim7 := { stood := { row := flowRunsRow, standIns := [], harness := (true, "83d5f1d4e8b50e81e9dd3fdb7bea83adb185ebcbb3bc6fff6a36369b441bd3c2"), looks := false }, kinds := [], alts := [], laidByText := true, laidKinds := [.data, .data], laidTests := true, laidLooks := .later }
def FlowRunsCardSaid : Prop := Claim7.holds Tryd.pinned (.plain (OpenSpec.ofChange flowRunsSpec)) flowRunsCard

/-- THE TIED CARD OF 'cupolalaw08.FlowMore'. -/
def flowMoreCard : Claim7 := { stood := { row := flowMoreRow, standIns := [], harness := (true, "83d5f1d4e8b50e81e9dd3fdb7bea83adb185ebcbb3bc6fff6a36369b441bd3c2"), looks := false }, kinds := [], alts := [], laidByText := true, laidKinds := [.data, .data], laidTests := true, laidLooks := .later }
def FlowMoreCardSaid : Prop := Claim7.holds Tryd.pinned (.plain (OpenSpec.ofChange flowMoreSpec)) flowMoreCard

/-- THE TIED CARD OF 'cupolalaw08.FlowHangs'. -/
def flowHangsCard : Claim7 := { stood := { row := flowHangsRow, standIns := [], harness := (true, "83d5f1d4e8b50e81e9dd3fdb7bea83adb185ebcbb3bc6fff6a36369b441bd3c2"), looks := false }, kinds := [], alts := [], laidByText := true, laidKinds := [.data, .data], laidTests := true, laidLooks := .later }
def FlowHangsCardSaid : Prop := Claim7.holds Tryd.pinned (.plain (OpenSpec.ofChange flowHangsSpec)) flowHangsCard

/-- THE TIED CARD OF 'cupolalaw08.FlowVals'. -/
def flowValsCard : Claim7 := { stood := { row := flowValsRow, standIns := [], harness := (true, "83d5f1d4e8b50e81e9dd3fdb7bea83adb185ebcbb3bc6fff6a36369b441bd3c2"), looks := false }, kinds := [], alts := [], laidByText := true, laidKinds := [.data, .data], laidTests := true, laidLooks := .later }
def FlowValsCardSaid : Prop := Claim7.holds Tryd.pinned (.plain (OpenSpec.ofChange flowValsSpec)) flowValsCard

/-- THE TIED CARD OF 'cupolalaw08.FlowBare'. -/
def flowBareCard : Claim7 := { stood := { row := flowBareRow, standIns := [], harness := (true, "83d5f1d4e8b50e81e9dd3fdb7bea83adb185ebcbb3bc6fff6a36369b441bd3c2"), looks := false }, kinds := [], alts := [], laidByText := true, laidKinds := [.data, .data], laidTests := true, laidLooks := .later }
def FlowBareCardSaid : Prop := Claim7.holds Tryd.pinned (.plain (OpenSpec.ofChange flowBareSpec)) flowBareCard

/-- THE TIED CARD OF 'cupolalaw08.FlowBegins'. -/
def flowBeginsCard : Claim7 := { stood := { row := flowBeginsRow, standIns := [], harness := (true, "83d5f1d4e8b50e81e9dd3fdb7bea83adb185ebcbb3bc6fff6a36369b441bd3c2"), looks := false }, kinds := [], alts := [], laidByText := true, laidKinds := [.data, .data], laidTests := true, laidLooks := .later }
def FlowBeginsCardSaid : Prop := Claim7.holds Tryd.pinned (.plain (OpenSpec.ofChange flowBeginsSpec)) flowBeginsCard

/-- THE SECOND FORM's CARD OF 'cupolalaw08.FlowRuns'. -/
def flowRunsUptoCard : Claim7 := { stood := { row := flowRunsUptoRow, standIns := [], harness := (true, "83d5f1d4e8b50e81e9dd3fdb7bea83adb185ebcbb3bc6fff6a36369b441bd3c2"), looks := false }, kinds := [], alts := [], laidByText := true, laidKinds := [.data, .data], laidTests := true, laidLooks := .later }
def FlowRunsUptoCardSaid : Prop := Claim7.holds Tryd.pinned (.plain (OpenSpec.upto flowRunsSpec)) flowRunsUptoCard

/-- THE SECOND FORM's CARD OF 'cupolalaw08.FlowMore'. -/
def flowMoreUptoCard : Claim7 := { stood := { row := flowMoreUptoRow, standIns := [], harness := (true, "83d5f1d4e8b50e81e9dd3fdb7bea83adb185ebcbb3bc6fff6a36369b441bd3c2"), looks := false }, kinds := [], alts := [], laidByText := true, laidKinds := [.data, .data], laidTests := true, laidLooks := .later }
def FlowMoreUptoCardSaid : Prop := Claim7.holds Tryd.pinned (.plain (OpenSpec.upto flowMoreSpec)) flowMoreUptoCard

/-- THE SECOND FORM's CARD OF 'cupolalaw08.FlowHangs'. -/
def flowHangsUptoCard : Claim7 := { stood := { row := flowHangsUptoRow, standIns := [], harness := (true, "83d5f1d4e8b50e81e9dd3fdb7bea83adb185ebcbb3bc6fff6a36369b441bd3c2"), looks := false }, kinds := [], alts := [], laidByText := true, laidKinds := [.data, .data], laidTests := true, laidLooks := .later }
def FlowHangsUptoCardSaid : Prop := Claim7.holds Tryd.pinned (.plain (OpenSpec.upto flowHangsSpec)) flowHangsUptoCard

/-- THE SECOND FORM's CARD OF 'cupolalaw08.FlowVals'. -/
def flowValsUptoCard : Claim7 := { stood := { row := flowValsUptoRow, standIns := [], harness := (true, "83d5f1d4e8b50e81e9dd3fdb7bea83adb185ebcbb3bc6fff6a36369b441bd3c2"), looks := false }, kinds := [], alts := [], laidByText := true, laidKinds := [.data, .data], laidTests := true, laidLooks := .later }
def FlowValsUptoCardSaid : Prop := Claim7.holds Tryd.pinned (.plain (OpenSpec.upto flowValsSpec)) flowValsUptoCard

/-- THE SECOND FORM's CARD OF 'cupolalaw08.FlowBare'. -/
def flowBareUptoCard : Claim7 := { stood := { row := flowBareUptoRow, standIns := [], harness := (true, "83d5f1d4e8b50e81e9dd3fdb7bea83adb185ebcbb3bc6fff6a36369b441bd3c2"), looks := false }, kinds := [], alts := [], laidByText := true, laidKinds := [.data, .data], laidTests := true, laidLooks := .later }
def FlowBareUptoCardSaid : Prop := Claim7.holds Tryd.pinned (.plain (OpenSpec.upto flowBareSpec)) flowBareUptoCard

/-- THE SECOND FORM's CARD OF 'cupolalaw08.FlowBegins'. -/
def flowBeginsUptoCard : Claim7 := { stood := { row := flowBeginsUptoRow, standIns := [], harness := (true, "83d5f1d4e8b50e81e9dd3fdb7bea83adb185ebcbb3bc6fff6a36369b441bd3c2"), looks := false }, kinds := [], alts := [], laidByText := true, laidKinds := [.data, .data], laidTests := true, laidLooks := .later }
def FlowBeginsUptoCardSaid : Prop := Claim7.holds Tryd.pinned (.plain (OpenSpec.upto flowBeginsSpec)) flowBeginsUptoCard
end Rows
end Go.Proofs.YtkiefbldkidobaaDoor
