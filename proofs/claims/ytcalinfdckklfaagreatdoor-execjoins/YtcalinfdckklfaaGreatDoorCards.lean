/-
  DERIVED. GIVEN WITH THE SEED: THE CARDS: each row of YtcalinfdckklfaaGreatDoorRows.lean that lists a variable, with what it lists TIED to the program's text (the seventh form; the later family's looks); each row that meets fmt, with fmt's text TOLD by the authors' own Lean function (tested against real Go, not proved from fmt's source: count such statements apart). THE CARD IS WHAT COUNTS. Prove the row's statement (the work); the ties are given (YtcalinfdckklfaaGreatDoorTie.lean); close each card by the builder's one call (the guide's Derived/Test/ToyasCard.lean, 'card_holds'). Laid BY PROGRAM, IN A SANDBOX (cutbox-door.mjs). By AI agents, Wed Nov 11 2026. No macro, syntax, notation, axiom, sorry.
-/
import Derived.Test.YtcalinfdckklfaaGreatDoorRows
import GoSem.ClaimSeven
namespace Go.Proofs.YtcalinfdckklfaaGreatDoor
namespace Rows

/-- THE TIED CARD OF 'cupolalaw10.ExecJoins'. -/
def execJoinsCard : Claim7 := { stood := { row := execJoinsRow, standIns := [], harness := (true, "fbef50783aed2e2b17eeff876835b9f665fdd82b2ed209873f3c910f05033aab"), looks := false }, kinds := [], alts := [], laidByText := true, laidKinds := [.data, .data], laidTests := true, laidLooks := .later }
def ExecJoinsCardSaid : Prop := Claim7.holds Tryz.pinned (.plain (OpenSpec.ofChange execJoinsSpec)) execJoinsCard

/-- THE TIED CARD OF 'cupolalaw10.ExecAll'. -/
def execAllCard : Claim7 := { stood := { row := execAllRow, standIns := [], harness := (true, "fbef50783aed2e2b17eeff876835b9f665fdd82b2ed209873f3c910f05033aab"), looks := false }, kinds := [], alts := [], laidByText := true, laidKinds := [.data, .data], laidTests := true, laidLooks := .later }
def ExecAllCardSaid : Prop := Claim7.holds Tryz.pinned (.plain (OpenSpec.ofChange execAllSpec)) execAllCard

/-- THE SECOND FORM's CARD OF 'cupolalaw10.ExecJoins'. -/
def execJoinsUptoCard : Claim7 := { stood := { row := execJoinsUptoRow, standIns := [], harness := (true, "fbef50783aed2e2b17eeff876835b9f665fdd82b2ed209873f3c910f05033aab"), looks := false }, kinds := [], alts := [], laidByText := true, laidKinds := [.data, .data], laidTests := true, laidLooks := .later }
def ExecJoinsUptoCardSaid : Prop := Claim7.holds Tryz.pinned (.plain (OpenSpec.upto execJoinsSpec)) execJoinsUptoCard

/-- THE SECOND FORM's CARD OF 'cupolalaw10.ExecAll'. -/
def execAllUptoCard : Claim7 := { stood := { row := execAllUptoRow, standIns := [], harness := (true, "fbef50783aed2e2b17eeff876835b9f665fdd82b2ed209873f3c910f05033aab"), looks := false }, kinds := [], alts := [], laidByText := true, laidKinds := [.data, .data], laidTests := true, laidLooks := .later }
def ExecAllUptoCardSaid : Prop := Claim7.holds Tryz.pinned (.plain (OpenSpec.upto execAllSpec)) execAllUptoCard
end Rows
end Go.Proofs.YtcalinfdckklfaaGreatDoor
