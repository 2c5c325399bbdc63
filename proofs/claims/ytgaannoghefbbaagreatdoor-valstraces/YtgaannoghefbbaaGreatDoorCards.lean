/-
  DERIVED. GIVEN WITH THE SEED: THE CARDS: each row of YtgaannoghefbbaaGreatDoorRows.lean that lists a variable, with what it lists TIED to the program's text (the seventh form; the later family's looks); each row that meets fmt, with fmt's text TOLD by the authors' own Lean function (tested against real Go, not proved from fmt's source: count such statements apart). THE CARD IS WHAT COUNTS. Prove the row's statement (the work); the ties are given (YtgaannoghefbbaaGreatDoorTie.lean); close each card by the builder's one call (the guide's Derived/Test/ToyasCard.lean, 'card_holds'). Laid BY PROGRAM, IN A SANDBOX (cutbox-door.mjs). By AI agents, Wed Nov 11 2026. No macro, syntax, notation, axiom, sorry.
-/
import Derived.Test.YtgaannoghefbbaaGreatDoorRows
import GoSem.ClaimSeven
namespace Go.Proofs.YtgaannoghefbbaaGreatDoor
namespace Rows

/-- THE TIED CARD OF 'cupolalaw09.ValsTraces'. -/
def valsTracesCard : Claim7 := { stood := { row := valsTracesRow, standIns := [], harness := (true, "8ed1e69d9a772775d0026064284b7885406617e64729352d9076ef87d896cfd4"), looks := false }, kinds := [], alts := [], laidByText := true, laidKinds := [.data, .data], laidTests := true, laidLooks := .later }
def ValsTracesCardSaid : Prop := Claim7.holds Tryz.pinned (.plain (OpenSpec.ofChange valsTracesSpec)) valsTracesCard

/-- THE TIED CARD OF 'cupolalaw09.ValsOf'. -/
def valsOfCard : Claim7 := { stood := { row := valsOfRow, standIns := [], harness := (true, "8ed1e69d9a772775d0026064284b7885406617e64729352d9076ef87d896cfd4"), looks := false }, kinds := [], alts := [], laidByText := true, laidKinds := [.data, .data], laidTests := true, laidLooks := .later }
def ValsOfCardSaid : Prop := Claim7.holds Tryz.pinned (.plain (OpenSpec.ofChange valsOfSpec)) valsOfCard

/-- THE SECOND FORM's CARD OF 'cupolalaw09.ValsTraces'. -/
def valsTracesUptoCard : Claim7 := { stood := { row := valsTracesUptoRow, standIns := [], harness := (true, "8ed1e69d9a772775d0026064284b7885406617e64729352d9076ef87d896cfd4"), looks := false }, kinds := [], alts := [], laidByText := true, laidKinds := [.data, .data], laidTests := true, laidLooks := .later }
def ValsTracesUptoCardSaid : Prop := Claim7.holds Tryz.pinned (.plain (OpenSpec.upto valsTracesSpec)) valsTracesUptoCard

/-- THE SECOND FORM's CARD OF 'cupolalaw09.ValsOf'. -/
def valsOfUptoCard : Claim7 := { stood := { row := valsOfUptoRow, standIns := [], harness := (true, "8ed1e69d9a772775d0026064284b7885406617e64729352d9076ef87d896cfd4"), looks := false }, kinds := [], alts := [], laidByText := true, laidKinds := [.data, .data], laidTests := true, laidLooks := .later }
def ValsOfUptoCardSaid : Prop := Claim7.holds Tryz.pinned (.plain (OpenSpec.upto valsOfSpec)) valsOfUptoCard
end Rows
end Go.Proofs.YtgaannoghefbbaaGreatDoor
