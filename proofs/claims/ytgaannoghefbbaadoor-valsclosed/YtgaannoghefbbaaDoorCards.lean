/-
  DERIVED. GIVEN WITH THE SEED: THE CARDS: each row of YtgaannoghefbbaaDoorRows.lean that lists a variable, with what it lists TIED to the program's text (the seventh form; the later family's looks); each row that meets fmt, with fmt's text TOLD by the authors' own Lean function (tested against real Go, not proved from fmt's source: count such statements apart). THE CARD IS WHAT COUNTS. Prove the row's statement (the work); the ties are given (YtgaannoghefbbaaDoorTie.lean); close each card by the builder's one call (the guide's Derived/Test/ToyasCard.lean, 'card_holds'). Laid BY PROGRAM, IN A SANDBOX (cutbox-door.mjs). By AI agents, Wed Nov 11 2026. No macro, syntax, notation, axiom, sorry.
-/
import Derived.Test.YtgaannoghefbbaaDoorRows
import GoSem.ClaimSeven
namespace Go.Proofs.YtgaannoghefbbaaDoor
namespace Rows

/-- THE TIED CARD OF 'cupolalaw09.ValsMany'. -/
def valsManyCard : Claim7 := { stood := { row := valsManyRow, standIns := [], harness := (true, "47fd246784c6a4afdbbc35e0550956b77a1dddf032723769fde46f22eb6b9d5c"), looks := false }, kinds := [], alts := [], laidByText := true, laidKinds := [.data, .data], laidTests := true, laidLooks := .later }
def ValsManyCardSaid : Prop := Claim7.holds Tryd.pinned (.plain (OpenSpec.ofChange valsManySpec)) valsManyCard

/-- THE TIED CARD OF 'cupolalaw09.ValsReads'. -/
def valsReadsCard : Claim7 := { stood := { row := valsReadsRow, standIns := [], harness := (true, "47fd246784c6a4afdbbc35e0550956b77a1dddf032723769fde46f22eb6b9d5c"), looks := false }, kinds := [], alts := [], laidByText := true, laidKinds := [.data, .data], laidTests := true, laidLooks := .later }
def ValsReadsCardSaid : Prop := Claim7.holds Tryd.pinned (.plain (OpenSpec.ofChange valsReadsSpec)) valsReadsCard

/-- THE TIED CARD OF 'cupolalaw09.ValsClosed'. -/
def valsClosedCard : Claim7 := { stood := { row := valsClosedRow, standIns := [], harness := (true, "47fd246784c6a4afdbbc35e0550956b77a1dddf032723769fde46f22eb6b9d5c"), looks := false }, kinds := [], alts := [], laidByText := true, laidKinds := [.data, .data], laidTests := true, laidLooks := .later }
def ValsClosedCardSaid : Prop := Claim7.holds Tryd.pinned (.plain (OpenSpec.ofChange valsClosedSpec)) valsClosedCard

/-- THE TIED CARD OF 'cupolalaw09.ValsQuiet'. -/
def valsQuietCard : Claim7 := { stood := { row := valsQuietRow, standIns := [], harness := (true, "47fd246784c6a4afdbbc35e0550956b77a1dddf032723769fde46f22eb6b9d5c"), looks := false }, kinds := [], alts := [], laidByText := true, laidKinds := [.data, .data], laidTests := true, laidLooks := .later }
def ValsQuietCardSaid : Prop := Claim7.holds Tryd.pinned (.plain (OpenSpec.ofChange valsQuietSpec)) valsQuietCard

/-- THE SECOND FORM's CARD OF 'cupolalaw09.ValsMany'. -/
def valsManyUptoCard : Claim7 := { stood := { row := valsManyUptoRow, standIns := [], harness := (true, "47fd246784c6a4afdbbc35e0550956b77a1dddf032723769fde46f22eb6b9d5c"), looks := false }, kinds := [], alts := [], laidByText := true, laidKinds := [.data, .data], laidTests := true, laidLooks := .later }
def ValsManyUptoCardSaid : Prop := Claim7.holds Tryd.pinned (.plain (OpenSpec.upto valsManySpec)) valsManyUptoCard

/-- THE SECOND FORM's CARD OF 'cupolalaw09.ValsReads'. -/
def valsReadsUptoCard : Claim7 := { stood := { row := valsReadsUptoRow, standIns := [], harness := (true, "47fd246784c6a4afdbbc35e0550956b77a1dddf032723769fde46f22eb6b9d5c"), looks := false }, kinds := [], alts := [], laidByText := true, laidKinds := [.data, .data], laidTests := true, laidLooks := .later }
def ValsReadsUptoCardSaid : Prop := Claim7.holds Tryd.pinned (.plain (OpenSpec.upto valsReadsSpec)) valsReadsUptoCard

/-- THE SECOND FORM's CARD OF 'cupolalaw09.ValsClosed'. -/
def valsClosedUptoCard : Claim7 := { stood := { row := valsClosedUptoRow, standIns := [], harness := (true, "47fd246784c6a4afdbbc35e0550956b77a1dddf032723769fde46f22eb6b9d5c"), looks := false }, kinds := [], alts := [], laidByText := true, laidKinds := [.data, .data], laidTests := true, laidLooks := .later }
def ValsClosedUptoCardSaid : Prop := Claim7.holds Tryd.pinned (.plain (OpenSpec.upto valsClosedSpec)) valsClosedUptoCard

/-- THE SECOND FORM's CARD OF 'cupolalaw09.ValsQuiet'. -/
def valsQuietUptoCard : Claim7 := { stood := { row := valsQuietUptoRow, standIns := [], harness := (true, "47fd246784c6a4afdbbc35e0550956b77a1dddf032723769fde46f22eb6b9d5c"), looks := false }, kinds := [], alts := [], laidByText := true, laidKinds := [.data, .data], laidTests := true, laidLooks := .later }
def ValsQuietUptoCardSaid : Prop := Claim7.holds Tryd.pinned (.plain (OpenSpec.upto valsQuietSpec)) valsQuietUptoCard
end Rows
end Go.Proofs.YtgaannoghefbbaaDoor
