/-
  DERIVED. GIVEN WITH THE SEED: THE CARDS: each row of YtckaniemilmphaaDoorRows.lean that lists a variable, with what it lists TIED to the program's text (the seventh form; the later family's looks); each row that meets fmt, with fmt's text TOLD by the authors' own Lean function (tested against real Go, not proved from fmt's source: count such statements apart). THE CARD IS WHAT COUNTS. Prove the row's statement (the work); the ties are given (YtckaniemilmphaaDoorTie.lean); close each card by the builder's one call (the guide's Derived/Test/ToyasCard.lean, 'card_holds'). Laid BY PROGRAM, IN A SANDBOX (cutbox-door.mjs). By AI agents, Wed Nov 11 2026. No macro, syntax, notation, axiom, sorry.
-/
import Derived.Test.YtckaniemilmphaaDoorRows
import GoSem.ClaimSeven
namespace Go.Proofs.YtckaniemilmphaaDoor
namespace Rows

/-- THE TIED CARD OF 'cupolalaw07.RegsHang'. -/
def regsHangCard : Claim7 := { stood := { row := regsHangRow, standIns := [], harness := (true, "8c2cf3928410528221acaa8d27fcbfa5471b99d0a5de1893dbd0391b0121ba87"), looks := false }, kinds := [], alts := [], laidByText := true, laidKinds := [.data], laidTests := true, laidLooks := .later }
def RegsHangCardSaid : Prop := Claim7.holds Tryd.pinned (.plain (OpenSpec.ofChange regsHangSpec)) regsHangCard

/-- THE TIED CARD OF 'cupolalaw07.RegsPlace'. -/
def regsPlaceCard : Claim7 := { stood := { row := regsPlaceRow, standIns := [], harness := (true, "8c2cf3928410528221acaa8d27fcbfa5471b99d0a5de1893dbd0391b0121ba87"), looks := false }, kinds := [], alts := [], laidByText := true, laidKinds := [.data], laidTests := true, laidLooks := .later }
def RegsPlaceCardSaid : Prop := Claim7.holds Tryd.pinned (.plain (OpenSpec.ofChange regsPlaceSpec)) regsPlaceCard

/-- THE TIED CARD OF 'cupolalaw07.RegsSets'. -/
def regsSetsCard : Claim7 := { stood := { row := regsSetsRow, standIns := [], harness := (true, "8c2cf3928410528221acaa8d27fcbfa5471b99d0a5de1893dbd0391b0121ba87"), looks := false }, kinds := [], alts := [], laidByText := true, laidKinds := [.data], laidTests := true, laidLooks := .later }
def RegsSetsCardSaid : Prop := Claim7.holds Tryd.pinned (.plain (OpenSpec.ofChange regsSetsSpec)) regsSetsCard

/-- THE TIED CARD OF 'cupolalaw07.RegsSwap'. -/
def regsSwapCard : Claim7 := { stood := { row := regsSwapRow, standIns := [], harness := (true, "8c2cf3928410528221acaa8d27fcbfa5471b99d0a5de1893dbd0391b0121ba87"), looks := false }, kinds := [], alts := [], laidByText := true, laidKinds := [.data], laidTests := true, laidLooks := .later }
def RegsSwapCardSaid : Prop := Claim7.holds Tryd.pinned (.plain (OpenSpec.ofChange regsSwapSpec)) regsSwapCard

/-- THE SECOND FORM's CARD OF 'cupolalaw07.RegsHang'. -/
def regsHangUptoCard : Claim7 := { stood := { row := regsHangUptoRow, standIns := [], harness := (true, "8c2cf3928410528221acaa8d27fcbfa5471b99d0a5de1893dbd0391b0121ba87"), looks := false }, kinds := [], alts := [], laidByText := true, laidKinds := [.data], laidTests := true, laidLooks := .later }
def RegsHangUptoCardSaid : Prop := Claim7.holds Tryd.pinned (.plain (OpenSpec.upto regsHangSpec)) regsHangUptoCard

/-- THE SECOND FORM's CARD OF 'cupolalaw07.RegsPlace'. -/
def regsPlaceUptoCard : Claim7 := { stood := { row := regsPlaceUptoRow, standIns := [], harness := (true, "8c2cf3928410528221acaa8d27fcbfa5471b99d0a5de1893dbd0391b0121ba87"), looks := false }, kinds := [], alts := [], laidByText := true, laidKinds := [.data], laidTests := true, laidLooks := .later }
def RegsPlaceUptoCardSaid : Prop := Claim7.holds Tryd.pinned (.plain (OpenSpec.upto regsPlaceSpec)) regsPlaceUptoCard

/-- THE SECOND FORM's CARD OF 'cupolalaw07.RegsSets'. -/
def regsSetsUptoCard : Claim7 := { stood := { row := regsSetsUptoRow, standIns := [], harness := (true, "8c2cf3928410528221acaa8d27fcbfa5471b99d0a5de1893dbd0391b0121ba87"), looks := false }, kinds := [], alts := [], laidByText := true, laidKinds := [.data], laidTests := true, laidLooks := .later }
def RegsSetsUptoCardSaid : Prop := Claim7.holds Tryd.pinned (.plain (OpenSpec.upto regsSetsSpec)) regsSetsUptoCard

/-- THE SECOND FORM's CARD OF 'cupolalaw07.RegsSwap'. -/
def regsSwapUptoCard : Claim7 := { stood := { row := regsSwapUptoRow, standIns := [], harness := (true, "8c2cf3928410528221acaa8d27fcbfa5471b99d0a5de1893dbd0391b0121ba87"), looks := false }, kinds := [], alts := [], laidByText := true, laidKinds := [.data], laidTests := true, laidLooks := .later }
def RegsSwapUptoCardSaid : Prop := Claim7.holds Tryd.pinned (.plain (OpenSpec.upto regsSwapSpec)) regsSwapUptoCard
end Rows
end Go.Proofs.YtckaniemilmphaaDoor
