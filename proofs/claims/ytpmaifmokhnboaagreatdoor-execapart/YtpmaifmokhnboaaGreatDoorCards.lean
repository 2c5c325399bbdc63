/-
  DERIVED. GIVEN WITH THE SEED: THE CARDS: each row of YtpmaifmokhnboaaGreatDoorRows.lean that lists a variable, with what it lists TIED to the program's text (the seventh form; the later family's looks); each row that meets fmt, with fmt's text TOLD by the authors' own Lean function (tested against real Go, not proved from fmt's source: count such statements apart). THE CARD IS WHAT COUNTS. Prove the row's statement (the work); the ties are given (YtpmaifmokhnboaaGreatDoorTie.lean); close each card by the builder's one call (the guide's Derived/Test/ToyasCard.lean, 'card_holds'). Laid BY PROGRAM, IN A SANDBOX (cutbox-door.mjs). By AI agents, Wed Nov 11 2026. No macro, syntax, notation, axiom, sorry.
-/
import Derived.Test.YtpmaifmokhnboaaGreatDoorRows
import GoSem.ClaimSeven
namespace Go.Proofs.YtpmaifmokhnboaaGreatDoor
namespace Rows

/-- THE TIED CARD OF 'cupolalaw10.ExecJoins'. -/
def execJoinsCard : Claim7 := { stood := { row := execJoinsRow, standIns := [], harness := (true, "3c89dc2ef458d7bdc1930ae40843c69d382a69526863e454776380df6c07c1ba"), looks := false }, kinds := [], alts := [], laidByText := true, laidKinds := [.data, .data], laidTests := true, laidLooks := .later }
def ExecJoinsCardSaid : Prop := Claim7.holds Tryz.pinned (.plain (OpenSpec.ofChange execJoinsSpec)) execJoinsCard

/-- THE TIED CARD OF 'cupolalaw10.ExecAll'. -/
def execAllCard : Claim7 := { stood := { row := execAllRow, standIns := [], harness := (true, "3c89dc2ef458d7bdc1930ae40843c69d382a69526863e454776380df6c07c1ba"), looks := false }, kinds := [], alts := [], laidByText := true, laidKinds := [.data, .data], laidTests := true, laidLooks := .later }
def ExecAllCardSaid : Prop := Claim7.holds Tryz.pinned (.plain (OpenSpec.ofChange execAllSpec)) execAllCard

/-- THE TIED CARD OF 'cupolalaw10.ExecPo'. -/
def execPoCard : Claim7 := { stood := { row := execPoRow, standIns := [], harness := (true, "3c89dc2ef458d7bdc1930ae40843c69d382a69526863e454776380df6c07c1ba"), looks := false }, kinds := [], alts := [], laidByText := true, laidKinds := [.data, .data], laidTests := true, laidLooks := .later }
def ExecPoCardSaid : Prop := Claim7.holds Tryz.pinned (.plain (OpenSpec.ofChange execPoSpec)) execPoCard

/-- THE TIED CARD OF 'cupolalaw10.ExecShape'. -/
def execShapeCard : Claim7 := { stood := { row := execShapeRow, standIns := [], harness := (true, "3c89dc2ef458d7bdc1930ae40843c69d382a69526863e454776380df6c07c1ba"), looks := false }, kinds := [], alts := [], laidByText := true, laidKinds := [.data, .data], laidTests := true, laidLooks := .later }
def ExecShapeCardSaid : Prop := Claim7.holds Tryz.pinned (.plain (OpenSpec.ofChange execShapeSpec)) execShapeCard

/-- THE TIED CARD OF 'cupolalaw10.ExecApart'. -/
def execApartCard : Claim7 := { stood := { row := execApartRow, standIns := [], harness := (true, "3c89dc2ef458d7bdc1930ae40843c69d382a69526863e454776380df6c07c1ba"), looks := false }, kinds := [], alts := [], laidByText := true, laidKinds := [.data, .data], laidTests := true, laidLooks := .later }
def ExecApartCardSaid : Prop := Claim7.holds Tryz.pinned (.plain (OpenSpec.ofChange execApartSpec)) execApartCard

/-- THE SECOND FORM's CARD OF 'cupolalaw10.ExecJoins'. -/
def execJoinsUptoCard : Claim7 := { stood := { row := execJoinsUptoRow, standIns := [], harness := (true, "3c89dc2ef458d7bdc1930ae40843c69d382a69526863e454776380df6c07c1ba"), looks := false }, kinds := [], alts := [], laidByText := true, laidKinds := [.data, .data], laidTests := true, laidLooks := .later }
def ExecJoinsUptoCardSaid : Prop := Claim7.holds Tryz.pinned (.plain (OpenSpec.upto execJoinsSpec)) execJoinsUptoCard

/-- THE SECOND FORM's CARD OF 'cupolalaw10.ExecAll'. -/
def execAllUptoCard : Claim7 := { stood := { row := execAllUptoRow, standIns := [], harness := (true, "3c89dc2ef458d7bdc1930ae40843c69d382a69526863e454776380df6c07c1ba"), looks := false }, kinds := [], alts := [], laidByText := true, laidKinds := [.data, .data], laidTests := true, laidLooks := .later }
def ExecAllUptoCardSaid : Prop := Claim7.holds Tryz.pinned (.plain (OpenSpec.upto execAllSpec)) execAllUptoCard

/-- THE SECOND FORM's CARD OF 'cupolalaw10.ExecPo'. -/
def execPoUptoCard : Claim7 := { stood := { row := execPoUptoRow, standIns := [], harness := (true, "3c89dc2ef458d7bdc1930ae40843c69d382a69526863e454776380df6c07c1ba"), looks := false }, kinds := [], alts := [], laidByText := true, laidKinds := [.data, .data], laidTests := true, laidLooks := .later }
def ExecPoUptoCardSaid : Prop := Claim7.holds Tryz.pinned (.plain (OpenSpec.upto execPoSpec)) execPoUptoCard

/-- THE SECOND FORM's CARD OF 'cupolalaw10.ExecShape'. -/
def execShapeUptoCard : Claim7 := { stood := { row := execShapeUptoRow, standIns := [], harness := (true, "3c89dc2ef458d7bdc1930ae40843c69d382a69526863e454776380df6c07c1ba"), looks := false }, kinds := [], alts := [], laidByText := true, laidKinds := [.data, .data], laidTests := true, laidLooks := .later }
def ExecShapeUptoCardSaid : Prop := Claim7.holds Tryz.pinned (.plain (OpenSpec.upto execShapeSpec)) execShapeUptoCard

/-- THE SECOND FORM's CARD OF 'cupolalaw10.ExecApart'. -/
def execApartUptoCard : Claim7 := { stood := { row := execApartUptoRow, standIns := [], harness := (true, "3c89dc2ef458d7bdc1930ae40843c69d382a69526863e454776380df6c07c1ba"), looks := false }, kinds := [], alts := [], laidByText := true, laidKinds := [.data, .data], laidTests := true, laidLooks := .later }
def ExecApartUptoCardSaid : Prop := Claim7.holds Tryz.pinned (.plain (OpenSpec.upto execApartSpec)) execApartUptoCard
end Rows
end Go.Proofs.YtpmaifmokhnboaaGreatDoor
