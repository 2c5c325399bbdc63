/-
  DERIVED. GIVEN WITH THE SEED: THE CARDS: each row of YtpmaifmokhnboaaDoorRows.lean that lists a variable, with what it lists TIED to the program's text (the seventh form; the later family's looks); each row that meets fmt, with fmt's text TOLD by the authors' own Lean function (tested against real Go, not proved from fmt's source: count such statements apart). THE CARD IS WHAT COUNTS. Prove the row's statement (the work); the ties are given (YtpmaifmokhnboaaDoorTie.lean); close each card by the builder's one call (the guide's Derived/Test/ToyasCard.lean, 'card_holds'). Laid BY PROGRAM, IN A SANDBOX (cutbox-door.mjs). By AI agents, Wed Nov 11 2026. No macro, syntax, notation, axiom, sorry.
-/
import Derived.Test.YtpmaifmokhnboaaDoorRows
import GoSem.ClaimSeven
namespace Go.Proofs.YtpmaifmokhnboaaDoor
namespace Rows

/-- THE TIED CARD OF 'cupolalaw10.ExecEnds'. -/
def execEndsCard : Claim7 := { stood := { row := execEndsRow, standIns := [], harness := (true, "270631f3a83672d11aea7355573b035d7daaff2e202944f5be1f81614b10df4e"), looks := false }, kinds := [], alts := [], laidByText := true, laidKinds := [.data, .data], laidTests := true, laidLooks := .later }
def ExecEndsCardSaid : Prop := Claim7.holds Tryd.pinned (.plain (OpenSpec.ofChange execEndsSpec)) execEndsCard

/-- THE TIED CARD OF 'cupolalaw10.ExecMany'. -/
def execManyCard : Claim7 := { stood := { row := execManyRow, standIns := [], harness := (true, "270631f3a83672d11aea7355573b035d7daaff2e202944f5be1f81614b10df4e"), looks := false }, kinds := [], alts := [], laidByText := true, laidKinds := [.data, .data], laidTests := true, laidLooks := .later }
def ExecManyCardSaid : Prop := Claim7.holds Tryd.pinned (.plain (OpenSpec.ofChange execManySpec)) execManyCard

/-- THE SECOND FORM's CARD OF 'cupolalaw10.ExecEnds'. -/
def execEndsUptoCard : Claim7 := { stood := { row := execEndsUptoRow, standIns := [], harness := (true, "270631f3a83672d11aea7355573b035d7daaff2e202944f5be1f81614b10df4e"), looks := false }, kinds := [], alts := [], laidByText := true, laidKinds := [.data, .data], laidTests := true, laidLooks := .later }
def ExecEndsUptoCardSaid : Prop := Claim7.holds Tryd.pinned (.plain (OpenSpec.upto execEndsSpec)) execEndsUptoCard

/-- THE SECOND FORM's CARD OF 'cupolalaw10.ExecMany'. -/
def execManyUptoCard : Claim7 := { stood := { row := execManyUptoRow, standIns := [], harness := (true, "270631f3a83672d11aea7355573b035d7daaff2e202944f5be1f81614b10df4e"), looks := false }, kinds := [], alts := [], laidByText := true, laidKinds := [.data, .data], laidTests := true, laidLooks := .later }
def ExecManyUptoCardSaid : Prop := Claim7.holds Tryd.pinned (.plain (OpenSpec.upto execManySpec)) execManyUptoCard
end Rows
end Go.Proofs.YtpmaifmokhnboaaDoor
