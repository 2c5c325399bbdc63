/-
  DERIVED. GIVEN WITH THE SEED: THE CARDS: each row of YtpmecgagbjphdaaDoorRows.lean that lists a variable, with what it lists TIED to the program's text (the seventh form; the later family's looks); each row that meets fmt, with fmt's text TOLD by the authors' own Lean function (tested against real Go, not proved from fmt's source: count such statements apart). THE CARD IS WHAT COUNTS. Prove the row's statement (the work); the ties are given (YtpmecgagbjphdaaDoorTie.lean); close each card by the builder's one call (the guide's Derived/Test/ToyasCard.lean, 'card_holds'). Laid BY PROGRAM, IN A SANDBOX (cutbox-door.mjs). By AI agents, Wed Nov 11 2026. No macro, syntax, notation, axiom, sorry.
-/
import Derived.Test.YtpmecgagbjphdaaDoorRows
import GoSem.ClaimSeven
namespace Go.Proofs.YtpmecgagbjphdaaDoor
namespace Rows

/-- THE TIED CARD OF 'cupolalaw02.TestChecks'. -/
def testChecksCard : Claim7 := { stood := { row := testChecksRow, standIns := [], harness := (true, "6de7ee9364b0b35d3c29cfde293a5188c6a4572c1254d596b7b71b8893761aea"), looks := false }, kinds := [], alts := [], laidByText := true, laidKinds := [.data], laidTests := true, laidLooks := .later }
def TestChecksCardSaid : Prop := Claim7.holds Tryd.pinned (.plain (OpenSpec.ofChange testChecksSpec)) testChecksCard

/-- THE TIED CARD OF 'cupolalaw02.TestTurns'. -/
def testTurnsCard : Claim7 := { stood := { row := testTurnsRow, standIns := [], harness := (true, "6de7ee9364b0b35d3c29cfde293a5188c6a4572c1254d596b7b71b8893761aea"), looks := false }, kinds := [], alts := [], laidByText := true, laidKinds := [.data], laidTests := true, laidLooks := .later }
def TestTurnsCardSaid : Prop := Claim7.holds Tryd.pinned (.plain (OpenSpec.ofChange testTurnsSpec)) testTurnsCard

/-- THE TIED CARD OF 'cupolalaw02.TestKeeps'. -/
def testKeepsCard : Claim7 := { stood := { row := testKeepsRow, standIns := [], harness := (true, "6de7ee9364b0b35d3c29cfde293a5188c6a4572c1254d596b7b71b8893761aea"), looks := false }, kinds := [], alts := [], laidByText := true, laidKinds := [.data], laidTests := true, laidLooks := .later }
def TestKeepsCardSaid : Prop := Claim7.holds Tryd.pinned (.plain (OpenSpec.ofChange testKeepsSpec)) testKeepsCard

/-- THE TIED CARD OF 'cupolalaw02.TestAgain'. -/
def testAgainCard : Claim7 := { stood := { row := testAgainRow, standIns := [], harness := (true, "6de7ee9364b0b35d3c29cfde293a5188c6a4572c1254d596b7b71b8893761aea"), looks := false }, kinds := [], alts := [], laidByText := true, laidKinds := [.data], laidTests := true, laidLooks := .later }
def TestAgainCardSaid : Prop := Claim7.holds Tryd.pinned (.plain (OpenSpec.ofChange testAgainSpec)) testAgainCard

/-- THE TIED CARD OF 'cupolalaw02.TestCounts'. -/
def testCountsCard : Claim7 := { stood := { row := testCountsRow, standIns := [], harness := (true, "6de7ee9364b0b35d3c29cfde293a5188c6a4572c1254d596b7b71b8893761aea"), looks := false }, kinds := [], alts := [], laidByText := true, laidKinds := [.data], laidTests := true, laidLooks := .later }
def TestCountsCardSaid : Prop := Claim7.holds Tryd.pinned (.plain (OpenSpec.ofChange testCountsSpec)) testCountsCard

/-- THE TIED CARD OF 'cupolalaw02.TestMore'. -/
def testMoreCard : Claim7 := { stood := { row := testMoreRow, standIns := [], harness := (true, "6de7ee9364b0b35d3c29cfde293a5188c6a4572c1254d596b7b71b8893761aea"), looks := false }, kinds := [], alts := [], laidByText := true, laidKinds := [.data], laidTests := true, laidLooks := .later }
def TestMoreCardSaid : Prop := Claim7.holds Tryd.pinned (.plain (OpenSpec.ofChange testMoreSpec)) testMoreCard

/-- THE SECOND FORM's CARD OF 'cupolalaw02.TestChecks'. -/
def testChecksUptoCard : Claim7 := { stood := { row := testChecksUptoRow, standIns := [], harness := (true, "6de7ee9364b0b35d3c29cfde293a5188c6a4572c1254d596b7b71b8893761aea"), looks := false }, kinds := [], alts := [], laidByText := true, laidKinds := [.data], laidTests := true, laidLooks := .later }
def TestChecksUptoCardSaid : Prop := Claim7.holds Tryd.pinned (.plain (OpenSpec.upto testChecksSpec)) testChecksUptoCard

/-- THE SECOND FORM's CARD OF 'cupolalaw02.TestTurns'. -/
def testTurnsUptoCard : Claim7 := { stood := { row := testTurnsUptoRow, standIns := [], harness := (true, "6de7ee9364b0b35d3c29cfde293a5188c6a4572c1254d596b7b71b8893761aea"), looks := false }, kinds := [], alts := [], laidByText := true, laidKinds := [.data], laidTests := true, laidLooks := .later }
def TestTurnsUptoCardSaid : Prop := Claim7.holds Tryd.pinned (.plain (OpenSpec.upto testTurnsSpec)) testTurnsUptoCard

/-- THE SECOND FORM's CARD OF 'cupolalaw02.TestKeeps'. -/
def testKeepsUptoCard : Claim7 := { stood := { row := testKeepsUptoRow, standIns := [], harness := (true, "6de7ee9364b0b35d3c29cfde293a5188c6a4572c1254d596b7b71b8893761aea"), looks := false }, kinds := [], alts := [], laidByText := true, laidKinds := [.data], laidTests := true, laidLooks := .later }
def TestKeepsUptoCardSaid : Prop := Claim7.holds Tryd.pinned (.plain (OpenSpec.upto testKeepsSpec)) testKeepsUptoCard

/-- THE SECOND FORM's CARD OF 'cupolalaw02.TestAgain'. -/
def testAgainUptoCard : Claim7 := { stood := { row := testAgainUptoRow, standIns := [], harness := (true, "6de7ee9364b0b35d3c29cfde293a5188c6a4572c1254d596b7b71b8893761aea"), looks := false }, kinds := [], alts := [], laidByText := true, laidKinds := [.data], laidTests := true, laidLooks := .later }
def TestAgainUptoCardSaid : Prop := Claim7.holds Tryd.pinned (.plain (OpenSpec.upto testAgainSpec)) testAgainUptoCard

/-- THE SECOND FORM's CARD OF 'cupolalaw02.TestCounts'. -/
def testCountsUptoCard : Claim7 := { stood := { row := testCountsUptoRow, standIns := [], harness := (true, "6de7ee9364b0b35d3c29cfde293a5188c6a4572c1254d596b7b71b8893761aea"), looks := false }, kinds := [], alts := [], laidByText := true, laidKinds := [.data], laidTests := true, laidLooks := .later }
def TestCountsUptoCardSaid : Prop := Claim7.holds Tryd.pinned (.plain (OpenSpec.upto testCountsSpec)) testCountsUptoCard

/-- THE SECOND FORM's CARD OF 'cupolalaw02.TestMore'. -/
def testMoreUptoCard : Claim7 := { stood := { row := testMoreUptoRow, standIns := [], harness := (true, "6de7ee9364b0b35d3c29cfde293a5188c6a4572c1254d596b7b71b8893761aea"), looks := false }, kinds := [], alts := [], laidByText := true, laidKinds := [.data], laidTests := true, laidLooks := .later }
def TestMoreUptoCardSaid : Prop := Claim7.holds Tryd.pinned (.plain (OpenSpec.upto testMoreSpec)) testMoreUptoCard
end Rows
end Go.Proofs.YtpmecgagbjphdaaDoor
