/-
  NARROWER THAN 'FOR EVERY INPUT', by the rows' own cells (each row's printed sentence says how): TestChecks: laid · TestTurns: laid · TestKeeps: laid · TestAgain: laid · TestCounts: laid · TestMore: laid.
  DERIVED. THE GIVEN ROWS OF THIS SEAT. 6 by the template 'for every input the law returns true; each argument reads behind the call as it read before'; 0 by the template 'total and deterministic' (their statements: YtpmecgagbjphdaaDoorTotals.lean).
  GIVEN WITH THE SEED: the statements are not yours to turn. If you find one false, say at which input.
  Laid BY PROGRAM, IN A SANDBOX (cutbox-rows.mjs): the forced cells as the released guide's own fill.sh prints them over the translation fac32bd9f82f04db… (all of the seat's roots in one cut). By AI agents, Wed Nov 11 2026. No macro, syntax, notation, axiom, sorry.
-/
import Derived.Test.YtpmecgagbjphdaaDoorChecked
import GoSem.Claim
import GoSem.ClaimJoined
import GoSem.ClaimMapViews
import Derived.JoinedTies
import Derived.KernelRfl
namespace Go.Proofs.YtpmecgagbjphdaaDoor
/- THE CELL 'sum', in the pinned program and in every row, IS THE sha256 OF THE DUMP (.gsa) THAT YtpmecgagbjphdaaDoorProg.lean LOADS. Nothing in Lean hashes anything: it is a label: what it is worth is what the hold of that sum in a sandbox is worth. -/
noncomputable def Tryd.pinned : Pinned := { name := "ytpmecgagbjphdaadoor", sum := "fac32bd9f82f04dbe947754b70ce35dabd7b9a2bd3d344f3f630638412ff93fd", checked := Tryd.checked }
namespace Rows
def none {H : Type} : Left H := { results := [], args := [] }

/- WHAT THE LISTED PACKAGE-LEVEL VARIABLES READ AS WHEN THE CALL BEGINS. Each datum BY PROGRAM (the guide's laid-datum.mjs) off the statement by which the dump's own 'gosem.cut.vars' lays the variable. In a bare row this is a premise. The card (YtpmecgagbjphdaaDoorCards.lean) ties it to the program's text. -/
def laid_cupola_ins_shapes {H : Type} : DataW H := .agg [.agg [.lit (.string []), .lit (.int .i64 0), .lit (.int .i64 0)], .agg [.lit (.string [109, 111, 118]), .lit (.int .i64 0), .lit (.int .i64 17)], .agg [.lit (.string [97, 100, 100]), .lit (.int .i64 0), .lit (.int .i64 7)], .agg [.lit (.string [101, 111, 114]), .lit (.int .i64 0), .lit (.int .i64 7)], .agg [.lit (.string [97, 110, 100]), .lit (.int .i64 0), .lit (.int .i64 7)], .agg [.lit (.string [108, 100, 114]), .lit (.int .i64 1), .lit (.int .i64 11)], .agg [.lit (.string [115, 116, 114]), .lit (.int .i64 2), .lit (.int .i64 14)], .agg [.lit (.string [108, 100, 97, 114]), .lit (.int .i64 1), .lit (.int .i64 11)], .agg [.lit (.string [115, 116, 108, 114]), .lit (.int .i64 2), .lit (.int .i64 14)], .agg [.lit (.string [108, 100, 120, 114]), .lit (.int .i64 1), .lit (.int .i64 11)], .agg [.lit (.string [115, 116, 120, 114]), .lit (.int .i64 2), .lit (.int .i64 15)], .agg [.lit (.string [100, 109, 98]), .lit (.int .i64 0), .lit (.int .i64 16)], .agg [.lit (.string [105, 115, 98]), .lit (.int .i64 0), .lit (.int .i64 0)], .agg [.lit (.string [99, 98, 122]), .lit (.int .i64 0), .lit (.int .i64 18)], .agg [.lit (.string [99, 98, 110, 122]), .lit (.int .i64 0), .lit (.int .i64 18)]]

/-- 'cupolalaw02.TestChecks': WHATEVER THE INPUT: true; the input reads as it did. -/
def testChecksSpec : ChangeSpec := { name := "testChecks", fn := fun _ => fun
  | [d] => { results := [.lit (.bool true)], args := [d] }
  | _ => none }
def testChecksRow : OpenClaim := { program := "ytpmecgagbjphdaadoor", sum := "fac32bd9f82f04dbe947754b70ce35dabd7b9a2bd3d344f3f630638412ff93fd", func := "cupola/cupolalaw02.TestChecks", spec := "testChecks", unfollowed := true, recurses := true, named := ["cupola/ins.shapes"], apart := false, laid := [("cupola/ins.shapes", laid_cupola_ins_shapes)] }
def TestChecksSaid : Prop := testChecksRow.holds Tryd.pinned (OpenSpec.ofChange testChecksSpec)

/-- ITS FALSE NEIGHBOUR: 'it returns false'. Refute it at one input. -/
def testChecksWrong : ChangeSpec := { name := "testChecks", fn := fun _ => fun
  | [d] => { results := [.lit (.bool false)], args := [d] }
  | _ => none }
def TestChecksWrongFalsely : Prop := testChecksRow.holds Tryd.pinned (OpenSpec.ofChange testChecksWrong)

/-- 'cupolalaw02.TestTurns': WHATEVER THE INPUT: true; the input reads as it did. -/
def testTurnsSpec : ChangeSpec := { name := "testTurns", fn := fun _ => fun
  | [d] => { results := [.lit (.bool true)], args := [d] }
  | _ => none }
def testTurnsRow : OpenClaim := { program := "ytpmecgagbjphdaadoor", sum := "fac32bd9f82f04dbe947754b70ce35dabd7b9a2bd3d344f3f630638412ff93fd", func := "cupola/cupolalaw02.TestTurns", spec := "testTurns", unfollowed := true, recurses := true, named := ["cupola/ins.shapes"], apart := false, laid := [("cupola/ins.shapes", laid_cupola_ins_shapes)] }
def TestTurnsSaid : Prop := testTurnsRow.holds Tryd.pinned (OpenSpec.ofChange testTurnsSpec)

/-- ITS FALSE NEIGHBOUR: 'it returns false'. Refute it at one input. -/
def testTurnsWrong : ChangeSpec := { name := "testTurns", fn := fun _ => fun
  | [d] => { results := [.lit (.bool false)], args := [d] }
  | _ => none }
def TestTurnsWrongFalsely : Prop := testTurnsRow.holds Tryd.pinned (OpenSpec.ofChange testTurnsWrong)

/-- 'cupolalaw02.TestKeeps': WHATEVER THE INPUT: true; the input reads as it did. -/
def testKeepsSpec : ChangeSpec := { name := "testKeeps", fn := fun _ => fun
  | [d] => { results := [.lit (.bool true)], args := [d] }
  | _ => none }
def testKeepsRow : OpenClaim := { program := "ytpmecgagbjphdaadoor", sum := "fac32bd9f82f04dbe947754b70ce35dabd7b9a2bd3d344f3f630638412ff93fd", func := "cupola/cupolalaw02.TestKeeps", spec := "testKeeps", unfollowed := true, recurses := true, named := ["cupola/ins.shapes"], apart := false, laid := [("cupola/ins.shapes", laid_cupola_ins_shapes)] }
def TestKeepsSaid : Prop := testKeepsRow.holds Tryd.pinned (OpenSpec.ofChange testKeepsSpec)

/-- ITS FALSE NEIGHBOUR: 'it returns false'. Refute it at one input. -/
def testKeepsWrong : ChangeSpec := { name := "testKeeps", fn := fun _ => fun
  | [d] => { results := [.lit (.bool false)], args := [d] }
  | _ => none }
def TestKeepsWrongFalsely : Prop := testKeepsRow.holds Tryd.pinned (OpenSpec.ofChange testKeepsWrong)

/-- 'cupolalaw02.TestAgain': WHATEVER THE INPUT: true; the input reads as it did. -/
def testAgainSpec : ChangeSpec := { name := "testAgain", fn := fun _ => fun
  | [d] => { results := [.lit (.bool true)], args := [d] }
  | _ => none }
def testAgainRow : OpenClaim := { program := "ytpmecgagbjphdaadoor", sum := "fac32bd9f82f04dbe947754b70ce35dabd7b9a2bd3d344f3f630638412ff93fd", func := "cupola/cupolalaw02.TestAgain", spec := "testAgain", unfollowed := true, recurses := true, named := ["cupola/ins.shapes"], apart := false, laid := [("cupola/ins.shapes", laid_cupola_ins_shapes)] }
def TestAgainSaid : Prop := testAgainRow.holds Tryd.pinned (OpenSpec.ofChange testAgainSpec)

/-- ITS FALSE NEIGHBOUR: 'it returns false'. Refute it at one input. -/
def testAgainWrong : ChangeSpec := { name := "testAgain", fn := fun _ => fun
  | [d] => { results := [.lit (.bool false)], args := [d] }
  | _ => none }
def TestAgainWrongFalsely : Prop := testAgainRow.holds Tryd.pinned (OpenSpec.ofChange testAgainWrong)

/-- 'cupolalaw02.TestCounts': WHATEVER THE INPUT: true; the input reads as it did. -/
def testCountsSpec : ChangeSpec := { name := "testCounts", fn := fun _ => fun
  | [d] => { results := [.lit (.bool true)], args := [d] }
  | _ => none }
def testCountsRow : OpenClaim := { program := "ytpmecgagbjphdaadoor", sum := "fac32bd9f82f04dbe947754b70ce35dabd7b9a2bd3d344f3f630638412ff93fd", func := "cupola/cupolalaw02.TestCounts", spec := "testCounts", unfollowed := true, recurses := true, named := ["cupola/ins.shapes"], apart := false, laid := [("cupola/ins.shapes", laid_cupola_ins_shapes)] }
def TestCountsSaid : Prop := testCountsRow.holds Tryd.pinned (OpenSpec.ofChange testCountsSpec)

/-- ITS FALSE NEIGHBOUR: 'it returns false'. Refute it at one input. -/
def testCountsWrong : ChangeSpec := { name := "testCounts", fn := fun _ => fun
  | [d] => { results := [.lit (.bool false)], args := [d] }
  | _ => none }
def TestCountsWrongFalsely : Prop := testCountsRow.holds Tryd.pinned (OpenSpec.ofChange testCountsWrong)

/-- 'cupolalaw02.TestMore': WHATEVER THE INPUT: true; the input reads as it did. -/
def testMoreSpec : ChangeSpec := { name := "testMore", fn := fun _ => fun
  | [d] => { results := [.lit (.bool true)], args := [d] }
  | _ => none }
def testMoreRow : OpenClaim := { program := "ytpmecgagbjphdaadoor", sum := "fac32bd9f82f04dbe947754b70ce35dabd7b9a2bd3d344f3f630638412ff93fd", func := "cupola/cupolalaw02.TestMore", spec := "testMore", unfollowed := true, recurses := true, named := ["cupola/ins.shapes"], apart := false, laid := [("cupola/ins.shapes", laid_cupola_ins_shapes)] }
def TestMoreSaid : Prop := testMoreRow.holds Tryd.pinned (OpenSpec.ofChange testMoreSpec)

/-- ITS FALSE NEIGHBOUR: 'it returns false'. Refute it at one input. -/
def testMoreWrong : ChangeSpec := { name := "testMore", fn := fun _ => fun
  | [d] => { results := [.lit (.bool false)], args := [d] }
  | _ => none }
def TestMoreWrongFalsely : Prop := testMoreRow.holds Tryd.pinned (OpenSpec.ofChange testMoreWrong)

/- THE SECOND FORM. 'bulk': how many values and letters a reading holds, each counted each time it is reached (what is shared counts as often as it is met; a slice's spare places count too). A statement '..UptoSaid' is the law's where the arguments, and the package variables that the reading takes, are together of bulk at most 1048576: NARROWER than '..Said'. Prove '..Said' where nothing that the law and all that it calls make is longer than what came in: it says more and counts as full. Else prove '..UptoSaid'. A law counts once. -/
mutual
def uptoBulk {H : Type} : DataW H → Nat
  | .lit (.string bytes) => bytes.length + 1
  | .lit _ => 1
  | .nil => 1
  | .ptr d => uptoBulk d + 1
  | .slice elems spare => uptoBulkAll elems + uptoBulkAll spare + 1
  | .agg parts => uptoBulkAll parts + 1
  | .iface _ d => uptoBulk d + 1
  | .map entries => uptoBulkEntries entries + 1
  | .held _ => 1
def uptoBulkAll {H : Type} : List (DataW H) → Nat
  | [] => 0
  | d :: r => uptoBulk d + uptoBulkAll r
def uptoBulkEntries {H : Type} : List (Lit × DataW H) → Nat
  | [] => 0
  | x :: r => uptoBulkEntry x + uptoBulkEntries r
def uptoBulkEntry {H : Type} : Lit × DataW H → Nat
  | (.string bytes, d) => bytes.length + uptoBulk d + 1
  | (_, d) => uptoBulk d + 1
 end
def uptoSmall : (H : Type) → List (DataW H) → Bool := fun _ ds => decide (uptoBulkAll ds ≤ 1048576)
def OpenSpec.upto (s : _root_.Go.ChangeSpec) : _root_.Go.OpenSpec := { _root_.Go.OpenSpec.ofChange s with cond := some uptoSmall }

/-- 'cupolalaw02.TestChecks', WHERE WHAT IT READS IS OF BULK AT MOST 1048576: true; the input reads as it did. -/
def testChecksUptoRow : OpenClaim := { program := "ytpmecgagbjphdaadoor", sum := "fac32bd9f82f04dbe947754b70ce35dabd7b9a2bd3d344f3f630638412ff93fd", func := "cupola/cupolalaw02.TestChecks", spec := "testChecks", unfollowed := true, recurses := true, named := ["cupola/ins.shapes"], apart := false, laid := [("cupola/ins.shapes", laid_cupola_ins_shapes)], narrowed := true }
def TestChecksUptoSaid : Prop := testChecksUptoRow.holds Tryd.pinned (OpenSpec.upto testChecksSpec)

/-- 'cupolalaw02.TestTurns', WHERE WHAT IT READS IS OF BULK AT MOST 1048576: true; the input reads as it did. -/
def testTurnsUptoRow : OpenClaim := { program := "ytpmecgagbjphdaadoor", sum := "fac32bd9f82f04dbe947754b70ce35dabd7b9a2bd3d344f3f630638412ff93fd", func := "cupola/cupolalaw02.TestTurns", spec := "testTurns", unfollowed := true, recurses := true, named := ["cupola/ins.shapes"], apart := false, laid := [("cupola/ins.shapes", laid_cupola_ins_shapes)], narrowed := true }
def TestTurnsUptoSaid : Prop := testTurnsUptoRow.holds Tryd.pinned (OpenSpec.upto testTurnsSpec)

/-- 'cupolalaw02.TestKeeps', WHERE WHAT IT READS IS OF BULK AT MOST 1048576: true; the input reads as it did. -/
def testKeepsUptoRow : OpenClaim := { program := "ytpmecgagbjphdaadoor", sum := "fac32bd9f82f04dbe947754b70ce35dabd7b9a2bd3d344f3f630638412ff93fd", func := "cupola/cupolalaw02.TestKeeps", spec := "testKeeps", unfollowed := true, recurses := true, named := ["cupola/ins.shapes"], apart := false, laid := [("cupola/ins.shapes", laid_cupola_ins_shapes)], narrowed := true }
def TestKeepsUptoSaid : Prop := testKeepsUptoRow.holds Tryd.pinned (OpenSpec.upto testKeepsSpec)

/-- 'cupolalaw02.TestAgain', WHERE WHAT IT READS IS OF BULK AT MOST 1048576: true; the input reads as it did. -/
def testAgainUptoRow : OpenClaim := { program := "ytpmecgagbjphdaadoor", sum := "fac32bd9f82f04dbe947754b70ce35dabd7b9a2bd3d344f3f630638412ff93fd", func := "cupola/cupolalaw02.TestAgain", spec := "testAgain", unfollowed := true, recurses := true, named := ["cupola/ins.shapes"], apart := false, laid := [("cupola/ins.shapes", laid_cupola_ins_shapes)], narrowed := true }
def TestAgainUptoSaid : Prop := testAgainUptoRow.holds Tryd.pinned (OpenSpec.upto testAgainSpec)

/-- 'cupolalaw02.TestCounts', WHERE WHAT IT READS IS OF BULK AT MOST 1048576: true; the input reads as it did. -/
def testCountsUptoRow : OpenClaim := { program := "ytpmecgagbjphdaadoor", sum := "fac32bd9f82f04dbe947754b70ce35dabd7b9a2bd3d344f3f630638412ff93fd", func := "cupola/cupolalaw02.TestCounts", spec := "testCounts", unfollowed := true, recurses := true, named := ["cupola/ins.shapes"], apart := false, laid := [("cupola/ins.shapes", laid_cupola_ins_shapes)], narrowed := true }
def TestCountsUptoSaid : Prop := testCountsUptoRow.holds Tryd.pinned (OpenSpec.upto testCountsSpec)

/-- 'cupolalaw02.TestMore', WHERE WHAT IT READS IS OF BULK AT MOST 1048576: true; the input reads as it did. -/
def testMoreUptoRow : OpenClaim := { program := "ytpmecgagbjphdaadoor", sum := "fac32bd9f82f04dbe947754b70ce35dabd7b9a2bd3d344f3f630638412ff93fd", func := "cupola/cupolalaw02.TestMore", spec := "testMore", unfollowed := true, recurses := true, named := ["cupola/ins.shapes"], apart := false, laid := [("cupola/ins.shapes", laid_cupola_ins_shapes)], narrowed := true }
def TestMoreUptoSaid : Prop := testMoreUptoRow.holds Tryd.pinned (OpenSpec.upto testMoreSpec)

end Rows
end Go.Proofs.YtpmecgagbjphdaaDoor
