/-
  NARROWER THAN 'FOR EVERY INPUT', by the rows' own cells (each row's printed sentence says how): ExecJoins: laid · ExecAll: laid.
  DERIVED. THE GIVEN ROWS OF THIS SEAT. 2 by the template 'for every input the law returns true; each argument reads behind the call as it read before'; 0 by the template 'total and deterministic' (their statements: YtcalinfdckklfaaGreatDoorTotals.lean).
  GIVEN WITH THE SEED: the statements are not yours to turn. If you find one false, say at which input.
  Laid BY PROGRAM, IN A SANDBOX (cutbox-rows.mjs): the forced cells as the released guide's own fill.sh prints them over the translation d977ff791410daa6… (all of the seat's roots in one cut). By AI agents, Wed Nov 11 2026. No macro, syntax, notation, axiom, sorry.
-/
import Derived.Test.YtcalinfdckklfaaGreatDoorChecked
import GoSem.Claim
import GoSem.ClaimJoined
import GoSem.ClaimMapViews
import Derived.JoinedTies
import Derived.KernelRfl
namespace Go.Proofs.YtcalinfdckklfaaGreatDoor
/- THE CELL 'sum', in the pinned program and in every row, IS THE sha256 OF THE DUMP (.gsa) THAT YtcalinfdckklfaaGreatDoorProg.lean LOADS. Nothing in Lean hashes anything: it is a label: what it is worth is what the hold of that sum in a sandbox is worth. -/
noncomputable def Tryz.pinned : Pinned := { name := "ytcalinfdckklfaagreatdoor", sum := "d977ff791410daa652640eb17ef7f3e8016d3e7683a647210d1562e5e1b41999", checked := Tryz.checked }
namespace Rows
def none {H : Type} : Left H := { results := [], args := [] }

/- WHAT THE LISTED PACKAGE-LEVEL VARIABLES READ AS WHEN THE CALL BEGINS. Each datum BY PROGRAM (the guide's laid-datum.mjs) off the statement by which the dump's own 'gosem.cut.vars' lays the variable. In a bare row this is a premise. The card (YtcalinfdckklfaaGreatDoorCards.lean) ties it to the program's text. -/
def laid_cupola_ins_shapes {H : Type} : DataW H := .agg [.agg [.lit (.string []), .lit (.int .i64 0), .lit (.int .i64 0)], .agg [.lit (.string [109, 111, 118]), .lit (.int .i64 0), .lit (.int .i64 17)], .agg [.lit (.string [97, 100, 100]), .lit (.int .i64 0), .lit (.int .i64 7)], .agg [.lit (.string [101, 111, 114]), .lit (.int .i64 0), .lit (.int .i64 7)], .agg [.lit (.string [97, 110, 100]), .lit (.int .i64 0), .lit (.int .i64 7)], .agg [.lit (.string [108, 100, 114]), .lit (.int .i64 1), .lit (.int .i64 11)], .agg [.lit (.string [115, 116, 114]), .lit (.int .i64 2), .lit (.int .i64 14)], .agg [.lit (.string [108, 100, 97, 114]), .lit (.int .i64 1), .lit (.int .i64 11)], .agg [.lit (.string [115, 116, 108, 114]), .lit (.int .i64 2), .lit (.int .i64 14)], .agg [.lit (.string [108, 100, 120, 114]), .lit (.int .i64 1), .lit (.int .i64 11)], .agg [.lit (.string [115, 116, 120, 114]), .lit (.int .i64 2), .lit (.int .i64 15)], .agg [.lit (.string [100, 109, 98]), .lit (.int .i64 0), .lit (.int .i64 16)], .agg [.lit (.string [105, 115, 98]), .lit (.int .i64 0), .lit (.int .i64 0)], .agg [.lit (.string [99, 98, 122]), .lit (.int .i64 0), .lit (.int .i64 18)], .agg [.lit (.string [99, 98, 110, 122]), .lit (.int .i64 0), .lit (.int .i64 18)]]
def laid_cupola_flow_barriers {H : Type} : DataW H := .agg [.lit (.int .i64 3), .lit (.int .i64 4), .lit (.int .i64 5)]

/-- 'cupolalaw10.ExecJoins': WHATEVER THE INPUT: true; the input reads as it did. -/
def execJoinsSpec : ChangeSpec := { name := "execJoins", fn := fun _ => fun
  | [d1, d2] => { results := [.lit (.bool true)], args := [d1, d2] }
  | _ => none }
def execJoinsRow : OpenClaim := { program := "ytcalinfdckklfaagreatdoor", sum := "d977ff791410daa652640eb17ef7f3e8016d3e7683a647210d1562e5e1b41999", func := "cupola/cupolalaw10.ExecJoins", spec := "execJoins", unfollowed := true, recurses := true, named := ["cupola/ins.shapes", "cupola/flow.barriers"], apart := false, laid := [("cupola/ins.shapes", laid_cupola_ins_shapes), ("cupola/flow.barriers", laid_cupola_flow_barriers)] }
def ExecJoinsSaid : Prop := execJoinsRow.holds Tryz.pinned (OpenSpec.ofChange execJoinsSpec)

/-- ITS FALSE NEIGHBOUR: 'it returns false'. Refute it at one input. -/
def execJoinsWrong : ChangeSpec := { name := "execJoins", fn := fun _ => fun
  | [d1, d2] => { results := [.lit (.bool false)], args := [d1, d2] }
  | _ => none }
def ExecJoinsWrongFalsely : Prop := execJoinsRow.holds Tryz.pinned (OpenSpec.ofChange execJoinsWrong)

/-- 'cupolalaw10.ExecAll': WHATEVER THE INPUT: true; the input reads as it did. -/
def execAllSpec : ChangeSpec := { name := "execAll", fn := fun _ => fun
  | [d] => { results := [.lit (.bool true)], args := [d] }
  | _ => none }
def execAllRow : OpenClaim := { program := "ytcalinfdckklfaagreatdoor", sum := "d977ff791410daa652640eb17ef7f3e8016d3e7683a647210d1562e5e1b41999", func := "cupola/cupolalaw10.ExecAll", spec := "execAll", unfollowed := true, recurses := true, named := ["cupola/ins.shapes", "cupola/flow.barriers"], apart := false, laid := [("cupola/ins.shapes", laid_cupola_ins_shapes), ("cupola/flow.barriers", laid_cupola_flow_barriers)] }
def ExecAllSaid : Prop := execAllRow.holds Tryz.pinned (OpenSpec.ofChange execAllSpec)

/-- ITS FALSE NEIGHBOUR: 'it returns false'. Refute it at one input. -/
def execAllWrong : ChangeSpec := { name := "execAll", fn := fun _ => fun
  | [d] => { results := [.lit (.bool false)], args := [d] }
  | _ => none }
def ExecAllWrongFalsely : Prop := execAllRow.holds Tryz.pinned (OpenSpec.ofChange execAllWrong)

/- THE SECOND FORM. 'bulk': how many values and letters a reading holds, each counted each time it is reached (what is shared counts as often as it is met; a slice's spare places count too). A statement '..UptoSaid' is the law's where the arguments, and the package variables that the reading takes, are together of bulk at most 1048576: NARROWER than '..Said'. Prove '..Said' where nothing that the law and all that it calls make is longer than what came in: it says more and counts as full. Else prove '..UptoSaid'. A law counts once. -/
mutual
def uptoBulk {H : Type} : DataW H → Nat
  | .lit (.string bytes) => bytes.length + 1
  | .lit _ => 1
  | .nil => 1
  | .ptr d => uptoBulk d + 1
  | .slice elems spare => uptoBulkAll elems + uptoBulkAll spare + 1
  | .agg parts => uptoBulkAll parts + 1
  | .iface _ d => uptoBulk d + 1
  | .map entries => uptoBulkEntries entries + 1
  | .held _ => 1
def uptoBulkAll {H : Type} : List (DataW H) → Nat
  | [] => 0
  | d :: r => uptoBulk d + uptoBulkAll r
def uptoBulkEntries {H : Type} : List (Lit × DataW H) → Nat
  | [] => 0
  | x :: r => uptoBulkEntry x + uptoBulkEntries r
def uptoBulkEntry {H : Type} : Lit × DataW H → Nat
  | (.string bytes, d) => bytes.length + uptoBulk d + 1
  | (_, d) => uptoBulk d + 1
 end
def uptoSmall : (H : Type) → List (DataW H) → Bool := fun _ ds => decide (uptoBulkAll ds ≤ 1048576)
def OpenSpec.upto (s : _root_.Go.ChangeSpec) : _root_.Go.OpenSpec := { _root_.Go.OpenSpec.ofChange s with cond := some uptoSmall }

/-- 'cupolalaw10.ExecJoins', WHERE WHAT IT READS IS OF BULK AT MOST 1048576: true; the input reads as it did. -/
def execJoinsUptoRow : OpenClaim := { program := "ytcalinfdckklfaagreatdoor", sum := "d977ff791410daa652640eb17ef7f3e8016d3e7683a647210d1562e5e1b41999", func := "cupola/cupolalaw10.ExecJoins", spec := "execJoins", unfollowed := true, recurses := true, named := ["cupola/ins.shapes", "cupola/flow.barriers"], apart := false, laid := [("cupola/ins.shapes", laid_cupola_ins_shapes), ("cupola/flow.barriers", laid_cupola_flow_barriers)], narrowed := true }
def ExecJoinsUptoSaid : Prop := execJoinsUptoRow.holds Tryz.pinned (OpenSpec.upto execJoinsSpec)

/-- 'cupolalaw10.ExecAll', WHERE WHAT IT READS IS OF BULK AT MOST 1048576: true; the input reads as it did. -/
def execAllUptoRow : OpenClaim := { program := "ytcalinfdckklfaagreatdoor", sum := "d977ff791410daa652640eb17ef7f3e8016d3e7683a647210d1562e5e1b41999", func := "cupola/cupolalaw10.ExecAll", spec := "execAll", unfollowed := true, recurses := true, named := ["cupola/ins.shapes", "cupola/flow.barriers"], apart := false, laid := [("cupola/ins.shapes", laid_cupola_ins_shapes), ("cupola/flow.barriers", laid_cupola_flow_barriers)], narrowed := true }
def ExecAllUptoSaid : Prop := execAllUptoRow.holds Tryz.pinned (OpenSpec.upto execAllSpec)

end Rows
end Go.Proofs.YtcalinfdckklfaaGreatDoor
