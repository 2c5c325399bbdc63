/-
  NARROWER THAN 'FOR EVERY INPUT', by the rows' own cells (each row's printed sentence says how): FlowRuns: laid · FlowMore: laid · FlowHangs: laid · FlowVals: laid · FlowBare: laid · FlowBegins: laid.
  DERIVED. THE GIVEN ROWS OF THIS SEAT. 6 by the template 'for every input the law returns true; each argument reads behind the call as it read before'; 0 by the template 'total and deterministic' (their statements: YtkiefbldkidobaaDoorTotals.lean).
  GIVEN WITH THE SEED: the statements are not yours to turn. If you find one false, say at which input.
  Laid BY PROGRAM, IN A SANDBOX (cutbox-rows.mjs): the forced cells as the released guide's own fill.sh prints them over the translation 8d4ec214d50cb5d5… (all of the seat's roots in one cut). By AI agents, Wed Nov 11 2026. No macro, syntax, notation, axiom, sorry.
-/
import Derived.Test.YtkiefbldkidobaaDoorChecked
import GoSem.Claim
import GoSem.ClaimJoined
import GoSem.ClaimMapViews
import Derived.JoinedTies
import Derived.KernelRfl
namespace Go.Proofs.YtkiefbldkidobaaDoor
/- THE CELL 'sum', in the pinned program and in every row, IS THE sha256 OF THE DUMP (.gsa) THAT YtkiefbldkidobaaDoorProg.lean LOADS. Nothing in Lean hashes anything: it is a label: what it is worth is what the hold of that sum in a sandbox is worth. -/
noncomputable def Tryd.pinned : Pinned := { name := "ytkiefbldkidobaadoor", sum := "8d4ec214d50cb5d513b7087fa7e0850a8c48970d44b39cfb9f1c08860a8ea907", checked := Tryd.checked }
namespace Rows
def none {H : Type} : Left H := { results := [], args := [] }

/- WHAT THE LISTED PACKAGE-LEVEL VARIABLES READ AS WHEN THE CALL BEGINS. Each datum BY PROGRAM (the guide's laid-datum.mjs) off the statement by which the dump's own 'gosem.cut.vars' lays the variable. In a bare row this is a premise. The card (YtkiefbldkidobaaDoorCards.lean) ties it to the program's text. -/
def laid_cupola_ins_shapes {H : Type} : DataW H := .agg [.agg [.lit (.string []), .lit (.int .i64 0), .lit (.int .i64 0)], .agg [.lit (.string [109, 111, 118]), .lit (.int .i64 0), .lit (.int .i64 17)], .agg [.lit (.string [97, 100, 100]), .lit (.int .i64 0), .lit (.int .i64 7)], .agg [.lit (.string [101, 111, 114]), .lit (.int .i64 0), .lit (.int .i64 7)], .agg [.lit (.string [97, 110, 100]), .lit (.int .i64 0), .lit (.int .i64 7)], .agg [.lit (.string [108, 100, 114]), .lit (.int .i64 1), .lit (.int .i64 11)], .agg [.lit (.string [115, 116, 114]), .lit (.int .i64 2), .lit (.int .i64 14)], .agg [.lit (.string [108, 100, 97, 114]), .lit (.int .i64 1), .lit (.int .i64 11)], .agg [.lit (.string [115, 116, 108, 114]), .lit (.int .i64 2), .lit (.int .i64 14)], .agg [.lit (.string [108, 100, 120, 114]), .lit (.int .i64 1), .lit (.int .i64 11)], .agg [.lit (.string [115, 116, 120, 114]), .lit (.int .i64 2), .lit (.int .i64 15)], .agg [.lit (.string [100, 109, 98]), .lit (.int .i64 0), .lit (.int .i64 16)], .agg [.lit (.string [105, 115, 98]), .lit (.int .i64 0), .lit (.int .i64 0)], .agg [.lit (.string [99, 98, 122]), .lit (.int .i64 0), .lit (.int .i64 18)], .agg [.lit (.string [99, 98, 110, 122]), .lit (.int .i64 0), .lit (.int .i64 18)]]
def laid_cupola_flow_barriers {H : Type} : DataW H := .agg [.lit (.int .i64 3), .lit (.int .i64 4), .lit (.int .i64 5)]

/-- 'cupolalaw08.FlowRuns': WHATEVER THE INPUT: true; the input reads as it did. -/
def flowRunsSpec : ChangeSpec := { name := "flowRuns", fn := fun _ => fun
  | [d1, d2, d3, d4] => { results := [.lit (.bool true)], args := [d1, d2, d3, d4] }
  | _ => none }
def flowRunsRow : OpenClaim := { program := "ytkiefbldkidobaadoor", sum := "8d4ec214d50cb5d513b7087fa7e0850a8c48970d44b39cfb9f1c08860a8ea907", func := "cupola/cupolalaw08.FlowRuns", spec := "flowRuns", unfollowed := true, recurses := true, named := ["cupola/ins.shapes", "cupola/flow.barriers"], apart := false, laid := [("cupola/ins.shapes", laid_cupola_ins_shapes), ("cupola/flow.barriers", laid_cupola_flow_barriers)] }
def FlowRunsSaid : Prop := flowRunsRow.holds Tryd.pinned (OpenSpec.ofChange flowRunsSpec)

/-- ITS FALSE NEIGHBOUR: 'it returns false'. Refute it at one input. -/
def flowRunsWrong : ChangeSpec := { name := "flowRuns", fn := fun _ => fun
  | [d1, d2, d3, d4] => { results := [.lit (.bool false)], args := [d1, d2, d3, d4] }
  | _ => none }
def FlowRunsWrongFalsely : Prop := flowRunsRow.holds Tryd.pinned (OpenSpec.ofChange flowRunsWrong)

/-- 'cupolalaw08.FlowMore': WHATEVER THE INPUT: true; the input reads as it did. -/
def flowMoreSpec : ChangeSpec := { name := "flowMore", fn := fun _ => fun
  | [d1, d2, d3, d4] => { results := [.lit (.bool true)], args := [d1, d2, d3, d4] }
  | _ => none }
def flowMoreRow : OpenClaim := { program := "ytkiefbldkidobaadoor", sum := "8d4ec214d50cb5d513b7087fa7e0850a8c48970d44b39cfb9f1c08860a8ea907", func := "cupola/cupolalaw08.FlowMore", spec := "flowMore", unfollowed := true, recurses := true, named := ["cupola/ins.shapes", "cupola/flow.barriers"], apart := false, laid := [("cupola/ins.shapes", laid_cupola_ins_shapes), ("cupola/flow.barriers", laid_cupola_flow_barriers)] }
def FlowMoreSaid : Prop := flowMoreRow.holds Tryd.pinned (OpenSpec.ofChange flowMoreSpec)

/-- ITS FALSE NEIGHBOUR: 'it returns false'. Refute it at one input. -/
def flowMoreWrong : ChangeSpec := { name := "flowMore", fn := fun _ => fun
  | [d1, d2, d3, d4] => { results := [.lit (.bool false)], args := [d1, d2, d3, d4] }
  | _ => none }
def FlowMoreWrongFalsely : Prop := flowMoreRow.holds Tryd.pinned (OpenSpec.ofChange flowMoreWrong)

/-- 'cupolalaw08.FlowHangs': WHATEVER THE INPUT: true; the input reads as it did. -/
def flowHangsSpec : ChangeSpec := { name := "flowHangs", fn := fun _ => fun
  | [d1, d2, d3] => { results := [.lit (.bool true)], args := [d1, d2, d3] }
  | _ => none }
def flowHangsRow : OpenClaim := { program := "ytkiefbldkidobaadoor", sum := "8d4ec214d50cb5d513b7087fa7e0850a8c48970d44b39cfb9f1c08860a8ea907", func := "cupola/cupolalaw08.FlowHangs", spec := "flowHangs", unfollowed := true, recurses := true, named := ["cupola/ins.shapes", "cupola/flow.barriers"], apart := false, laid := [("cupola/ins.shapes", laid_cupola_ins_shapes), ("cupola/flow.barriers", laid_cupola_flow_barriers)] }
def FlowHangsSaid : Prop := flowHangsRow.holds Tryd.pinned (OpenSpec.ofChange flowHangsSpec)

/-- ITS FALSE NEIGHBOUR: 'it returns false'. Refute it at one input. -/
def flowHangsWrong : ChangeSpec := { name := "flowHangs", fn := fun _ => fun
  | [d1, d2, d3] => { results := [.lit (.bool false)], args := [d1, d2, d3] }
  | _ => none }
def FlowHangsWrongFalsely : Prop := flowHangsRow.holds Tryd.pinned (OpenSpec.ofChange flowHangsWrong)

/-- 'cupolalaw08.FlowVals': WHATEVER THE INPUT: true; the input reads as it did. -/
def flowValsSpec : ChangeSpec := { name := "flowVals", fn := fun _ => fun
  | [d1, d2, d3] => { results := [.lit (.bool true)], args := [d1, d2, d3] }
  | _ => none }
def flowValsRow : OpenClaim := { program := "ytkiefbldkidobaadoor", sum := "8d4ec214d50cb5d513b7087fa7e0850a8c48970d44b39cfb9f1c08860a8ea907", func := "cupola/cupolalaw08.FlowVals", spec := "flowVals", unfollowed := true, recurses := true, named := ["cupola/ins.shapes", "cupola/flow.barriers"], apart := false, laid := [("cupola/ins.shapes", laid_cupola_ins_shapes), ("cupola/flow.barriers", laid_cupola_flow_barriers)] }
def FlowValsSaid : Prop := flowValsRow.holds Tryd.pinned (OpenSpec.ofChange flowValsSpec)

/-- ITS FALSE NEIGHBOUR: 'it returns false'. Refute it at one input. -/
def flowValsWrong : ChangeSpec := { name := "flowVals", fn := fun _ => fun
  | [d1, d2, d3] => { results := [.lit (.bool false)], args := [d1, d2, d3] }
  | _ => none }
def FlowValsWrongFalsely : Prop := flowValsRow.holds Tryd.pinned (OpenSpec.ofChange flowValsWrong)

/-- 'cupolalaw08.FlowBare': WHATEVER THE INPUT: true; the input reads as it did. -/
def flowBareSpec : ChangeSpec := { name := "flowBare", fn := fun _ => fun
  | [d1, d2, d3] => { results := [.lit (.bool true)], args := [d1, d2, d3] }
  | _ => none }
def flowBareRow : OpenClaim := { program := "ytkiefbldkidobaadoor", sum := "8d4ec214d50cb5d513b7087fa7e0850a8c48970d44b39cfb9f1c08860a8ea907", func := "cupola/cupolalaw08.FlowBare", spec := "flowBare", unfollowed := true, recurses := true, named := ["cupola/ins.shapes", "cupola/flow.barriers"], apart := false, laid := [("cupola/ins.shapes", laid_cupola_ins_shapes), ("cupola/flow.barriers", laid_cupola_flow_barriers)] }
def FlowBareSaid : Prop := flowBareRow.holds Tryd.pinned (OpenSpec.ofChange flowBareSpec)

/-- ITS FALSE NEIGHBOUR: 'it returns false'. Refute it at one input. -/
def flowBareWrong : ChangeSpec := { name := "flowBare", fn := fun _ => fun
  | [d1, d2, d3] => { results := [.lit (.bool false)], args := [d1, d2, d3] }
  | _ => none }
def FlowBareWrongFalsely : Prop := flowBareRow.holds Tryd.pinned (OpenSpec.ofChange flowBareWrong)

/-- 'cupolalaw08.FlowBegins': WHATEVER THE INPUT: true; the input reads as it did. -/
def flowBeginsSpec : ChangeSpec := { name := "flowBegins", fn := fun _ => fun
  | [d1, d2, d3, d4] => { results := [.lit (.bool true)], args := [d1, d2, d3, d4] }
  | _ => none }
def flowBeginsRow : OpenClaim := { program := "ytkiefbldkidobaadoor", sum := "8d4ec214d50cb5d513b7087fa7e0850a8c48970d44b39cfb9f1c08860a8ea907", func := "cupola/cupolalaw08.FlowBegins", spec := "flowBegins", unfollowed := true, recurses := true, named := ["cupola/ins.shapes", "cupola/flow.barriers"], apart := false, laid := [("cupola/ins.shapes", laid_cupola_ins_shapes), ("cupola/flow.barriers", laid_cupola_flow_barriers)] }
def FlowBeginsSaid : Prop := flowBeginsRow.holds Tryd.pinned (OpenSpec.ofChange flowBeginsSpec)

/-- ITS FALSE NEIGHBOUR: 'it returns false'. Refute it at one input. -/
def flowBeginsWrong : ChangeSpec := { name := "flowBegins", fn := fun _ => fun
  | [d1, d2, d3, d4] => { results := [.lit (.bool false)], args := [d1, d2, d3, d4] }
  | _ => none }
def FlowBeginsWrongFalsely : Prop := flowBeginsRow.holds Tryd.pinned (OpenSpec.ofChange flowBeginsWrong)

/- THE SECOND FORM. 'bulk': how many values and letters a reading holds, each counted each time it is reached (what is shared counts as often as it is met; a slice's spare places count too). A statement '..UptoSaid' is the law's where the arguments, and the package variables that the reading takes, are together of bulk at most 1048576: NARROWER than '..Said'. Prove '..Said' where nothing that the law and all that it calls make is longer than what came in: it says more and counts as full. Else prove '..UptoSaid'. A law counts once. -/
mutual
def uptoBulk {H : Type} : DataW H → Nat
  | .lit (.string bytes) => bytes.length + 1
  | .lit _ => 1
  | .nil => 1
  | .ptr d => uptoBulk d + 1
  | .slice elems spare => uptoBulkAll elems + uptoBulkAll spare + 1
  | .agg parts => uptoBulkAll parts + 1
  | .iface _ d => uptoBulk d + 1
  | .map entries => uptoBulkEntries entries + 1
  | .held _ => 1
def uptoBulkAll {H : Type} : List (DataW H) → Nat
  | [] => 0
  | d :: r => uptoBulk d + uptoBulkAll r
def uptoBulkEntries {H : Type} : List (Lit × DataW H) → Nat
  | [] => 0
  | x :: r => uptoBulkEntry x + uptoBulkEntries r
def uptoBulkEntry {H : Type} : Lit × DataW H → Nat
  | (.string bytes, d) => bytes.length + uptoBulk d + 1
  | (_, d) => uptoBulk d + 1
 end
def uptoSmall : (H : Type) → List (DataW H) → Bool := fun _ ds => decide (uptoBulkAll ds ≤ 1048576)
def OpenSpec.upto (s : _root_.Go.ChangeSpec) : _root_.Go.OpenSpec := { _root_.Go.OpenSpec.ofChange s with cond := some uptoSmall }

/-- 'cupolalaw08.FlowRuns', WHERE WHAT IT READS IS OF BULK AT MOST 1048576: true; the input reads as it did. -/
def flowRunsUptoRow : OpenClaim := { program := "ytkiefbldkidobaadoor", sum := "8d4ec214d50cb5d513b7087fa7e0850a8c48970d44b39cfb9f1c08860a8ea907", func := "cupola/cupolalaw08.FlowRuns", spec := "flowRuns", unfollowed := true, recurses := true, named := ["cupola/ins.shapes", "cupola/flow.barriers"], apart := false, laid := [("cupola/ins.shapes", laid_cupola_ins_shapes), ("cupola/flow.barriers", laid_cupola_flow_barriers)], narrowed := true }
def FlowRunsUptoSaid : Prop := flowRunsUptoRow.holds Tryd.pinned (OpenSpec.upto flowRunsSpec)

/-- 'cupolalaw08.FlowMore', WHERE WHAT IT READS IS OF BULK AT MOST 1048576: true; the input reads as it did. -/
def flowMoreUptoRow : OpenClaim := { program := "ytkiefbldkidobaadoor", sum := "8d4ec214d50cb5d513b7087fa7e0850a8c48970d44b39cfb9f1c08860a8ea907", func := "cupola/cupolalaw08.FlowMore", spec := "flowMore", unfollowed := true, recurses := true, named := ["cupola/ins.shapes", "cupola/flow.barriers"], apart := false, laid := [("cupola/ins.shapes", laid_cupola_ins_shapes), ("cupola/flow.barriers", laid_cupola_flow_barriers)], narrowed := true }
def FlowMoreUptoSaid : Prop := flowMoreUptoRow.holds Tryd.pinned (OpenSpec.upto flowMoreSpec)

/-- 'cupolalaw08.FlowHangs', WHERE WHAT IT READS IS OF BULK AT MOST 1048576: true; the input reads as it did. -/
def flowHangsUptoRow : OpenClaim := { program := "ytkiefbldkidobaadoor", sum := "8d4ec214d50cb5d513b7087fa7e0850a8c48970d44b39cfb9f1c08860a8ea907", func := "cupola/cupolalaw08.FlowHangs", spec := "flowHangs", unfollowed := true, recurses := true, named := ["cupola/ins.shapes", "cupola/flow.barriers"], apart := false, laid := [("cupola/ins.shapes", laid_cupola_ins_shapes), ("cupola/flow.barriers", laid_cupola_flow_barriers)], narrowed := true }
def FlowHangsUptoSaid : Prop := flowHangsUptoRow.holds Tryd.pinned (OpenSpec.upto flowHangsSpec)

/-- 'cupolalaw08.FlowVals', WHERE WHAT IT READS IS OF BULK AT MOST 1048576: true; the input reads as it did. -/
def flowValsUptoRow : OpenClaim := { program := "ytkiefbldkidobaadoor", sum := "8d4ec214d50cb5d513b7087fa7e0850a8c48970d44b39cfb9f1c08860a8ea907", func := "cupola/cupolalaw08.FlowVals", spec := "flowVals", unfollowed := true, recurses := true, named := ["cupola/ins.shapes", "cupola/flow.barriers"], apart := false, laid := [("cupola/ins.shapes", laid_cupola_ins_shapes), ("cupola/flow.barriers", laid_cupola_flow_barriers)], narrowed := true }
def FlowValsUptoSaid : Prop := flowValsUptoRow.holds Tryd.pinned (OpenSpec.upto flowValsSpec)

/-- 'cupolalaw08.FlowBare', WHERE WHAT IT READS IS OF BULK AT MOST 1048576: true; the input reads as it did. -/
def flowBareUptoRow : OpenClaim := { program := "ytkiefbldkidobaadoor", sum := "8d4ec214d50cb5d513b7087fa7e0850a8c48970d44b39cfb9f1c08860a8ea907", func := "cupola/cupolalaw08.FlowBare", spec := "flowBare", unfollowed := true, recurses := true, named := ["cupola/ins.shapes", "cupola/flow.barriers"], apart := false, laid := [("cupola/ins.shapes", laid_cupola_ins_shapes), ("cupola/flow.barriers", laid_cupola_flow_barriers)], narrowed := true }
def FlowBareUptoSaid : Prop := flowBareUptoRow.holds Tryd.pinned (OpenSpec.upto flowBareSpec)

/-- 'cupolalaw08.FlowBegins', WHERE WHAT IT READS IS OF BULK AT MOST 1048576: true; the input reads as it did. -/
def flowBeginsUptoRow : OpenClaim := { program := "ytkiefbldkidobaadoor", sum := "8d4ec214d50cb5d513b7087fa7e0850a8c48970d44b39cfb9f1c08860a8ea907", func := "cupola/cupolalaw08.FlowBegins", spec := "flowBegins", unfollowed := true, recurses := true, named := ["cupola/ins.shapes", "cupola/flow.barriers"], apart := false, laid := [("cupola/ins.shapes", laid_cupola_ins_shapes), ("cupola/flow.barriers", laid_cupola_flow_barriers)], narrowed := true }
def FlowBeginsUptoSaid : Prop := flowBeginsUptoRow.holds Tryd.pinned (OpenSpec.upto flowBeginsSpec)

end Rows
end Go.Proofs.YtkiefbldkidobaaDoor
