/-
  NARROWER THAN 'FOR EVERY INPUT', by the rows' own cells (each row's printed sentence says how): InsTells: laid · InsRegs: laid · InsWider: laid · InsTurned: laid · InsNames: laid · InsLoads: laid.
  DERIVED. THE GIVEN ROWS OF THIS SEAT. 6 by the template 'for every input the law returns true; each argument reads behind the call as it read before'; 0 by the template 'total and deterministic' (their statements: YtmmdjgjklbchfaaDoorTotals.lean).
  GIVEN WITH THE SEED: the statements are not yours to turn. If you find one false, say at which input.
  Laid BY PROGRAM, IN A SANDBOX (cutbox-rows.mjs): the forced cells as the released guide's own fill.sh prints them over the translation 88b3a409c0644988… (all of the seat's roots in one cut). By AI agents, Wed Nov 11 2026. No macro, syntax, notation, axiom, sorry.
-/
import Derived.Test.YtmmdjgjklbchfaaDoorChecked
import GoSem.Claim
import GoSem.ClaimJoined
import GoSem.ClaimMapViews
import Derived.JoinedTies
import Derived.KernelRfl
namespace Go.Proofs.YtmmdjgjklbchfaaDoor
/- THE CELL 'sum', in the pinned program and in every row, IS THE sha256 OF THE DUMP (.gsa) THAT YtmmdjgjklbchfaaDoorProg.lean LOADS. Nothing in Lean hashes anything: it is a label: what it is worth is what the hold of that sum in a sandbox is worth. -/
noncomputable def Tryd.pinned : Pinned := { name := "ytmmdjgjklbchfaadoor", sum := "88b3a409c0644988429db1b866ed7f75534393226ecc1da99a3f43ee094cd6cd", checked := Tryd.checked }
namespace Rows
def none {H : Type} : Left H := { results := [], args := [] }

/- WHAT THE LISTED PACKAGE-LEVEL VARIABLES READ AS WHEN THE CALL BEGINS. Each datum BY PROGRAM (the guide's laid-datum.mjs) off the statement by which the dump's own 'gosem.cut.vars' lays the variable. In a bare row this is a premise. The card (YtmmdjgjklbchfaaDoorCards.lean) ties it to the program's text. -/
def laid_cupola_ins_shapes {H : Type} : DataW H := .agg [.agg [.lit (.string []), .lit (.int .i64 0), .lit (.int .i64 0)], .agg [.lit (.string [109, 111, 118]), .lit (.int .i64 0), .lit (.int .i64 17)], .agg [.lit (.string [97, 100, 100]), .lit (.int .i64 0), .lit (.int .i64 7)], .agg [.lit (.string [101, 111, 114]), .lit (.int .i64 0), .lit (.int .i64 7)], .agg [.lit (.string [97, 110, 100]), .lit (.int .i64 0), .lit (.int .i64 7)], .agg [.lit (.string [108, 100, 114]), .lit (.int .i64 1), .lit (.int .i64 11)], .agg [.lit (.string [115, 116, 114]), .lit (.int .i64 2), .lit (.int .i64 14)], .agg [.lit (.string [108, 100, 97, 114]), .lit (.int .i64 1), .lit (.int .i64 11)], .agg [.lit (.string [115, 116, 108, 114]), .lit (.int .i64 2), .lit (.int .i64 14)], .agg [.lit (.string [108, 100, 120, 114]), .lit (.int .i64 1), .lit (.int .i64 11)], .agg [.lit (.string [115, 116, 120, 114]), .lit (.int .i64 2), .lit (.int .i64 15)], .agg [.lit (.string [100, 109, 98]), .lit (.int .i64 0), .lit (.int .i64 16)], .agg [.lit (.string [105, 115, 98]), .lit (.int .i64 0), .lit (.int .i64 0)], .agg [.lit (.string [99, 98, 122]), .lit (.int .i64 0), .lit (.int .i64 18)], .agg [.lit (.string [99, 98, 110, 122]), .lit (.int .i64 0), .lit (.int .i64 18)]]

/-- 'cupolalaw01.InsTells': WHATEVER THE INPUT: true; the input reads as it did. -/
def insTellsSpec : ChangeSpec := { name := "insTells", fn := fun _ => fun
  | [d1, d2, d3] => { results := [.lit (.bool true)], args := [d1, d2, d3] }
  | _ => none }
def insTellsRow : OpenClaim := { program := "ytmmdjgjklbchfaadoor", sum := "88b3a409c0644988429db1b866ed7f75534393226ecc1da99a3f43ee094cd6cd", func := "cupola/cupolalaw01.InsTells", spec := "insTells", named := ["cupola/ins.shapes"], apart := false, laid := [("cupola/ins.shapes", laid_cupola_ins_shapes)] }
def InsTellsSaid : Prop := insTellsRow.holds Tryd.pinned (OpenSpec.ofChange insTellsSpec)

/-- ITS FALSE NEIGHBOUR: 'it returns false'. Refute it at one input. -/
def insTellsWrong : ChangeSpec := { name := "insTells", fn := fun _ => fun
  | [d1, d2, d3] => { results := [.lit (.bool false)], args := [d1, d2, d3] }
  | _ => none }
def InsTellsWrongFalsely : Prop := insTellsRow.holds Tryd.pinned (OpenSpec.ofChange insTellsWrong)

/-- 'cupolalaw01.InsRegs': WHATEVER THE INPUT: true; the input reads as it did. -/
def insRegsSpec : ChangeSpec := { name := "insRegs", fn := fun _ => fun
  | [d1, d2, d3] => { results := [.lit (.bool true)], args := [d1, d2, d3] }
  | _ => none }
def insRegsRow : OpenClaim := { program := "ytmmdjgjklbchfaadoor", sum := "88b3a409c0644988429db1b866ed7f75534393226ecc1da99a3f43ee094cd6cd", func := "cupola/cupolalaw01.InsRegs", spec := "insRegs", named := ["cupola/ins.shapes"], apart := false, laid := [("cupola/ins.shapes", laid_cupola_ins_shapes)] }
def InsRegsSaid : Prop := insRegsRow.holds Tryd.pinned (OpenSpec.ofChange insRegsSpec)

/-- ITS FALSE NEIGHBOUR: 'it returns false'. Refute it at one input. -/
def insRegsWrong : ChangeSpec := { name := "insRegs", fn := fun _ => fun
  | [d1, d2, d3] => { results := [.lit (.bool false)], args := [d1, d2, d3] }
  | _ => none }
def InsRegsWrongFalsely : Prop := insRegsRow.holds Tryd.pinned (OpenSpec.ofChange insRegsWrong)

/-- 'cupolalaw01.InsWider': WHATEVER THE INPUT: true; the input reads as it did. -/
def insWiderSpec : ChangeSpec := { name := "insWider", fn := fun _ => fun
  | [d1, d2, d3, d4] => { results := [.lit (.bool true)], args := [d1, d2, d3, d4] }
  | _ => none }
def insWiderRow : OpenClaim := { program := "ytmmdjgjklbchfaadoor", sum := "88b3a409c0644988429db1b866ed7f75534393226ecc1da99a3f43ee094cd6cd", func := "cupola/cupolalaw01.InsWider", spec := "insWider", named := ["cupola/ins.shapes"], apart := false, laid := [("cupola/ins.shapes", laid_cupola_ins_shapes)] }
def InsWiderSaid : Prop := insWiderRow.holds Tryd.pinned (OpenSpec.ofChange insWiderSpec)

/-- ITS FALSE NEIGHBOUR: 'it returns false'. Refute it at one input. -/
def insWiderWrong : ChangeSpec := { name := "insWider", fn := fun _ => fun
  | [d1, d2, d3, d4] => { results := [.lit (.bool false)], args := [d1, d2, d3, d4] }
  | _ => none }
def InsWiderWrongFalsely : Prop := insWiderRow.holds Tryd.pinned (OpenSpec.ofChange insWiderWrong)

/-- 'cupolalaw01.InsTurned': WHATEVER THE INPUT: true; the input reads as it did. -/
def insTurnedSpec : ChangeSpec := { name := "insTurned", fn := fun _ => fun
  | [d1, d2, d3] => { results := [.lit (.bool true)], args := [d1, d2, d3] }
  | _ => none }
def insTurnedRow : OpenClaim := { program := "ytmmdjgjklbchfaadoor", sum := "88b3a409c0644988429db1b866ed7f75534393226ecc1da99a3f43ee094cd6cd", func := "cupola/cupolalaw01.InsTurned", spec := "insTurned", named := ["cupola/ins.shapes"], apart := false, laid := [("cupola/ins.shapes", laid_cupola_ins_shapes)] }
def InsTurnedSaid : Prop := insTurnedRow.holds Tryd.pinned (OpenSpec.ofChange insTurnedSpec)

/-- ITS FALSE NEIGHBOUR: 'it returns false'. Refute it at one input. -/
def insTurnedWrong : ChangeSpec := { name := "insTurned", fn := fun _ => fun
  | [d1, d2, d3] => { results := [.lit (.bool false)], args := [d1, d2, d3] }
  | _ => none }
def InsTurnedWrongFalsely : Prop := insTurnedRow.holds Tryd.pinned (OpenSpec.ofChange insTurnedWrong)

/-- 'cupolalaw01.InsNames': WHATEVER THE INPUT: true; the input reads as it did. -/
def insNamesSpec : ChangeSpec := { name := "insNames", fn := fun _ => fun
  | [d1, d2] => { results := [.lit (.bool true)], args := [d1, d2] }
  | _ => none }
def insNamesRow : OpenClaim := { program := "ytmmdjgjklbchfaadoor", sum := "88b3a409c0644988429db1b866ed7f75534393226ecc1da99a3f43ee094cd6cd", func := "cupola/cupolalaw01.InsNames", spec := "insNames", named := ["cupola/ins.shapes"], apart := false, laid := [("cupola/ins.shapes", laid_cupola_ins_shapes)] }
def InsNamesSaid : Prop := insNamesRow.holds Tryd.pinned (OpenSpec.ofChange insNamesSpec)

/-- ITS FALSE NEIGHBOUR: 'it returns false'. Refute it at one input. -/
def insNamesWrong : ChangeSpec := { name := "insNames", fn := fun _ => fun
  | [d1, d2] => { results := [.lit (.bool false)], args := [d1, d2] }
  | _ => none }
def InsNamesWrongFalsely : Prop := insNamesRow.holds Tryd.pinned (OpenSpec.ofChange insNamesWrong)

/-- 'cupolalaw01.InsLoads': WHATEVER THE INPUT: true; the input reads as it did. -/
def insLoadsSpec : ChangeSpec := { name := "insLoads", fn := fun _ => fun
  | [d1, d2, d3] => { results := [.lit (.bool true)], args := [d1, d2, d3] }
  | _ => none }
def insLoadsRow : OpenClaim := { program := "ytmmdjgjklbchfaadoor", sum := "88b3a409c0644988429db1b866ed7f75534393226ecc1da99a3f43ee094cd6cd", func := "cupola/cupolalaw01.InsLoads", spec := "insLoads", named := ["cupola/ins.shapes"], apart := false, laid := [("cupola/ins.shapes", laid_cupola_ins_shapes)] }
def InsLoadsSaid : Prop := insLoadsRow.holds Tryd.pinned (OpenSpec.ofChange insLoadsSpec)

/-- ITS FALSE NEIGHBOUR: 'it returns false'. Refute it at one input. -/
def insLoadsWrong : ChangeSpec := { name := "insLoads", fn := fun _ => fun
  | [d1, d2, d3] => { results := [.lit (.bool false)], args := [d1, d2, d3] }
  | _ => none }
def InsLoadsWrongFalsely : Prop := insLoadsRow.holds Tryd.pinned (OpenSpec.ofChange insLoadsWrong)

/- THE SECOND FORM. 'bulk': how many values and letters a reading holds, each counted each time it is reached (what is shared counts as often as it is met; a slice's spare places count too). A statement '..UptoSaid' is the law's where the arguments, and the package variables that the reading takes, are together of bulk at most 1048576: NARROWER than '..Said'. Prove '..Said' where nothing that the law and all that it calls make is longer than what came in: it says more and counts as full. Else prove '..UptoSaid'. A law counts once. -/
mutual
def uptoBulk {H : Type} : DataW H → Nat
  | .lit (.string bytes) => bytes.length + 1
  | .lit _ => 1
  | .nil => 1
  | .ptr d => uptoBulk d + 1
  | .slice elems spare => uptoBulkAll elems + uptoBulkAll spare + 1
  | .agg parts => uptoBulkAll parts + 1
  | .iface _ d => uptoBulk d + 1
  | .map entries => uptoBulkEntries entries + 1
  | .held _ => 1
def uptoBulkAll {H : Type} : List (DataW H) → Nat
  | [] => 0
  | d :: r => uptoBulk d + uptoBulkAll r
def uptoBulkEntries {H : Type} : List (Lit × DataW H) → Nat
  | [] => 0
  | x :: r => uptoBulkEntry x + uptoBulkEntries r
def uptoBulkEntry {H : Type} : Lit × DataW H → Nat
  | (.string bytes, d) => bytes.length + uptoBulk d + 1
  | (_, d) => uptoBulk d + 1
 end
def uptoSmall : (H : Type) → List (DataW H) → Bool := fun _ ds => decide (uptoBulkAll ds ≤ 1048576)
def OpenSpec.upto (s : _root_.Go.ChangeSpec) : _root_.Go.OpenSpec := { _root_.Go.OpenSpec.ofChange s with cond := some uptoSmall }

/-- 'cupolalaw01.InsTells', WHERE WHAT IT READS IS OF BULK AT MOST 1048576: true; the input reads as it did. -/
def insTellsUptoRow : OpenClaim := { program := "ytmmdjgjklbchfaadoor", sum := "88b3a409c0644988429db1b866ed7f75534393226ecc1da99a3f43ee094cd6cd", func := "cupola/cupolalaw01.InsTells", spec := "insTells", named := ["cupola/ins.shapes"], apart := false, laid := [("cupola/ins.shapes", laid_cupola_ins_shapes)], narrowed := true }
def InsTellsUptoSaid : Prop := insTellsUptoRow.holds Tryd.pinned (OpenSpec.upto insTellsSpec)

/-- 'cupolalaw01.InsRegs', WHERE WHAT IT READS IS OF BULK AT MOST 1048576: true; the input reads as it did. -/
def insRegsUptoRow : OpenClaim := { program := "ytmmdjgjklbchfaadoor", sum := "88b3a409c0644988429db1b866ed7f75534393226ecc1da99a3f43ee094cd6cd", func := "cupola/cupolalaw01.InsRegs", spec := "insRegs", named := ["cupola/ins.shapes"], apart := false, laid := [("cupola/ins.shapes", laid_cupola_ins_shapes)], narrowed := true }
def InsRegsUptoSaid : Prop := insRegsUptoRow.holds Tryd.pinned (OpenSpec.upto insRegsSpec)

/-- 'cupolalaw01.InsWider', WHERE WHAT IT READS IS OF BULK AT MOST 1048576: true; the input reads as it did. -/
def insWiderUptoRow : OpenClaim := { program := "ytmmdjgjklbchfaadoor", sum := "88b3a409c0644988429db1b866ed7f75534393226ecc1da99a3f43ee094cd6cd", func := "cupola/cupolalaw01.InsWider", spec := "insWider", named := ["cupola/ins.shapes"], apart := false, laid := [("cupola/ins.shapes", laid_cupola_ins_shapes)], narrowed := true }
def InsWiderUptoSaid : Prop := insWiderUptoRow.holds Tryd.pinned (OpenSpec.upto insWiderSpec)

/-- 'cupolalaw01.InsTurned', WHERE WHAT IT READS IS OF BULK AT MOST 1048576: true; the input reads as it did. -/
def insTurnedUptoRow : OpenClaim := { program := "ytmmdjgjklbchfaadoor", sum := "88b3a409c0644988429db1b866ed7f75534393226ecc1da99a3f43ee094cd6cd", func := "cupola/cupolalaw01.InsTurned", spec := "insTurned", named := ["cupola/ins.shapes"], apart := false, laid := [("cupola/ins.shapes", laid_cupola_ins_shapes)], narrowed := true }
def InsTurnedUptoSaid : Prop := insTurnedUptoRow.holds Tryd.pinned (OpenSpec.upto insTurnedSpec)

/-- 'cupolalaw01.InsNames', WHERE WHAT IT READS IS OF BULK AT MOST 1048576: true; the input reads as it did. -/
def insNamesUptoRow : OpenClaim := { program := "ytmmdjgjklbchfaadoor", sum := "88b3a409c0644988429db1b866ed7f75534393226ecc1da99a3f43ee094cd6cd", func := "cupola/cupolalaw01.InsNames", spec := "insNames", named := ["cupola/ins.shapes"], apart := false, laid := [("cupola/ins.shapes", laid_cupola_ins_shapes)], narrowed := true }
def InsNamesUptoSaid : Prop := insNamesUptoRow.holds Tryd.pinned (OpenSpec.upto insNamesSpec)

/-- 'cupolalaw01.InsLoads', WHERE WHAT IT READS IS OF BULK AT MOST 1048576: true; the input reads as it did. -/
def insLoadsUptoRow : OpenClaim := { program := "ytmmdjgjklbchfaadoor", sum := "88b3a409c0644988429db1b866ed7f75534393226ecc1da99a3f43ee094cd6cd", func := "cupola/cupolalaw01.InsLoads", spec := "insLoads", named := ["cupola/ins.shapes"], apart := false, laid := [("cupola/ins.shapes", laid_cupola_ins_shapes)], narrowed := true }
def InsLoadsUptoSaid : Prop := insLoadsUptoRow.holds Tryd.pinned (OpenSpec.upto insLoadsSpec)

end Rows
end Go.Proofs.YtmmdjgjklbchfaaDoor
