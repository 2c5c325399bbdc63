/-
  NARROWER THAN 'FOR EVERY INPUT', by the rows' own cells (each row's printed sentence says how): ValsMany: laid · ValsReads: laid · ValsClosed: laid · ValsQuiet: laid.
  DERIVED. THE GIVEN ROWS OF THIS SEAT. 4 by the template 'for every input the law returns true; each argument reads behind the call as it read before'; 0 by the template 'total and deterministic' (their statements: YtgaannoghefbbaaDoorTotals.lean).
  GIVEN WITH THE SEED: the statements are not yours to turn. If you find one false, say at which input.
  Laid BY PROGRAM, IN A SANDBOX (cutbox-rows.mjs): the forced cells as the released guide's own fill.sh prints them over the translation 7742960f87ce6a79… (all of the seat's roots in one cut). By AI agents, Wed Nov 11 2026. No macro, syntax, notation, axiom, sorry.
-/
import Derived.Test.YtgaannoghefbbaaDoorChecked
import GoSem.Claim
import GoSem.ClaimJoined
import GoSem.ClaimMapViews
import Derived.JoinedTies
import Derived.KernelRfl
namespace Go.Proofs.YtgaannoghefbbaaDoor
/- THE CELL 'sum', in the pinned program and in every row, IS THE sha256 OF THE DUMP (.gsa) THAT YtgaannoghefbbaaDoorProg.lean LOADS. Nothing in Lean hashes anything: it is a label: what it is worth is what the hold of that sum in a sandbox is worth. -/
noncomputable def Tryd.pinned : Pinned := { name := "ytgaannoghefbbaadoor", sum := "7742960f87ce6a7936290bc1b6eee5950d08b5e22a458c3c6e7bc434a7e330a2", checked := Tryd.checked }
namespace Rows
def none {H : Type} : Left H := { results := [], args := [] }

/- WHAT THE LISTED PACKAGE-LEVEL VARIABLES READ AS WHEN THE CALL BEGINS. Each datum BY PROGRAM (the guide's laid-datum.mjs) off the statement by which the dump's own 'gosem.cut.vars' lays the variable. In a bare row this is a premise. The card (YtgaannoghefbbaaDoorCards.lean) ties it to the program's text. -/
def laid_cupola_ins_shapes {H : Type} : DataW H := .agg [.agg [.lit (.string []), .lit (.int .i64 0), .lit (.int .i64 0)], .agg [.lit (.string [109, 111, 118]), .lit (.int .i64 0), .lit (.int .i64 17)], .agg [.lit (.string [97, 100, 100]), .lit (.int .i64 0), .lit (.int .i64 7)], .agg [.lit (.string [101, 111, 114]), .lit (.int .i64 0), .lit (.int .i64 7)], .agg [.lit (.string [97, 110, 100]), .lit (.int .i64 0), .lit (.int .i64 7)], .agg [.lit (.string [108, 100, 114]), .lit (.int .i64 1), .lit (.int .i64 11)], .agg [.lit (.string [115, 116, 114]), .lit (.int .i64 2), .lit (.int .i64 14)], .agg [.lit (.string [108, 100, 97, 114]), .lit (.int .i64 1), .lit (.int .i64 11)], .agg [.lit (.string [115, 116, 108, 114]), .lit (.int .i64 2), .lit (.int .i64 14)], .agg [.lit (.string [108, 100, 120, 114]), .lit (.int .i64 1), .lit (.int .i64 11)], .agg [.lit (.string [115, 116, 120, 114]), .lit (.int .i64 2), .lit (.int .i64 15)], .agg [.lit (.string [100, 109, 98]), .lit (.int .i64 0), .lit (.int .i64 16)], .agg [.lit (.string [105, 115, 98]), .lit (.int .i64 0), .lit (.int .i64 0)], .agg [.lit (.string [99, 98, 122]), .lit (.int .i64 0), .lit (.int .i64 18)], .agg [.lit (.string [99, 98, 110, 122]), .lit (.int .i64 0), .lit (.int .i64 18)]]
def laid_cupola_flow_barriers {H : Type} : DataW H := .agg [.lit (.int .i64 3), .lit (.int .i64 4), .lit (.int .i64 5)]

/-- 'cupolalaw09.ValsMany': WHATEVER THE INPUT: true; the input reads as it did. -/
def valsManySpec : ChangeSpec := { name := "valsMany", fn := fun _ => fun
  | [d1, d2, d3] => { results := [.lit (.bool true)], args := [d1, d2, d3] }
  | _ => none }
def valsManyRow : OpenClaim := { program := "ytgaannoghefbbaadoor", sum := "7742960f87ce6a7936290bc1b6eee5950d08b5e22a458c3c6e7bc434a7e330a2", func := "cupola/cupolalaw09.ValsMany", spec := "valsMany", unfollowed := true, recurses := true, named := ["cupola/ins.shapes", "cupola/flow.barriers"], apart := false, laid := [("cupola/ins.shapes", laid_cupola_ins_shapes), ("cupola/flow.barriers", laid_cupola_flow_barriers)] }
def ValsManySaid : Prop := valsManyRow.holds Tryd.pinned (OpenSpec.ofChange valsManySpec)

/-- ITS FALSE NEIGHBOUR: 'it returns false'. Refute it at one input. -/
def valsManyWrong : ChangeSpec := { name := "valsMany", fn := fun _ => fun
  | [d1, d2, d3] => { results := [.lit (.bool false)], args := [d1, d2, d3] }
  | _ => none }
def ValsManyWrongFalsely : Prop := valsManyRow.holds Tryd.pinned (OpenSpec.ofChange valsManyWrong)

/-- 'cupolalaw09.ValsReads': WHATEVER THE INPUT: true; the input reads as it did. -/
def valsReadsSpec : ChangeSpec := { name := "valsReads", fn := fun _ => fun
  | [d1, d2] => { results := [.lit (.bool true)], args := [d1, d2] }
  | _ => none }
def valsReadsRow : OpenClaim := { program := "ytgaannoghefbbaadoor", sum := "7742960f87ce6a7936290bc1b6eee5950d08b5e22a458c3c6e7bc434a7e330a2", func := "cupola/cupolalaw09.ValsReads", spec := "valsReads", unfollowed := true, recurses := true, named := ["cupola/ins.shapes", "cupola/flow.barriers"], apart := false, laid := [("cupola/ins.shapes", laid_cupola_ins_shapes), ("cupola/flow.barriers", laid_cupola_flow_barriers)] }
def ValsReadsSaid : Prop := valsReadsRow.holds Tryd.pinned (OpenSpec.ofChange valsReadsSpec)

/-- ITS FALSE NEIGHBOUR: 'it returns false'. Refute it at one input. -/
def valsReadsWrong : ChangeSpec := { name := "valsReads", fn := fun _ => fun
  | [d1, d2] => { results := [.lit (.bool false)], args := [d1, d2] }
  | _ => none }
def ValsReadsWrongFalsely : Prop := valsReadsRow.holds Tryd.pinned (OpenSpec.ofChange valsReadsWrong)

/-- 'cupolalaw09.ValsClosed': WHATEVER THE INPUT: true; the input reads as it did. -/
def valsClosedSpec : ChangeSpec := { name := "valsClosed", fn := fun _ => fun
  | [d] => { results := [.lit (.bool true)], args := [d] }
  | _ => none }
def valsClosedRow : OpenClaim := { program := "ytgaannoghefbbaadoor", sum := "7742960f87ce6a7936290bc1b6eee5950d08b5e22a458c3c6e7bc434a7e330a2", func := "cupola/cupolalaw09.ValsClosed", spec := "valsClosed", unfollowed := true, recurses := true, named := ["cupola/ins.shapes", "cupola/flow.barriers"], apart := false, laid := [("cupola/ins.shapes", laid_cupola_ins_shapes), ("cupola/flow.barriers", laid_cupola_flow_barriers)] }
def ValsClosedSaid : Prop := valsClosedRow.holds Tryd.pinned (OpenSpec.ofChange valsClosedSpec)

/-- ITS FALSE NEIGHBOUR: 'it returns false'. Refute it at one input. -/
def valsClosedWrong : ChangeSpec := { name := "valsClosed", fn := fun _ => fun
  | [d] => { results := [.lit (.bool false)], args := [d] }
  | _ => none }
def ValsClosedWrongFalsely : Prop := valsClosedRow.holds Tryd.pinned (OpenSpec.ofChange valsClosedWrong)

/-- 'cupolalaw09.ValsQuiet': WHATEVER THE INPUT: true; the input reads as it did. -/
def valsQuietSpec : ChangeSpec := { name := "valsQuiet", fn := fun _ => fun
  | [d] => { results := [.lit (.bool true)], args := [d] }
  | _ => none }
def valsQuietRow : OpenClaim := { program := "ytgaannoghefbbaadoor", sum := "7742960f87ce6a7936290bc1b6eee5950d08b5e22a458c3c6e7bc434a7e330a2", func := "cupola/cupolalaw09.ValsQuiet", spec := "valsQuiet", unfollowed := true, recurses := true, named := ["cupola/ins.shapes", "cupola/flow.barriers"], apart := false, laid := [("cupola/ins.shapes", laid_cupola_ins_shapes), ("cupola/flow.barriers", laid_cupola_flow_barriers)] }
def ValsQuietSaid : Prop := valsQuietRow.holds Tryd.pinned (OpenSpec.ofChange valsQuietSpec)

/-- ITS FALSE NEIGHBOUR: 'it returns false'. Refute it at one input. -/
def valsQuietWrong : ChangeSpec := { name := "valsQuiet", fn := fun _ => fun
  | [d] => { results := [.lit (.bool false)], args := [d] }
  | _ => none }
def ValsQuietWrongFalsely : Prop := valsQuietRow.holds Tryd.pinned (OpenSpec.ofChange valsQuietWrong)

/- THE SECOND FORM. 'bulk': how many values and letters a reading holds, each counted each time it is reached (what is shared counts as often as it is met; a slice's spare places count too). A statement '..UptoSaid' is the law's where the arguments, and the package variables that the reading takes, are together of bulk at most 1048576: NARROWER than '..Said'. Prove '..Said' where nothing that the law and all that it calls make is longer than what came in: it says more and counts as full. Else prove '..UptoSaid'. A law counts once. -/
mutual
def uptoBulk {H : Type} : DataW H → Nat
  | .lit (.string bytes) => bytes.length + 1
  | .lit _ => 1
  | .nil => 1
  | .ptr d => uptoBulk d + 1
  | .slice elems spare => uptoBulkAll elems + uptoBulkAll spare + 1
  | .agg parts => uptoBulkAll parts + 1
  | .iface _ d => uptoBulk d + 1
  | .map entries => uptoBulkEntries entries + 1
  | .held _ => 1
def uptoBulkAll {H : Type} : List (DataW H) → Nat
  | [] => 0
  | d :: r => uptoBulk d + uptoBulkAll r
def uptoBulkEntries {H : Type} : List (Lit × DataW H) → Nat
  | [] => 0
  | x :: r => uptoBulkEntry x + uptoBulkEntries r
def uptoBulkEntry {H : Type} : Lit × DataW H → Nat
  | (.string bytes, d) => bytes.length + uptoBulk d + 1
  | (_, d) => uptoBulk d + 1
 end
def uptoSmall : (H : Type) → List (DataW H) → Bool := fun _ ds => decide (uptoBulkAll ds ≤ 1048576)
def OpenSpec.upto (s : _root_.Go.ChangeSpec) : _root_.Go.OpenSpec := { _root_.Go.OpenSpec.ofChange s with cond := some uptoSmall }

/-- 'cupolalaw09.ValsMany', WHERE WHAT IT READS IS OF BULK AT MOST 1048576: true; the input reads as it did. -/
def valsManyUptoRow : OpenClaim := { program := "ytgaannoghefbbaadoor", sum := "7742960f87ce6a7936290bc1b6eee5950d08b5e22a458c3c6e7bc434a7e330a2", func := "cupola/cupolalaw09.ValsMany", spec := "valsMany", unfollowed := true, recurses := true, named := ["cupola/ins.shapes", "cupola/flow.barriers"], apart := false, laid := [("cupola/ins.shapes", laid_cupola_ins_shapes), ("cupola/flow.barriers", laid_cupola_flow_barriers)], narrowed := true }
def ValsManyUptoSaid : Prop := valsManyUptoRow.holds Tryd.pinned (OpenSpec.upto valsManySpec)

/-- 'cupolalaw09.ValsReads', WHERE WHAT IT READS IS OF BULK AT MOST 1048576: true; the input reads as it did. -/
def valsReadsUptoRow : OpenClaim := { program := "ytgaannoghefbbaadoor", sum := "7742960f87ce6a7936290bc1b6eee5950d08b5e22a458c3c6e7bc434a7e330a2", func := "cupola/cupolalaw09.ValsReads", spec := "valsReads", unfollowed := true, recurses := true, named := ["cupola/ins.shapes", "cupola/flow.barriers"], apart := false, laid := [("cupola/ins.shapes", laid_cupola_ins_shapes), ("cupola/flow.barriers", laid_cupola_flow_barriers)], narrowed := true }
def ValsReadsUptoSaid : Prop := valsReadsUptoRow.holds Tryd.pinned (OpenSpec.upto valsReadsSpec)

/-- 'cupolalaw09.ValsClosed', WHERE WHAT IT READS IS OF BULK AT MOST 1048576: true; the input reads as it did. -/
def valsClosedUptoRow : OpenClaim := { program := "ytgaannoghefbbaadoor", sum := "7742960f87ce6a7936290bc1b6eee5950d08b5e22a458c3c6e7bc434a7e330a2", func := "cupola/cupolalaw09.ValsClosed", spec := "valsClosed", unfollowed := true, recurses := true, named := ["cupola/ins.shapes", "cupola/flow.barriers"], apart := false, laid := [("cupola/ins.shapes", laid_cupola_ins_shapes), ("cupola/flow.barriers", laid_cupola_flow_barriers)], narrowed := true }
def ValsClosedUptoSaid : Prop := valsClosedUptoRow.holds Tryd.pinned (OpenSpec.upto valsClosedSpec)

/-- 'cupolalaw09.ValsQuiet', WHERE WHAT IT READS IS OF BULK AT MOST 1048576: true; the input reads as it did. -/
def valsQuietUptoRow : OpenClaim := { program := "ytgaannoghefbbaadoor", sum := "7742960f87ce6a7936290bc1b6eee5950d08b5e22a458c3c6e7bc434a7e330a2", func := "cupola/cupolalaw09.ValsQuiet", spec := "valsQuiet", unfollowed := true, recurses := true, named := ["cupola/ins.shapes", "cupola/flow.barriers"], apart := false, laid := [("cupola/ins.shapes", laid_cupola_ins_shapes), ("cupola/flow.barriers", laid_cupola_flow_barriers)], narrowed := true }
def ValsQuietUptoSaid : Prop := valsQuietUptoRow.holds Tryd.pinned (OpenSpec.upto valsQuietSpec)

end Rows
end Go.Proofs.YtgaannoghefbbaaDoor
