/-
  NARROWER THAN 'FOR EVERY INPUT', by the rows' own cells (each row's printed sentence says how): RegsHang: laid · RegsPlace: laid · RegsSets: laid · RegsSwap: laid.
  DERIVED. THE GIVEN ROWS OF THIS SEAT. 4 by the template 'for every input the law returns true; each argument reads behind the call as it read before'; 0 by the template 'total and deterministic' (their statements: YtckaniemilmphaaDoorTotals.lean).
  GIVEN WITH THE SEED: the statements are not yours to turn. If you find one false, say at which input.
  Laid BY PROGRAM, IN A SANDBOX (cutbox-rows.mjs): the forced cells as the released guide's own fill.sh prints them over the translation f56f577d6531d2d2… (all of the seat's roots in one cut). By AI agents, Wed Nov 11 2026. No macro, syntax, notation, axiom, sorry.
-/
import Derived.Test.YtckaniemilmphaaDoorChecked
import GoSem.Claim
import GoSem.ClaimJoined
import GoSem.ClaimMapViews
import Derived.JoinedTies
import Derived.KernelRfl
namespace Go.Proofs.YtckaniemilmphaaDoor
/- THE CELL 'sum', in the pinned program and in every row, IS THE sha256 OF THE DUMP (.gsa) THAT YtckaniemilmphaaDoorProg.lean LOADS. Nothing in Lean hashes anything: it is a label: what it is worth is what the hold of that sum in a sandbox is worth. -/
noncomputable def Tryd.pinned : Pinned := { name := "ytckaniemilmphaadoor", sum := "f56f577d6531d2d2ce00e92a9ae0ed5a9e3be2309a97c4236108e539956cee76", checked := Tryd.checked }
namespace Rows
def none {H : Type} : Left H := { results := [], args := [] }

/- WHAT THE LISTED PACKAGE-LEVEL VARIABLES READ AS WHEN THE CALL BEGINS. Each datum BY PROGRAM (the guide's laid-datum.mjs) off the statement by which the dump's own 'gosem.cut.vars' lays the variable. In a bare row this is a premise. The card (YtckaniemilmphaaDoorCards.lean) ties it to the program's text. -/
def laid_cupola_ins_shapes {H : Type} : DataW H := .agg [.agg [.lit (.string []), .lit (.int .i64 0), .lit (.int .i64 0)], .agg [.lit (.string [109, 111, 118]), .lit (.int .i64 0), .lit (.int .i64 17)], .agg [.lit (.string [97, 100, 100]), .lit (.int .i64 0), .lit (.int .i64 7)], .agg [.lit (.string [101, 111, 114]), .lit (.int .i64 0), .lit (.int .i64 7)], .agg [.lit (.string [97, 110, 100]), .lit (.int .i64 0), .lit (.int .i64 7)], .agg [.lit (.string [108, 100, 114]), .lit (.int .i64 1), .lit (.int .i64 11)], .agg [.lit (.string [115, 116, 114]), .lit (.int .i64 2), .lit (.int .i64 14)], .agg [.lit (.string [108, 100, 97, 114]), .lit (.int .i64 1), .lit (.int .i64 11)], .agg [.lit (.string [115, 116, 108, 114]), .lit (.int .i64 2), .lit (.int .i64 14)], .agg [.lit (.string [108, 100, 120, 114]), .lit (.int .i64 1), .lit (.int .i64 11)], .agg [.lit (.string [115, 116, 120, 114]), .lit (.int .i64 2), .lit (.int .i64 15)], .agg [.lit (.string [100, 109, 98]), .lit (.int .i64 0), .lit (.int .i64 16)], .agg [.lit (.string [105, 115, 98]), .lit (.int .i64 0), .lit (.int .i64 0)], .agg [.lit (.string [99, 98, 122]), .lit (.int .i64 0), .lit (.int .i64 18)], .agg [.lit (.string [99, 98, 110, 122]), .lit (.int .i64 0), .lit (.int .i64 18)]]

/-- 'cupolalaw07.RegsHang': WHATEVER THE INPUT: true; the input reads as it did. -/
def regsHangSpec : ChangeSpec := { name := "regsHang", fn := fun _ => fun
  | [d1, d2, d3, d4, d5] => { results := [.lit (.bool true)], args := [d1, d2, d3, d4, d5] }
  | _ => none }
def regsHangRow : OpenClaim := { program := "ytckaniemilmphaadoor", sum := "f56f577d6531d2d2ce00e92a9ae0ed5a9e3be2309a97c4236108e539956cee76", func := "cupola/cupolalaw07.RegsHang", spec := "regsHang", unfollowed := true, recurses := true, named := ["cupola/ins.shapes"], apart := false, laid := [("cupola/ins.shapes", laid_cupola_ins_shapes)] }
def RegsHangSaid : Prop := regsHangRow.holds Tryd.pinned (OpenSpec.ofChange regsHangSpec)

/-- ITS FALSE NEIGHBOUR: 'it returns false'. Refute it at one input. -/
def regsHangWrong : ChangeSpec := { name := "regsHang", fn := fun _ => fun
  | [d1, d2, d3, d4, d5] => { results := [.lit (.bool false)], args := [d1, d2, d3, d4, d5] }
  | _ => none }
def RegsHangWrongFalsely : Prop := regsHangRow.holds Tryd.pinned (OpenSpec.ofChange regsHangWrong)

/-- 'cupolalaw07.RegsPlace': WHATEVER THE INPUT: true; the input reads as it did. -/
def regsPlaceSpec : ChangeSpec := { name := "regsPlace", fn := fun _ => fun
  | [d1, d2, d3, d4] => { results := [.lit (.bool true)], args := [d1, d2, d3, d4] }
  | _ => none }
def regsPlaceRow : OpenClaim := { program := "ytckaniemilmphaadoor", sum := "f56f577d6531d2d2ce00e92a9ae0ed5a9e3be2309a97c4236108e539956cee76", func := "cupola/cupolalaw07.RegsPlace", spec := "regsPlace", named := ["cupola/ins.shapes"], apart := false, laid := [("cupola/ins.shapes", laid_cupola_ins_shapes)] }
def RegsPlaceSaid : Prop := regsPlaceRow.holds Tryd.pinned (OpenSpec.ofChange regsPlaceSpec)

/-- ITS FALSE NEIGHBOUR: 'it returns false'. Refute it at one input. -/
def regsPlaceWrong : ChangeSpec := { name := "regsPlace", fn := fun _ => fun
  | [d1, d2, d3, d4] => { results := [.lit (.bool false)], args := [d1, d2, d3, d4] }
  | _ => none }
def RegsPlaceWrongFalsely : Prop := regsPlaceRow.holds Tryd.pinned (OpenSpec.ofChange regsPlaceWrong)

/-- 'cupolalaw07.RegsSets': WHATEVER THE INPUT: true; the input reads as it did. -/
def regsSetsSpec : ChangeSpec := { name := "regsSets", fn := fun _ => fun
  | [d1, d2, d3, d4, d5] => { results := [.lit (.bool true)], args := [d1, d2, d3, d4, d5] }
  | _ => none }
def regsSetsRow : OpenClaim := { program := "ytckaniemilmphaadoor", sum := "f56f577d6531d2d2ce00e92a9ae0ed5a9e3be2309a97c4236108e539956cee76", func := "cupola/cupolalaw07.RegsSets", spec := "regsSets", named := ["cupola/ins.shapes"], apart := false, laid := [("cupola/ins.shapes", laid_cupola_ins_shapes)] }
def RegsSetsSaid : Prop := regsSetsRow.holds Tryd.pinned (OpenSpec.ofChange regsSetsSpec)

/-- ITS FALSE NEIGHBOUR: 'it returns false'. Refute it at one input. -/
def regsSetsWrong : ChangeSpec := { name := "regsSets", fn := fun _ => fun
  | [d1, d2, d3, d4, d5] => { results := [.lit (.bool false)], args := [d1, d2, d3, d4, d5] }
  | _ => none }
def RegsSetsWrongFalsely : Prop := regsSetsRow.holds Tryd.pinned (OpenSpec.ofChange regsSetsWrong)

/-- 'cupolalaw07.RegsSwap': WHATEVER THE INPUT: true; the input reads as it did. -/
def regsSwapSpec : ChangeSpec := { name := "regsSwap", fn := fun _ => fun
  | [d1, d2, d3, d4, d5] => { results := [.lit (.bool true)], args := [d1, d2, d3, d4, d5] }
  | _ => none }
def regsSwapRow : OpenClaim := { program := "ytckaniemilmphaadoor", sum := "f56f577d6531d2d2ce00e92a9ae0ed5a9e3be2309a97c4236108e539956cee76", func := "cupola/cupolalaw07.RegsSwap", spec := "regsSwap", unfollowed := true, recurses := true, named := ["cupola/ins.shapes"], apart := false, laid := [("cupola/ins.shapes", laid_cupola_ins_shapes)] }
def RegsSwapSaid : Prop := regsSwapRow.holds Tryd.pinned (OpenSpec.ofChange regsSwapSpec)

/-- ITS FALSE NEIGHBOUR: 'it returns false'. Refute it at one input. -/
def regsSwapWrong : ChangeSpec := { name := "regsSwap", fn := fun _ => fun
  | [d1, d2, d3, d4, d5] => { results := [.lit (.bool false)], args := [d1, d2, d3, d4, d5] }
  | _ => none }
def RegsSwapWrongFalsely : Prop := regsSwapRow.holds Tryd.pinned (OpenSpec.ofChange regsSwapWrong)

/- THE SECOND FORM. 'bulk': how many values and letters a reading holds, each counted each time it is reached (what is shared counts as often as it is met; a slice's spare places count too). A statement '..UptoSaid' is the law's where the arguments, and the package variables that the reading takes, are together of bulk at most 1048576: NARROWER than '..Said'. Prove '..Said' where nothing that the law and all that it calls make is longer than what came in: it says more and counts as full. Else prove '..UptoSaid'. A law counts once. -/
mutual
def uptoBulk {H : Type} : DataW H → Nat
  | .lit (.string bytes) => bytes.length + 1
  | .lit _ => 1
  | .nil => 1
  | .ptr d => uptoBulk d + 1
  | .slice elems spare => uptoBulkAll elems + uptoBulkAll spare + 1
  | .agg parts => uptoBulkAll parts + 1
  | .iface _ d => uptoBulk d + 1
  | .map entries => uptoBulkEntries entries + 1
  | .held _ => 1
def uptoBulkAll {H : Type} : List (DataW H) → Nat
  | [] => 0
  | d :: r => uptoBulk d + uptoBulkAll r
def uptoBulkEntries {H : Type} : List (Lit × DataW H) → Nat
  | [] => 0
  | x :: r => uptoBulkEntry x + uptoBulkEntries r
def uptoBulkEntry {H : Type} : Lit × DataW H → Nat
  | (.string bytes, d) => bytes.length + uptoBulk d + 1
  | (_, d) => uptoBulk d + 1
 end
def uptoSmall : (H : Type) → List (DataW H) → Bool := fun _ ds => decide (uptoBulkAll ds ≤ 1048576)
def OpenSpec.upto (s : _root_.Go.ChangeSpec) : _root_.Go.OpenSpec := { _root_.Go.OpenSpec.ofChange s with cond := some uptoSmall }

/-- 'cupolalaw07.RegsHang', WHERE WHAT IT READS IS OF BULK AT MOST 1048576: true; the input reads as it did. -/
def regsHangUptoRow : OpenClaim := { program := "ytckaniemilmphaadoor", sum := "f56f577d6531d2d2ce00e92a9ae0ed5a9e3be2309a97c4236108e539956cee76", func := "cupola/cupolalaw07.RegsHang", spec := "regsHang", unfollowed := true, recurses := true, named := ["cupola/ins.shapes"], apart := false, laid := [("cupola/ins.shapes", laid_cupola_ins_shapes)], narrowed := true }
def RegsHangUptoSaid : Prop := regsHangUptoRow.holds Tryd.pinned (OpenSpec.upto regsHangSpec)

/-- 'cupolalaw07.RegsPlace', WHERE WHAT IT READS IS OF BULK AT MOST 1048576: true; the input reads as it did. -/
def regsPlaceUptoRow : OpenClaim := { program := "ytckaniemilmphaadoor", sum := "f56f577d6531d2d2ce00e92a9ae0ed5a9e3be2309a97c4236108e539956cee76", func := "cupola/cupolalaw07.RegsPlace", spec := "regsPlace", named := ["cupola/ins.shapes"], apart := false, laid := [("cupola/ins.shapes", laid_cupola_ins_shapes)], narrowed := true }
def RegsPlaceUptoSaid : Prop := regsPlaceUptoRow.holds Tryd.pinned (OpenSpec.upto regsPlaceSpec)

/-- 'cupolalaw07.RegsSets', WHERE WHAT IT READS IS OF BULK AT MOST 1048576: true; the input reads as it did. -/
def regsSetsUptoRow : OpenClaim := { program := "ytckaniemilmphaadoor", sum := "f56f577d6531d2d2ce00e92a9ae0ed5a9e3be2309a97c4236108e539956cee76", func := "cupola/cupolalaw07.RegsSets", spec := "regsSets", named := ["cupola/ins.shapes"], apart := false, laid := [("cupola/ins.shapes", laid_cupola_ins_shapes)], narrowed := true }
def RegsSetsUptoSaid : Prop := regsSetsUptoRow.holds Tryd.pinned (OpenSpec.upto regsSetsSpec)

/-- 'cupolalaw07.RegsSwap', WHERE WHAT IT READS IS OF BULK AT MOST 1048576: true; the input reads as it did. -/
def regsSwapUptoRow : OpenClaim := { program := "ytckaniemilmphaadoor", sum := "f56f577d6531d2d2ce00e92a9ae0ed5a9e3be2309a97c4236108e539956cee76", func := "cupola/cupolalaw07.RegsSwap", spec := "regsSwap", unfollowed := true, recurses := true, named := ["cupola/ins.shapes"], apart := false, laid := [("cupola/ins.shapes", laid_cupola_ins_shapes)], narrowed := true }
def RegsSwapUptoSaid : Prop := regsSwapUptoRow.holds Tryd.pinned (OpenSpec.upto regsSwapSpec)

end Rows
end Go.Proofs.YtckaniemilmphaaDoor
