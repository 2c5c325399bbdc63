/-
  No cell of these rows narrows 'for every input' (looked for: loops, veiled, ifaces, maps, wideKeys, modest, calm, conditions, laid).
  DERIVED. THE GIVEN ROWS OF THIS SEAT. 6 by the template 'for every input the law returns true; each argument reads behind the call as it read before'; 0 by the template 'total and deterministic' (their statements: YtgffeihfcmbobaaTotals.lean).
  GIVEN WITH THE SEED: the statements are not yours to turn. If you find one false, say at which input.
  Laid BY PROGRAM, IN A SANDBOX (cutbox-rows.mjs): the forced cells as the released guide's own fill.sh prints them over the translation a840de62ced56c0d… (all of the seat's roots in one cut). By AI agents, Wed Nov 11 2026. No macro, syntax, notation, axiom, sorry.
-/
import Derived.Test.YtgffeihfcmbobaaChecked
import GoSem.Claim
import GoSem.ClaimJoined
import GoSem.ClaimMapViews
import Derived.JoinedTies
import Derived.KernelRfl
namespace Go.Proofs.Ytgffeihfcmbobaa
/- THE CELL 'sum', in the pinned program and in every row, IS THE sha256 OF THE DUMP (.gsa) THAT YtgffeihfcmbobaaProg.lean LOADS. Nothing in Lean hashes anything: it is a label: what it is worth is what the hold of that sum in a sandbox is worth. -/
noncomputable def Try.pinned : Pinned := { name := "ytgffeihfcmbobaa", sum := "a840de62ced56c0db3b12f7df9003dcdba0a2ec5b637e7135101e203d4e6a43b", checked := Try.checked }
namespace Rows
def none {H : Type} : Left H := { results := [], args := [] }

/-- 'cupolalaw11.SourceTells': WHATEVER THE INPUT: true; the input reads as it did. -/
def sourceTellsSpec : ChangeSpec := { name := "sourceTells", fn := fun _ => fun
  | [d1, d2, d3, d4] => { results := [.lit (.bool true)], args := [d1, d2, d3, d4] }
  | _ => none }
def sourceTellsRow : OpenClaim := { program := "ytgffeihfcmbobaa", sum := "a840de62ced56c0db3b12f7df9003dcdba0a2ec5b637e7135101e203d4e6a43b", func := "cupola/cupolalaw11.SourceTells", spec := "sourceTells", unfollowed := true, recurses := true, apart := false }
def SourceTellsSaid : Prop := sourceTellsRow.holds Try.pinned (OpenSpec.ofChange sourceTellsSpec)

/-- ITS FALSE NEIGHBOUR: 'it returns false'. Refute it at one input. -/
def sourceTellsWrong : ChangeSpec := { name := "sourceTells", fn := fun _ => fun
  | [d1, d2, d3, d4] => { results := [.lit (.bool false)], args := [d1, d2, d3, d4] }
  | _ => none }
def SourceTellsWrongFalsely : Prop := sourceTellsRow.holds Try.pinned (OpenSpec.ofChange sourceTellsWrong)

/-- 'cupolalaw11.SourceFits': WHATEVER THE INPUT: true; the input reads as it did. -/
def sourceFitsSpec : ChangeSpec := { name := "sourceFits", fn := fun _ => fun
  | [d1, d2] => { results := [.lit (.bool true)], args := [d1, d2] }
  | _ => none }
def sourceFitsRow : OpenClaim := { program := "ytgffeihfcmbobaa", sum := "a840de62ced56c0db3b12f7df9003dcdba0a2ec5b637e7135101e203d4e6a43b", func := "cupola/cupolalaw11.SourceFits", spec := "sourceFits", unfollowed := true, recurses := true, apart := false }
def SourceFitsSaid : Prop := sourceFitsRow.holds Try.pinned (OpenSpec.ofChange sourceFitsSpec)

/-- ITS FALSE NEIGHBOUR: 'it returns false'. Refute it at one input. -/
def sourceFitsWrong : ChangeSpec := { name := "sourceFits", fn := fun _ => fun
  | [d1, d2] => { results := [.lit (.bool false)], args := [d1, d2] }
  | _ => none }
def SourceFitsWrongFalsely : Prop := sourceFitsRow.holds Try.pinned (OpenSpec.ofChange sourceFitsWrong)

/-- 'cupolalaw11.SourceRf': WHATEVER THE INPUT: true; the input reads as it did. -/
def sourceRfSpec : ChangeSpec := { name := "sourceRf", fn := fun _ => fun
  | [d1, d2, d3] => { results := [.lit (.bool true)], args := [d1, d2, d3] }
  | _ => none }
def sourceRfRow : OpenClaim := { program := "ytgffeihfcmbobaa", sum := "a840de62ced56c0db3b12f7df9003dcdba0a2ec5b637e7135101e203d4e6a43b", func := "cupola/cupolalaw11.SourceRf", spec := "sourceRf", unfollowed := true, recurses := true, apart := false }
def SourceRfSaid : Prop := sourceRfRow.holds Try.pinned (OpenSpec.ofChange sourceRfSpec)

/-- ITS FALSE NEIGHBOUR: 'it returns false'. Refute it at one input. -/
def sourceRfWrong : ChangeSpec := { name := "sourceRf", fn := fun _ => fun
  | [d1, d2, d3] => { results := [.lit (.bool false)], args := [d1, d2, d3] }
  | _ => none }
def SourceRfWrongFalsely : Prop := sourceRfRow.holds Try.pinned (OpenSpec.ofChange sourceRfWrong)

/-- 'cupolalaw11.SourceNone': WHATEVER THE INPUT: true; the input reads as it did. -/
def sourceNoneSpec : ChangeSpec := { name := "sourceNone", fn := fun _ => fun
  | [d1, d2, d3] => { results := [.lit (.bool true)], args := [d1, d2, d3] }
  | _ => none }
def sourceNoneRow : OpenClaim := { program := "ytgffeihfcmbobaa", sum := "a840de62ced56c0db3b12f7df9003dcdba0a2ec5b637e7135101e203d4e6a43b", func := "cupola/cupolalaw11.SourceNone", spec := "sourceNone", unfollowed := true, recurses := true, apart := false }
def SourceNoneSaid : Prop := sourceNoneRow.holds Try.pinned (OpenSpec.ofChange sourceNoneSpec)

/-- ITS FALSE NEIGHBOUR: 'it returns false'. Refute it at one input. -/
def sourceNoneWrong : ChangeSpec := { name := "sourceNone", fn := fun _ => fun
  | [d1, d2, d3] => { results := [.lit (.bool false)], args := [d1, d2, d3] }
  | _ => none }
def SourceNoneWrongFalsely : Prop := sourceNoneRow.holds Try.pinned (OpenSpec.ofChange sourceNoneWrong)

/-- 'cupolalaw11.SourceMore': WHATEVER THE INPUT: true; the input reads as it did. -/
def sourceMoreSpec : ChangeSpec := { name := "sourceMore", fn := fun _ => fun
  | [d1, d2, d3, d4] => { results := [.lit (.bool true)], args := [d1, d2, d3, d4] }
  | _ => none }
def sourceMoreRow : OpenClaim := { program := "ytgffeihfcmbobaa", sum := "a840de62ced56c0db3b12f7df9003dcdba0a2ec5b637e7135101e203d4e6a43b", func := "cupola/cupolalaw11.SourceMore", spec := "sourceMore", unfollowed := true, recurses := true, apart := false }
def SourceMoreSaid : Prop := sourceMoreRow.holds Try.pinned (OpenSpec.ofChange sourceMoreSpec)

/-- ITS FALSE NEIGHBOUR: 'it returns false'. Refute it at one input. -/
def sourceMoreWrong : ChangeSpec := { name := "sourceMore", fn := fun _ => fun
  | [d1, d2, d3, d4] => { results := [.lit (.bool false)], args := [d1, d2, d3, d4] }
  | _ => none }
def SourceMoreWrongFalsely : Prop := sourceMoreRow.holds Try.pinned (OpenSpec.ofChange sourceMoreWrong)

/-- 'cupolalaw11.SourceInit': WHATEVER THE INPUT: true; the input reads as it did. -/
def sourceInitSpec : ChangeSpec := { name := "sourceInit", fn := fun _ => fun
  | [d1, d2, d3, d4] => { results := [.lit (.bool true)], args := [d1, d2, d3, d4] }
  | _ => none }
def sourceInitRow : OpenClaim := { program := "ytgffeihfcmbobaa", sum := "a840de62ced56c0db3b12f7df9003dcdba0a2ec5b637e7135101e203d4e6a43b", func := "cupola/cupolalaw11.SourceInit", spec := "sourceInit", unfollowed := true, recurses := true, apart := false }
def SourceInitSaid : Prop := sourceInitRow.holds Try.pinned (OpenSpec.ofChange sourceInitSpec)

/-- ITS FALSE NEIGHBOUR: 'it returns false'. Refute it at one input. -/
def sourceInitWrong : ChangeSpec := { name := "sourceInit", fn := fun _ => fun
  | [d1, d2, d3, d4] => { results := [.lit (.bool false)], args := [d1, d2, d3, d4] }
  | _ => none }
def SourceInitWrongFalsely : Prop := sourceInitRow.holds Try.pinned (OpenSpec.ofChange sourceInitWrong)

/- THE SECOND FORM. 'bulk': how many values and letters a reading holds, each counted each time it is reached (what is shared counts as often as it is met; a slice's spare places count too). A statement '..UptoSaid' is the law's where the arguments, and the package variables that the reading takes, are together of bulk at most 1048576: NARROWER than '..Said'. Prove '..Said' where nothing that the law and all that it calls make is longer than what came in: it says more and counts as full. Else prove '..UptoSaid'. A law counts once. -/
mutual
def uptoBulk {H : Type} : DataW H → Nat
  | .lit (.string bytes) => bytes.length + 1
  | .lit _ => 1
  | .nil => 1
  | .ptr d => uptoBulk d + 1
  | .slice elems spare => uptoBulkAll elems + uptoBulkAll spare + 1
  | .agg parts => uptoBulkAll parts + 1
  | .iface _ d => uptoBulk d + 1
  | .map entries => uptoBulkEntries entries + 1
  | .held _ => 1
def uptoBulkAll {H : Type} : List (DataW H) → Nat
  | [] => 0
  | d :: r => uptoBulk d + uptoBulkAll r
def uptoBulkEntries {H : Type} : List (Lit × DataW H) → Nat
  | [] => 0
  | x :: r => uptoBulkEntry x + uptoBulkEntries r
def uptoBulkEntry {H : Type} : Lit × DataW H → Nat
  | (.string bytes, d) => bytes.length + uptoBulk d + 1
  | (_, d) => uptoBulk d + 1
 end
def uptoSmall : (H : Type) → List (DataW H) → Bool := fun _ ds => decide (uptoBulkAll ds ≤ 1048576)
def OpenSpec.upto (s : _root_.Go.ChangeSpec) : _root_.Go.OpenSpec := { _root_.Go.OpenSpec.ofChange s with cond := some uptoSmall }

/-- 'cupolalaw11.SourceTells', WHERE WHAT IT READS IS OF BULK AT MOST 1048576: true; the input reads as it did. -/
def sourceTellsUptoRow : OpenClaim := { program := "ytgffeihfcmbobaa", sum := "a840de62ced56c0db3b12f7df9003dcdba0a2ec5b637e7135101e203d4e6a43b", func := "cupola/cupolalaw11.SourceTells", spec := "sourceTells", unfollowed := true, recurses := true, apart := false, narrowed := true }
def SourceTellsUptoSaid : Prop := sourceTellsUptoRow.holds Try.pinned (OpenSpec.upto sourceTellsSpec)

/-- 'cupolalaw11.SourceFits', WHERE WHAT IT READS IS OF BULK AT MOST 1048576: true; the input reads as it did. -/
def sourceFitsUptoRow : OpenClaim := { program := "ytgffeihfcmbobaa", sum := "a840de62ced56c0db3b12f7df9003dcdba0a2ec5b637e7135101e203d4e6a43b", func := "cupola/cupolalaw11.SourceFits", spec := "sourceFits", unfollowed := true, recurses := true, apart := false, narrowed := true }
def SourceFitsUptoSaid : Prop := sourceFitsUptoRow.holds Try.pinned (OpenSpec.upto sourceFitsSpec)

/-- 'cupolalaw11.SourceRf', WHERE WHAT IT READS IS OF BULK AT MOST 1048576: true; the input reads as it did. -/
def sourceRfUptoRow : OpenClaim := { program := "ytgffeihfcmbobaa", sum := "a840de62ced56c0db3b12f7df9003dcdba0a2ec5b637e7135101e203d4e6a43b", func := "cupola/cupolalaw11.SourceRf", spec := "sourceRf", unfollowed := true, recurses := true, apart := false, narrowed := true }
def SourceRfUptoSaid : Prop := sourceRfUptoRow.holds Try.pinned (OpenSpec.upto sourceRfSpec)

/-- 'cupolalaw11.SourceNone', WHERE WHAT IT READS IS OF BULK AT MOST 1048576: true; the input reads as it did. -/
def sourceNoneUptoRow : OpenClaim := { program := "ytgffeihfcmbobaa", sum := "a840de62ced56c0db3b12f7df9003dcdba0a2ec5b637e7135101e203d4e6a43b", func := "cupola/cupolalaw11.SourceNone", spec := "sourceNone", unfollowed := true, recurses := true, apart := false, narrowed := true }
def SourceNoneUptoSaid : Prop := sourceNoneUptoRow.holds Try.pinned (OpenSpec.upto sourceNoneSpec)

/-- 'cupolalaw11.SourceMore', WHERE WHAT IT READS IS OF BULK AT MOST 1048576: true; the input reads as it did. -/
def sourceMoreUptoRow : OpenClaim := { program := "ytgffeihfcmbobaa", sum := "a840de62ced56c0db3b12f7df9003dcdba0a2ec5b637e7135101e203d4e6a43b", func := "cupola/cupolalaw11.SourceMore", spec := "sourceMore", unfollowed := true, recurses := true, apart := false, narrowed := true }
def SourceMoreUptoSaid : Prop := sourceMoreUptoRow.holds Try.pinned (OpenSpec.upto sourceMoreSpec)

/-- 'cupolalaw11.SourceInit', WHERE WHAT IT READS IS OF BULK AT MOST 1048576: true; the input reads as it did. -/
def sourceInitUptoRow : OpenClaim := { program := "ytgffeihfcmbobaa", sum := "a840de62ced56c0db3b12f7df9003dcdba0a2ec5b637e7135101e203d4e6a43b", func := "cupola/cupolalaw11.SourceInit", spec := "sourceInit", unfollowed := true, recurses := true, apart := false, narrowed := true }
def SourceInitUptoSaid : Prop := sourceInitUptoRow.holds Try.pinned (OpenSpec.upto sourceInitSpec)

end Rows
end Go.Proofs.Ytgffeihfcmbobaa
