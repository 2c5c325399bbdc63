/-
  No cell of these rows narrows 'for every input' (looked for: loops, veiled, ifaces, maps, wideKeys, modest, calm, conditions, laid).
  DERIVED. THE GIVEN ROWS OF THIS SEAT. 6 by the template 'for every input the law returns true; each argument reads behind the call as it read before'; 0 by the template 'total and deterministic' (their statements: YtjngpdamkdgkkaaTotals.lean).
  GIVEN WITH THE SEED: the statements are not yours to turn. If you find one false, say at which input.
  Laid BY PROGRAM, IN A SANDBOX (cutbox-rows.mjs): the forced cells as the released guide's own fill.sh prints them over the translation fa73c65d05495dfe… (all of the seat's roots in one cut). By AI agents, Wed Nov 11 2026. No macro, syntax, notation, axiom, sorry.
-/
import Derived.Test.YtjngpdamkdgkkaaChecked
import GoSem.Claim
import GoSem.ClaimJoined
import GoSem.ClaimMapViews
import Derived.JoinedTies
import Derived.KernelRfl
namespace Go.Proofs.Ytjngpdamkdgkkaa
/- THE CELL 'sum', in the pinned program and in every row, IS THE sha256 OF THE DUMP (.gsa) THAT YtjngpdamkdgkkaaProg.lean LOADS. Nothing in Lean hashes anything: it is a label: what it is worth is what the hold of that sum in a sandbox is worth. -/
noncomputable def Try.pinned : Pinned := { name := "ytjngpdamkdgkkaa", sum := "fa73c65d05495dfed4ff4a5ca741936462a5ca0faf0802f96ebf2ab5e43b289c", checked := Try.checked }
namespace Rows
def none {H : Type} : Left H := { results := [], args := [] }

/-- 'cupolalaw05.RelOne': WHATEVER THE INPUT: true; the input reads as it did. -/
def relOneSpec : ChangeSpec := { name := "relOne", fn := fun _ => fun
  | [d1, d2, d3, d4, d5] => { results := [.lit (.bool true)], args := [d1, d2, d3, d4, d5] }
  | _ => none }
def relOneRow : OpenClaim := { program := "ytjngpdamkdgkkaa", sum := "fa73c65d05495dfed4ff4a5ca741936462a5ca0faf0802f96ebf2ab5e43b289c", func := "cupola/cupolalaw05.RelOne", spec := "relOne", apart := false }
def RelOneSaid : Prop := relOneRow.holds Try.pinned (OpenSpec.ofChange relOneSpec)

/-- ITS FALSE NEIGHBOUR: 'it returns false'. Refute it at one input. -/
def relOneWrong : ChangeSpec := { name := "relOne", fn := fun _ => fun
  | [d1, d2, d3, d4, d5] => { results := [.lit (.bool false)], args := [d1, d2, d3, d4, d5] }
  | _ => none }
def RelOneWrongFalsely : Prop := relOneRow.holds Try.pinned (OpenSpec.ofChange relOneWrong)

/-- 'cupolalaw05.RelTwo': WHATEVER THE INPUT: true; the input reads as it did. -/
def relTwoSpec : ChangeSpec := { name := "relTwo", fn := fun _ => fun
  | [d1, d2] => { results := [.lit (.bool true)], args := [d1, d2] }
  | _ => none }
def relTwoRow : OpenClaim := { program := "ytjngpdamkdgkkaa", sum := "fa73c65d05495dfed4ff4a5ca741936462a5ca0faf0802f96ebf2ab5e43b289c", func := "cupola/cupolalaw05.RelTwo", spec := "relTwo", apart := false }
def RelTwoSaid : Prop := relTwoRow.holds Try.pinned (OpenSpec.ofChange relTwoSpec)

/-- ITS FALSE NEIGHBOUR: 'it returns false'. Refute it at one input. -/
def relTwoWrong : ChangeSpec := { name := "relTwo", fn := fun _ => fun
  | [d1, d2] => { results := [.lit (.bool false)], args := [d1, d2] }
  | _ => none }
def RelTwoWrongFalsely : Prop := relTwoRow.holds Try.pinned (OpenSpec.ofChange relTwoWrong)

/-- 'cupolalaw05.RelAlgebra': WHATEVER THE INPUT: true; the input reads as it did. -/
def relAlgebraSpec : ChangeSpec := { name := "relAlgebra", fn := fun _ => fun
  | [d1, d2, d3] => { results := [.lit (.bool true)], args := [d1, d2, d3] }
  | _ => none }
def relAlgebraRow : OpenClaim := { program := "ytjngpdamkdgkkaa", sum := "fa73c65d05495dfed4ff4a5ca741936462a5ca0faf0802f96ebf2ab5e43b289c", func := "cupola/cupolalaw05.RelAlgebra", spec := "relAlgebra", apart := false }
def RelAlgebraSaid : Prop := relAlgebraRow.holds Try.pinned (OpenSpec.ofChange relAlgebraSpec)

/-- ITS FALSE NEIGHBOUR: 'it returns false'. Refute it at one input. -/
def relAlgebraWrong : ChangeSpec := { name := "relAlgebra", fn := fun _ => fun
  | [d1, d2, d3] => { results := [.lit (.bool false)], args := [d1, d2, d3] }
  | _ => none }
def RelAlgebraWrongFalsely : Prop := relAlgebraRow.holds Try.pinned (OpenSpec.ofChange relAlgebraWrong)

/-- 'cupolalaw05.RelClosed': WHATEVER THE INPUT: true; the input reads as it did. -/
def relClosedSpec : ChangeSpec := { name := "relClosed", fn := fun _ => fun
  | [d1, d2] => { results := [.lit (.bool true)], args := [d1, d2] }
  | _ => none }
def relClosedRow : OpenClaim := { program := "ytjngpdamkdgkkaa", sum := "fa73c65d05495dfed4ff4a5ca741936462a5ca0faf0802f96ebf2ab5e43b289c", func := "cupola/cupolalaw05.RelClosed", spec := "relClosed", apart := false }
def RelClosedSaid : Prop := relClosedRow.holds Try.pinned (OpenSpec.ofChange relClosedSpec)

/-- ITS FALSE NEIGHBOUR: 'it returns false'. Refute it at one input. -/
def relClosedWrong : ChangeSpec := { name := "relClosed", fn := fun _ => fun
  | [d1, d2] => { results := [.lit (.bool false)], args := [d1, d2] }
  | _ => none }
def RelClosedWrongFalsely : Prop := relClosedRow.holds Try.pinned (OpenSpec.ofChange relClosedWrong)

/-- 'cupolalaw05.RelPairs': WHATEVER THE INPUT: true; the input reads as it did. -/
def relPairsSpec : ChangeSpec := { name := "relPairs", fn := fun _ => fun
  | [d1, d2, d3] => { results := [.lit (.bool true)], args := [d1, d2, d3] }
  | _ => none }
def relPairsRow : OpenClaim := { program := "ytjngpdamkdgkkaa", sum := "fa73c65d05495dfed4ff4a5ca741936462a5ca0faf0802f96ebf2ab5e43b289c", func := "cupola/cupolalaw05.RelPairs", spec := "relPairs", apart := false }
def RelPairsSaid : Prop := relPairsRow.holds Try.pinned (OpenSpec.ofChange relPairsSpec)

/-- ITS FALSE NEIGHBOUR: 'it returns false'. Refute it at one input. -/
def relPairsWrong : ChangeSpec := { name := "relPairs", fn := fun _ => fun
  | [d1, d2, d3] => { results := [.lit (.bool false)], args := [d1, d2, d3] }
  | _ => none }
def RelPairsWrongFalsely : Prop := relPairsRow.holds Try.pinned (OpenSpec.ofChange relPairsWrong)

/-- 'cupolalaw05.RelOnly': WHATEVER THE INPUT: true; the input reads as it did. -/
def relOnlySpec : ChangeSpec := { name := "relOnly", fn := fun _ => fun
  | [d1, d2, d3, d4, d5] => { results := [.lit (.bool true)], args := [d1, d2, d3, d4, d5] }
  | _ => none }
def relOnlyRow : OpenClaim := { program := "ytjngpdamkdgkkaa", sum := "fa73c65d05495dfed4ff4a5ca741936462a5ca0faf0802f96ebf2ab5e43b289c", func := "cupola/cupolalaw05.RelOnly", spec := "relOnly", apart := false }
def RelOnlySaid : Prop := relOnlyRow.holds Try.pinned (OpenSpec.ofChange relOnlySpec)

/-- ITS FALSE NEIGHBOUR: 'it returns false'. Refute it at one input. -/
def relOnlyWrong : ChangeSpec := { name := "relOnly", fn := fun _ => fun
  | [d1, d2, d3, d4, d5] => { results := [.lit (.bool false)], args := [d1, d2, d3, d4, d5] }
  | _ => none }
def RelOnlyWrongFalsely : Prop := relOnlyRow.holds Try.pinned (OpenSpec.ofChange relOnlyWrong)

/- THE SECOND FORM. 'bulk': how many values and letters a reading holds, each counted each time it is reached (what is shared counts as often as it is met; a slice's spare places count too). A statement '..UptoSaid' is the law's where the arguments, and the package variables that the reading takes, are together of bulk at most 1048576: NARROWER than '..Said'. Prove '..Said' where nothing that the law and all that it calls make is longer than what came in: it says more and counts as full. Else prove '..UptoSaid'. A law counts once. -/
mutual
def uptoBulk {H : Type} : DataW H → Nat
  | .lit (.string bytes) => bytes.length + 1
  | .lit _ => 1
  | .nil => 1
  | .ptr d => uptoBulk d + 1
  | .slice elems spare => uptoBulkAll elems + uptoBulkAll spare + 1
  | .agg parts => uptoBulkAll parts + 1
  | .iface _ d => uptoBulk d + 1
  | .map entries => uptoBulkEntries entries + 1
  | .held _ => 1
def uptoBulkAll {H : Type} : List (DataW H) → Nat
  | [] => 0
  | d :: r => uptoBulk d + uptoBulkAll r
def uptoBulkEntries {H : Type} : List (Lit × DataW H) → Nat
  | [] => 0
  | x :: r => uptoBulkEntry x + uptoBulkEntries r
def uptoBulkEntry {H : Type} : Lit × DataW H → Nat
  | (.string bytes, d) => bytes.length + uptoBulk d + 1
  | (_, d) => uptoBulk d + 1
 end
def uptoSmall : (H : Type) → List (DataW H) → Bool := fun _ ds => decide (uptoBulkAll ds ≤ 1048576)
def OpenSpec.upto (s : _root_.Go.ChangeSpec) : _root_.Go.OpenSpec := { _root_.Go.OpenSpec.ofChange s with cond := some uptoSmall }

/-- 'cupolalaw05.RelOne', WHERE WHAT IT READS IS OF BULK AT MOST 1048576: true; the input reads as it did. -/
def relOneUptoRow : OpenClaim := { program := "ytjngpdamkdgkkaa", sum := "fa73c65d05495dfed4ff4a5ca741936462a5ca0faf0802f96ebf2ab5e43b289c", func := "cupola/cupolalaw05.RelOne", spec := "relOne", apart := false, narrowed := true }
def RelOneUptoSaid : Prop := relOneUptoRow.holds Try.pinned (OpenSpec.upto relOneSpec)

/-- 'cupolalaw05.RelTwo', WHERE WHAT IT READS IS OF BULK AT MOST 1048576: true; the input reads as it did. -/
def relTwoUptoRow : OpenClaim := { program := "ytjngpdamkdgkkaa", sum := "fa73c65d05495dfed4ff4a5ca741936462a5ca0faf0802f96ebf2ab5e43b289c", func := "cupola/cupolalaw05.RelTwo", spec := "relTwo", apart := false, narrowed := true }
def RelTwoUptoSaid : Prop := relTwoUptoRow.holds Try.pinned (OpenSpec.upto relTwoSpec)

/-- 'cupolalaw05.RelAlgebra', WHERE WHAT IT READS IS OF BULK AT MOST 1048576: true; the input reads as it did. -/
def relAlgebraUptoRow : OpenClaim := { program := "ytjngpdamkdgkkaa", sum := "fa73c65d05495dfed4ff4a5ca741936462a5ca0faf0802f96ebf2ab5e43b289c", func := "cupola/cupolalaw05.RelAlgebra", spec := "relAlgebra", apart := false, narrowed := true }
def RelAlgebraUptoSaid : Prop := relAlgebraUptoRow.holds Try.pinned (OpenSpec.upto relAlgebraSpec)

/-- 'cupolalaw05.RelClosed', WHERE WHAT IT READS IS OF BULK AT MOST 1048576: true; the input reads as it did. -/
def relClosedUptoRow : OpenClaim := { program := "ytjngpdamkdgkkaa", sum := "fa73c65d05495dfed4ff4a5ca741936462a5ca0faf0802f96ebf2ab5e43b289c", func := "cupola/cupolalaw05.RelClosed", spec := "relClosed", apart := false, narrowed := true }
def RelClosedUptoSaid : Prop := relClosedUptoRow.holds Try.pinned (OpenSpec.upto relClosedSpec)

/-- 'cupolalaw05.RelPairs', WHERE WHAT IT READS IS OF BULK AT MOST 1048576: true; the input reads as it did. -/
def relPairsUptoRow : OpenClaim := { program := "ytjngpdamkdgkkaa", sum := "fa73c65d05495dfed4ff4a5ca741936462a5ca0faf0802f96ebf2ab5e43b289c", func := "cupola/cupolalaw05.RelPairs", spec := "relPairs", apart := false, narrowed := true }
def RelPairsUptoSaid : Prop := relPairsUptoRow.holds Try.pinned (OpenSpec.upto relPairsSpec)

/-- 'cupolalaw05.RelOnly', WHERE WHAT IT READS IS OF BULK AT MOST 1048576: true; the input reads as it did. -/
def relOnlyUptoRow : OpenClaim := { program := "ytjngpdamkdgkkaa", sum := "fa73c65d05495dfed4ff4a5ca741936462a5ca0faf0802f96ebf2ab5e43b289c", func := "cupola/cupolalaw05.RelOnly", spec := "relOnly", apart := false, narrowed := true }
def RelOnlyUptoSaid : Prop := relOnlyUptoRow.holds Try.pinned (OpenSpec.upto relOnlySpec)

end Rows
end Go.Proofs.Ytjngpdamkdgkkaa
