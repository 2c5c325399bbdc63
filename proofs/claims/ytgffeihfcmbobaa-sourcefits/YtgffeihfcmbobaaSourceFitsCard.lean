/- SourceFits: for every input the law answers true, and each argument reads afterwards as it read before. No condition. -/
import Derived.Test.YtgffeihfcmbobaaSourceFitsW
import Derived.Test.YtgffeihfcmbobaaFrame
import Derived.Test.YtgffeihfcmbobaaRows
import Derived.Test.YtgffeihfcmbobaaEvO
import Derived.ProofKit
namespace Go.Proofs.Ytgffeihfcmbobaa
namespace CardSourceFits
open Go.ChangeShapes Go.WideShapes Go.ChangeAt Go.RowKit

theorem own : ownKnob Try.prog.godebug = none := by kernel_rfl
theorem laidOut : laidOutB Try.prog = true := by kernel_rfl
theorem readable : ([22, 23].all fun t => Try.prog.readableRec t && decide (t < Try.prog.types.size)) = true := by kernel_rfl

set_option maxRecDepth 100000 in
theorem lifted (os : Os) (started : os.Started) (H : Type) (enc : TypeId × Value → H) :
    ReturnsInHanded {} Try.checked os 4 .any (Rows.sourceFitsSpec.pre6 enc Try.prog Try.f4 Rows.sourceFitsRow.domain false) (Rows.sourceFitsSpec.post enc Try.prog Try.f4 false true false false) := by
  refine returnsInHanded_of_change (C := Try.checked) own started (by kernel_rfl) Try.func4
    (ChangeSpec.witness6 (enc := enc) (C := Try.checked) false ⟨#[], #[.slice none 0 0, .slice none 0 0], []⟩ 8 (by kernel_rfl) (by kernel_rfl) (by kernel_rfl) (by kernel_rfl)) ?_
  intro W base args ds gs before hval0 hW hcnd _
  have hval : ∀ (j : Nat) t v, Try.f4.params[j]? = some t → args[j]? = some v → Value.okWide Try.prog W .any base t v := hval0
  have hW' := hW
  obtain ⟨p, q, hA0, hV, rfl, hfz, hnd⟩ := hW
  have hA : DataW.TrodAll enc Try.prog W 0 (fun _ => true) true Try.f4.params.toList args.toList ds p := hA0
  have hP : ∀ t ∈ Try.f4.params.toList, Try.prog.readableRec t = true ∧ t < Try.prog.types.size := by
    rw [Try.params4]
    intro t ht
    have := List.all_eq_true.1 readable t (by simpa using ht)
    simpa using this
  rw [Try.params4] at hA hval
  obtain ⟨v0, vs0, d0_, ds0, p0, q0, hargs, rfl, rfl, h0, r0⟩ := trodAll_cons hA
  obtain ⟨v1, vs1, d1_, ds1, p1, q1, rfl, rfl, rfl, h1, r1⟩ := trodAll_cons r0
  obtain ⟨rfl, rfl, rfl⟩ := trodAll_nil r1
  obtain rfl : args = #[v0, v1] := by cases args; simp_all
  clear hA0 hval0 hcnd
  obtain ⟨q0_, c0_, xs0, rfl, hx0, hz0⟩ := open_evs (hval 0 22 v0 rfl rfl) h0
  obtain ⟨q1_, c1_, xs1, rfl, hx1, hz1⟩ := open_i64w (hval 1 23 v1 rfl rfl) h1
  refine (SourceFits_true q0_ q1_ c0_ c1_ xs0 xs1 W hx0 hx1).mono fun e W' ⟨he, hb⟩ => ?_
  subst he
  exact ⟨_, rfl, law_post (tb := 4) laidOut hP rfl Try.underlying4 rfl (fun ds' h => by
    rw [show Try.f4.params.size = 2 from by rw [Try.params4]; rfl] at h
    match ds', h with
    | [y0, y1], _ => rfl) hW' hb⟩

theorem said : Rows.SourceFitsSaid :=
  OpenClaim.holds_of_wide 4 Try.f4 rfl rfl rfl rfl rfl rfl rfl ⟨rfl, rfl, rfl, rfl, rfl⟩ rfl rfl rfl rfl rfl (by kernel_rfl) Try.func4 (by kernel_rfl)
    (of_decide_eq_true (by kernel_rfl)) (by unfold Func.isWrapper; first | (rw [if_pos (by decide +kernel)]; kernel_rfl) | (rw [if_neg (by decide +kernel)]; exact ⟨rfl, rfl⟩))
    (fun os started H enc _ => lifted os started H enc)
end CardSourceFits
/-- SourceFits, for every input. -/
theorem sourceFits_said : Rows.SourceFitsSaid := CardSourceFits.said
end Go.Proofs.Ytgffeihfcmbobaa
