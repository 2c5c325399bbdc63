/- SourceRf: for every input the law answers true, and each argument reads afterwards as it read before. No condition. -/
import Derived.Test.YtgffeihfcmbobaaSourceRfW
import Derived.Test.YtgffeihfcmbobaaFrame
import Derived.Test.YtgffeihfcmbobaaRows
import Derived.Test.YtgffeihfcmbobaaEvO
import Derived.Test.YtgffeihfcmbobaaOrdOpen
import Derived.ProofKit
namespace Go.Proofs.Ytgffeihfcmbobaa
namespace CardSourceRf
open Go.ChangeShapes Go.WideShapes Go.ChangeAt Go.RowKit

theorem own : ownKnob Try.prog.godebug = none := by kernel_rfl
theorem laidOut : laidOutB Try.prog = true := by kernel_rfl
theorem readable : ([22, 23, 51].all fun t => Try.prog.readableRec t && decide (t < Try.prog.types.size)) = true := by kernel_rfl

set_option maxRecDepth 100000 in
theorem lifted (os : Os) (started : os.Started) (H : Type) (enc : TypeId × Value → H) :
    ReturnsInHanded {} Try.checked os 5 .any (Rows.sourceRfSpec.pre6 enc Try.prog Try.f5 Rows.sourceRfRow.domain false) (Rows.sourceRfSpec.post enc Try.prog Try.f5 false true false false) := by
  refine returnsInHanded_of_change (C := Try.checked) own started (by kernel_rfl) Try.func5
    (ChangeSpec.witness6 (enc := enc) (C := Try.checked) false ⟨#[], #[.slice none 0 0, .slice none 0 0, .int .u16 0], []⟩ 8 (by kernel_rfl) (by kernel_rfl) (by kernel_rfl) (by kernel_rfl)) ?_
  intro W base args ds gs before hval0 hW hcnd _
  have hval : ∀ (j : Nat) t v, Try.f5.params[j]? = some t → args[j]? = some v → Value.okWide Try.prog W .any base t v := hval0
  have hW' := hW
  obtain ⟨p, q, hA0, hV, rfl, hfz, hnd⟩ := hW
  have hA : DataW.TrodAll enc Try.prog W 0 (fun _ => true) true Try.f5.params.toList args.toList ds p := hA0
  have hP : ∀ t ∈ Try.f5.params.toList, Try.prog.readableRec t = true ∧ t < Try.prog.types.size := by
    rw [Try.params5]
    intro t ht
    have := List.all_eq_true.1 readable t (by simpa using ht)
    simpa using this
  rw [Try.params5] at hA hval
  obtain ⟨v0, vs0, d0_, ds0, p0, q0, hargs, rfl, rfl, h0, r0⟩ := trodAll_cons hA
  obtain ⟨v1, vs1, d1_, ds1, p1, q1, rfl, rfl, rfl, h1, r1⟩ := trodAll_cons r0
  obtain ⟨v2, vs2, d2_, ds2, p2, q2, rfl, rfl, rfl, h2, r2⟩ := trodAll_cons r1
  obtain ⟨rfl, rfl, rfl⟩ := trodAll_nil r2
  obtain rfl : args = #[v0, v1, v2] := by cases args; simp_all
  clear hA0 hval0 hcnd
  obtain ⟨q0_, c0_, xs0, rfl, hx0, hz0⟩ := open_evs (hval 0 22 v0 rfl rfl) h0
  obtain ⟨q1_, c1_, xs1, rfl, hx1, hz1⟩ := open_i64w (hval 1 23 v1 rfl rfl) h1
  obtain ⟨x2, rfl, rfl, rfl, wx2⟩ := open_int Try.underlying51 (hval 2 51 v2 rfl rfl) h2
  obtain ⟨n2, rfl, hn2⟩ := nat_u16 wx2
  refine (SourceRf_true q0_ q1_ c0_ c1_ xs0 xs1 n2 W hx0 hx1 hn2).mono fun e W' ⟨he, hb⟩ => ?_
  subst he
  exact ⟨_, rfl, law_post (tb := 4) laidOut hP rfl Try.underlying4 rfl (fun ds' h => by
    rw [show Try.f5.params.size = 3 from by rw [Try.params5]; rfl] at h
    match ds', h with
    | [y0, y1, y2], _ => rfl) hW' hb⟩

theorem said : Rows.SourceRfSaid :=
  OpenClaim.holds_of_wide 5 Try.f5 rfl rfl rfl rfl rfl rfl rfl ⟨rfl, rfl, rfl, rfl, rfl⟩ rfl rfl rfl rfl rfl (by kernel_rfl) Try.func5 (by kernel_rfl)
    (of_decide_eq_true (by kernel_rfl)) (by unfold Func.isWrapper; first | (rw [if_pos (by decide +kernel)]; kernel_rfl) | (rw [if_neg (by decide +kernel)]; exact ⟨rfl, rfl⟩))
    (fun os started H enc _ => lifted os started H enc)
end CardSourceRf
/-- SourceRf, for every input. -/
theorem sourceRf_said : Rows.SourceRfSaid := CardSourceRf.said
end Go.Proofs.Ytgffeihfcmbobaa
