/- The contract of shown, at the head of the statements of layer 1: it answers true. -/
import Derived.Test.YtmmdjgjklbchfaaDoorInsMay
import Derived.Test.YtmmdjgjklbchfaaDoorInsUses
import Derived.Test.YtmmdjgjklbchfaaDoorInts
namespace Go.Proofs.YtmmdjgjklbchfaaDoor
open Go.RowKit

set_option maxHeartbeats 1000000 in
theorem shown_any (w : World) (T : Tab w) :
    Calls Tryd.prog 9 #[] w fun e w' => e = .returned (.bool true) ∧ Below w.heap.size w w' := by
  have eu : Hid (usesL 5 2 0 = [2]) := by unfold Hid; decide
  have eg : Hid (givesZ 5 1 = 1) := by unfold Hid; decide
  have em : Hid (mayB 5 1 2 0 0 0 0 1 = true) := by unfold Hid; decide
  have en : nameS 10 = ⟨#[115, 116, 120, 114]⟩ := by rfl
  go_enter Tryd.func9, Tryd.ntmps9
  go_wp2_with fail
  refine (Uses_any _ _ _ _ _ _ _ (T.alloc _)).mono ?_
  rintro e w1 ⟨v, rfl, hown, hb⟩
  rw [eu.out] at hown
  have hs := ints_own hown
  obtain ⟨hc, hf⟩ := bcell hb
  have hz : w.heap.size < w1.heap.size := by have := hb.size; simp at this; omega
  have B1 : Below w.heap.size w w1 := (((Below.refl _ _).alloc (Nat.le_refl _) _).trans (hb.mono (by simp)))
  go_wp2_with fail
  refine (Ints_any v _ [2] [2] _ (by decide) (hs.below ((Below.refl _ _).alloc (Nat.le_refl _) _)) (.inr ⟨_, _, _, rfl, fun i hi => by simp at hi; subst hi; simp⟩)).mono ?_
  rintro e w2 ⟨rfl, nn, rfl⟩
  go_wp2_with fail
  refine (Gives_any _ _ _ _ _ _ _ (T.below (below_drewN _ (B1.alloc (by omega) _)))).mono ?_
  rintro e w3 ⟨rfl, hb3⟩
  rw [eg.out]
  obtain ⟨hc3, hf3⟩ := bcell hb3
  have hz3 : w1.heap.size < w3.heap.size := by have := hb3.size; simp at this; omega
  have hz3' : w.heap.size < w3.heap.size := by omega
  have B3 : Below w.heap.size w w3 := ((below_drewN nn (B1.alloc (by omega) _)).trans (hb3.mono (by simp; omega)))
  go_wp2_with fail
  refine (May_any _ _ _ _ _ _ _ _ _ (T.below B3)).mono ?_
  rintro e w4 ⟨rfl, hb4⟩
  rw [em.out]
  have B4 : Below w.heap.size w w4 := B3.trans (hb4.mono (by omega))
  go_wp2_with fail
  refine (Name_any _ _ (T.below B4)).mono ?_
  rintro e w5 ⟨rfl, hb5⟩
  rw [en]
  have B5 : Below w.heap.size w w5 := B4.trans (hb5.mono B4.size)
  go_wp2
  go_ret
  exact ⟨rfl, B5⟩
end Go.Proofs.YtmmdjgjklbchfaaDoor
