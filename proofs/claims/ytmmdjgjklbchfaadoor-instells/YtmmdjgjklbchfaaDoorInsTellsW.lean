/- The walk of InsTells: true, at all instructions. -/
import Derived.Test.YtmmdjgjklbchfaaDoorInsShown
import Derived.Test.YtmmdjgjklbchfaaDoorInsRefUses
import Derived.Test.YtmmdjgjklbchfaaDoorInsRefMay
import Derived.Test.YtmmdjgjklbchfaaDoorMix
namespace Go.Proofs.YtmmdjgjklbchfaaDoor
open Go.RowKit
attribute [local go_sem] Ext.cell Ext.frozen

set_option maxHeartbeats 8000000 in
theorem InsTells_true (op d a b l i behind locs : Int) (w : World) (T : Tab w) :
    Calls Tryd.prog 3 #[.agg #[.int .i64 op, .int .i64 d, .int .i64 a, .int .i64 b, .int .i64 l, .int .i64 i], .int .i64 behind, .int .i64 locs] w fun e w' => e = .returned (.bool true) ∧ Below w.heap.size w w' := by
  have hlen := uses_len op a b
  go_enter Tryd.func3, Tryd.ntmps3
  go_wp2_with fail
  refine (shown_any _ (T.alloc _)).mono ?_
  rintro e w1 ⟨rfl, hb⟩
  obtain ⟨hc, hf⟩ := bcell hb
  have B1 : Below w.heap.size w w1 := ((Below.refl _ _).alloc (Nat.le_refl _) _).trans (hb.mono (by simp))
  have hz1 : w.heap.size < w1.heap.size := by have := hb.size; simp at this; omega
  have T1 := T.below B1
  go_wp2
  have c0 : w1.cell? ⟨w.heap.size, 0, none⟩ = some (.int .i64 op) := by simp [hc]
  have c1 : w1.cell? ⟨w.heap.size, 1, none⟩ = some (.int .i64 d) := by simp [hc]
  have c2 : w1.cell? ⟨w.heap.size, 2, none⟩ = some (.int .i64 a) := by simp [hc]
  have c3 : w1.cell? ⟨w.heap.size, 3, none⟩ = some (.int .i64 b) := by simp [hc]
  have c4 : w1.cell? ⟨w.heap.size, 4, none⟩ = some (.int .i64 l) := by simp [hc]
  have c5 : w1.cell? ⟨w.heap.size, 5, none⟩ = some (.int .i64 i) := by simp [hc]
  clear hc hf hb
  have hne : ∀ w, Nonempty (Ext w) := ext_some
  refine wp_region_mix [([0, 1, 2, 3, 5, 6], 4), ([], 7), ([8, 9, 10, 11, 13], 12), ([], 14), ([15, 16, 17, 18, 20], 19), ([], 21), ([], 22), ([23, 24, 25, 27], 26), ([], 28), ([29, 30, 31, 32, 33, 34, 36, 37, 38], 35), ([], 39)] [40, 41, 42] (by kernel_rfl) (by kernel_rfl) (fun _ _ d _ _ h => by cases d <;> exact h) ?_
  dsimp only [List.map, opAt]
  have C1 : Below w1.heap.size w1 w1.drew := Below.drew (Below.refl _ _)
  refine wpMix_stage ?_
  repeat (go_big_quiet_step (fail))
  refine wpQuiet_nil ?_
  go_wp2_with (go_at_call 10; refine (Name_any _ _ (T1.below C1)).mono ?_; rintro e w2 ⟨rfl, hb2⟩)
  have C2 : Below w1.heap.size w1 w2 := Below.thru C1 hb2 (Nat.le_refl _)
  refine ⟨C2, ?_⟩
  refine wpMix_stage ?_
  repeat (go_big_quiet_step (fail))
  refine wpQuiet_nil ?_
  go_wp2_with (go_at_call 11; refine (refName_any _ _).mono ?_; rintro e w3 ⟨rfl, hb3⟩)
  have C3 : Below w1.heap.size w1 w3 := Below.thru C2 hb3 (Nat.le_refl _)
  refine ⟨C3, ?_⟩
  refine wpMix_stage ?_
  repeat (go_big_quiet_step (fail))
  refine wpQuiet_nil ?_
  go_wp2_with (go_at_call 12; refine (Kind_any _ _ _ _ _ _ _ (T1.below C3)).mono ?_; rintro e w4 ⟨rfl, hb4⟩)
  have C4 : Below w1.heap.size w1 w4 := Below.thru C3 hb4 (Nat.le_refl _)
  refine ⟨C4, ?_⟩
  refine wpMix_stage ?_
  repeat (go_big_quiet_step (fail))
  refine wpQuiet_nil ?_
  go_wp2_with (go_at_call 13; refine (refKind_any _ _ _ _ _ _ _).mono ?_; rintro e w5 ⟨rfl, hb5⟩)
  have C5 : Below w1.heap.size w1 w5 := Below.thru C4 hb5 (Nat.le_refl _)
  refine ⟨C5, ?_⟩
  refine wpMix_stage ?_
  repeat (go_big_quiet_step (fail))
  refine wpQuiet_nil ?_
  go_wp2_with (go_at_call 15; refine (Uses_any _ _ _ _ _ _ _ (T1.below C5)).mono ?_; rintro e w6 ⟨u, rfl, ownu, hb6⟩)
  have C6 : Below w1.heap.size w1 w6 := Below.thru C5 hb6 (Nat.le_refl _)
  have Su : Hid (IntSl w6 _ _) := ints_own ownu
  clear ownu
  refine ⟨C6, ?_⟩
  refine wpMix_stage ?_
  repeat (go_big_quiet_step (fail))
  refine wpQuiet_nil ?_
  go_wp2_with (go_at_call 16; refine (refUses_any _ _ _ _ _ _ _).mono ?_; rintro e w7 ⟨v, rfl, ownv, hb7⟩)
  have C7 : Below w1.heap.size w1 w7 := Below.thru C6 hb7 (Nat.le_refl _)
  have Sv : Hid (IntSl w7 _ _) := ints_own ownv
  clear ownv
  have Su' : Hid (IntSl w7 _ _) := IntSl.below Su.out hb7
  refine ⟨C7, ?_⟩
  refine wpMix_stage ?_
  repeat (go_big_quiet_step (fail))
  refine wpQuiet_nil ?_
  go_wp2_with (go_at_call 14; refine (Ints_any u v _ _ _ (by omega) Su'.out Sv.out).mono ?_; rintro e w8 ⟨rfl, nn, rfl⟩)
  have C8 : Below w1.heap.size w1 (w7.drewN nn) := below_drewN _ C7
  refine ⟨C8, ?_⟩
  refine wpMix_stage ?_
  repeat (go_big_quiet_step (fail))
  refine wpQuiet_nil ?_
  go_wp2_with (go_at_call 17; refine (Gives_any _ _ _ _ _ _ _ (T1.below C8)).mono ?_; rintro e w9 ⟨rfl, hb9⟩)
  have C9 : Below w1.heap.size w1 w9 := Below.thru C8 hb9 (Nat.le_refl _)
  refine ⟨C9, ?_⟩
  refine wpMix_stage ?_
  repeat (go_big_quiet_step (fail))
  refine wpQuiet_nil ?_
  go_wp2_with (go_at_call 18; refine (refGives_any _ _ _ _ _ _ _).mono ?_; rintro e w10 ⟨rfl, hb10⟩)
  have C10 : Below w1.heap.size w1 w10 := Below.thru C9 hb10 (Nat.le_refl _)
  refine ⟨C10, ?_⟩
  refine wpMix_stage ?_
  repeat (go_big_quiet_step (fail))
  refine wpQuiet_nil ?_
  go_wp2_with (go_at_call 19; refine (May_any _ _ _ _ _ _ _ _ _ (T1.below C10)).mono ?_; rintro e w11 ⟨rfl, hb11⟩)
  have C11 : Below w1.heap.size w1 w11 := Below.thru C10 hb11 (Nat.le_refl _)
  refine ⟨C11, ?_⟩
  refine wpMix_stage ?_
  repeat (go_big_quiet_step (fail))
  refine wpQuiet_nil ?_
  go_wp2_with (go_at_call 20; refine (refMay_any _ _ _ _ _ _ _ _ _).mono ?_; rintro e w12 ⟨rfl, hb12⟩)
  have C12 : Below w1.heap.size w1 w12 := Below.thru C11 hb12 (Nat.le_refl _)
  refine ⟨C12, ?_⟩
  refine wpMix_last ?_
  repeat (go_big_quiet_step (fail))
  refine wpQuiet_nil ?_
  go_wp2
  go_ret
  exact ⟨rfl, B1.trans (C12.mono B1.size)⟩
end Go.Proofs.YtmmdjgjklbchfaaDoor
