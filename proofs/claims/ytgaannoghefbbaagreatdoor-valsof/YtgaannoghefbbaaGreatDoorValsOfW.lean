/- ValsOf, walked: it answers true. -/
import Derived.Test.YtgaannoghefbbaaGreatDoorValsShown
import Derived.Test.YtgaannoghefbbaaGreatDoorValsFacts
import Derived.Test.YtgaannoghefbbaaGreatDoorValsRefOf
namespace Go.Proofs.YtgaannoghefbbaaGreatDoor
open Go.RowKit
attribute [local go_sem] Ext.cell Ext.frozen

set_option maxRecDepth 20000 in
set_option maxHeartbeats 8000000 in
theorem ValsOf_true (pi pt : Option Addr) (ci ct : Nat) (xs : List Int) (ts : List (List Ins)) (w : World) (T : FEnv w) (hi : Sl IntE w (.slice pi xs.length ci) xs) (ht : Sl ThrE w (.slice pt ts.length ct) ts) (hz : ∀ x ∈ xs, InZ x) :
    Calls Tryz.prog 4 #[.agg #[.slice pi xs.length ci, .slice pt ts.length ct]] w fun e w' => e = .returned (.bool true) ∧ Below w.heap.size w w' := by
  have hb1 := below_new w (.cells #[.slice pi xs.length ci, .slice pt ts.length ct] 50)
  have k1 : Blk (w.alloc (.cells #[.slice pi xs.length ci, .slice pt ts.length ct] 50)) w.heap.size #[.slice pi xs.length ci, .slice pt ts.length ct] 50 := Blk.new
  have hF := fun W (hB : Below w.heap.size w W) => Few_any pi pt ci ct xs ts W (ht.keep hB)
  have HF : Hid _ := hF
  clear hF
  have F1 := trivial
  cases hfew : fewB xs ts
  · have HW : Hid _ := hfew
    clear hfew
    go_enter Tryz.func4, Tryz.ntmps4
    go_wp2_with (first
      | (go_at_call 5; clear F1; refine (shown9_any _ (T.below hb1)).mono ?_; rintro e w1 ⟨rfl, hb2⟩; have B1 := Below.thru hb1 hb2 (Nat.le_refl _); have kk := k1.keep hb2; have x0 : w1.cell? ⟨w.heap.size, 0, none⟩ = some (.slice pi xs.length ci) := kk.cell 0; have x1 : w1.cell? ⟨w.heap.size, 1, none⟩ = some (.slice pt ts.length ct) := kk.cell 1; have lx := cell_lt x0; have F2 := trivial)
      | (go_at_call 13; clear F2; refine (HF.out _ B1).mono ?_; rintro e w2 ⟨rfl, hb3⟩; rw [HW.out]; have B2 := Below.thru B1 hb3 (Nat.le_refl _)))
    go_ret
    exact ⟨rfl, B2⟩
  · obtain ⟨hS, -, -, -⟩ := few_size hfew
    have HW : Hid _ := hfew
    clear hfew
    have hA := fun W (hB : Below w.heap.size w W) => Of_any pi pt ci ct xs ts W (T.below hB) (hi.keep hB) (ht.keep hB) (by omega) hz
    have hR := fun W (hB : Below w.heap.size w W) => refOf_any pi pt ci ct xs ts W (hi.keep hB) (ht.keep hB) (by omega)
    have hz8 : (ofZ xs ts).1.length ≤ 8 := ofZ_len
    generalize ofZ xs ts = z at *
    have HA : Hid _ := hA
    have HR : Hid _ := hR
    clear hA hR
    go_enter Tryz.func4, Tryz.ntmps4
    go_wp2_with (first
      | (go_at_call 5; clear F1; refine (shown9_any _ (T.below hb1)).mono ?_; rintro e w1 ⟨rfl, hb2⟩; have B1 := Below.thru hb1 hb2 (Nat.le_refl _); have kk := k1.keep hb2; have x0 : w1.cell? ⟨w.heap.size, 0, none⟩ = some (.slice pi xs.length ci) := kk.cell 0; have x1 : w1.cell? ⟨w.heap.size, 1, none⟩ = some (.slice pt ts.length ct) := kk.cell 1; have lx := cell_lt x0; have F2 := trivial)
      | (go_at_call 13; clear F2; refine (HF.out _ B1).mono ?_; rintro e w2 ⟨rfl, hb3⟩; rw [HW.out]; have B2 := Below.thru B1 hb3 (Nat.le_refl _); replace x0 := cell_keep x0 hb3; replace x1 := cell_keep x1 hb3; replace lx := cell_lt x0; have F3 := trivial)
      | (go_at_call 14; clear F3; refine (HA.out _ B2).mono ?_; rintro e w3 ⟨u3, rfl, hU3, hb4⟩; obtain ⟨p3, c3, rfl⟩ := hU3.len; have B3 := Below.thru B2 hb4 (Nat.le_refl _); replace x0 := cell_keep x0 hb4; replace x1 := cell_keep x1 hb4; replace lx := cell_lt x0; have F4 := trivial)
      | (go_at_call 15; clear F4; refine (HR.out _ B3).mono ?_; rintro e w4 ⟨u4, rfl, hU4, hb5⟩; obtain ⟨p4, c4, rfl⟩ := hU4.len; have B4 := Below.thru B3 hb5 (Nat.le_refl _); have F5 := trivial)
      | (go_at_call 10; clear F5; refine (Nums_any p3 p4 c3 c4 z.1 z.1 _ (hU3.keep hb5) hU4 (by omega)).mono ?_; rintro e w7 ⟨rfl, nd, rfl⟩))
    go_ret
    exact ⟨rfl, below_drewN nd B4⟩
end Go.Proofs.YtgaannoghefbbaaGreatDoor
