/- SourceTells, walked. Printed by tools/gen/src_tells.py. -/
import Derived.Test.YtgffeihfcmbobaaSrcShown
import Derived.Test.YtgffeihfcmbobaaSrcRefRf
import Derived.Test.YtgffeihfcmbobaaSrcRefAll
namespace Go.Proofs.Ytgffeihfcmbobaa
open Go.RowKit
attribute [local go_sem] Ext.cell Ext.frozen

set_option maxRecDepth 20000 in
set_option maxHeartbeats 16000000 in
theorem SourceTells_true (q0_ q1_ q3_ : Option Addr) (c0_ c1_ c3_ : Nat) (xs0 : List Ev) (xs1 : List Int) (x2 : Int) (xs3 : List Int) (w : World) (hx0 : Sl EvE w (.slice q0_ xs0.length c0_) xs0) (hx1 : Sl IntE w (.slice q1_ xs1.length c1_) xs1) (hx3 : Sl IntE w (.slice q3_ xs3.length c3_) xs3) :
    Calls Try.prog 3 #[.slice q0_ xs0.length c0_, .slice q1_ xs1.length c1_, .int .i64 x2, .slice q3_ xs3.length c3_] w fun e w' => e = .returned (.bool true) ∧ Below w.heap.size w w' := by
  have HS : Hid (Calls _ _ _ _ _) := shown11_any w
  by_cases h24 : 24 < xs0.length
  · have d24 : decide ((24 : Int) < (xs0.length : Int)) = true := decide_eq_true (by omega)
    have e24 : decide (24 < xs0.length) = true := decide_eq_true h24
    go_enter Try.func3, Try.ntmps3
    go_wp2_with (go_at_call 9; refine HS.out.mono ?_; rintro e w1 ⟨rfl, hb1⟩)
    go_ret
    exact ⟨rfl, hb1⟩
  · have d24 : decide ((24 : Int) < (xs0.length : Int)) = false := decide_eq_false (by omega)
    have e24 : decide (24 < xs0.length) = false := decide_eq_false h24
    by_cases h100 : 100 < xs3.length
    · have d100 : decide ((100 : Int) < (xs3.length : Int)) = true := decide_eq_true (by omega)
      have e100 : decide (100 < xs3.length) = true := decide_eq_true h100
      go_enter Try.func3, Try.ntmps3
      go_wp2_with (go_at_call 9; refine HS.out.mono ?_; rintro e w1 ⟨rfl, hb1⟩)
      go_ret
      exact ⟨rfl, hb1⟩
    · have d100 : decide ((100 : Int) < (xs3.length : Int)) = false := decide_eq_false (by omega)
      have e100 : decide (100 < xs3.length) = false := decide_eq_false h100
      have hn : xs0.length ≤ 24 := by omega
      have hn3 : xs3.length ≤ 100 := by omega
      have hMD : Hid _ := fun W => made11_any q0_ xs0.length c0_ W
      have hWN : Hid _ := fun W => want11_any q0_ xs0.length c0_ W
      have HM1 : Hid _ := fun W (hB : Below w.heap.size w W) => May_any (.slice q0_ xs0.length c0_) nilR q0_ q1_ c0_ c1_ xs0 xs1 x2 W rfl (hx0.keep hB) (hx1.keep hB) (by omega)
      have HM2 : Hid _ := fun W (hB : Below w.heap.size w W) => refMay_any (.slice q0_ xs0.length c0_) nilR q0_ q1_ c0_ c1_ xs0 xs1 x2 W rfl (hx0.keep hB) (hx1.keep hB) (by omega)
      have HA1 : Hid _ := fun W (hB : Below w.heap.size w W) => All_any (.slice q0_ xs0.length c0_) nilR q0_ q1_ c0_ c1_ xs0 xs1 W rfl (hx0.keep hB) (hx1.keep hB) (by omega)
      have HA2 : Hid _ := fun W (hB : Below w.heap.size w W) => refAll_any (.slice q0_ xs0.length c0_) nilR q0_ q1_ c0_ c1_ xs0 xs1 W rfl (hx0.keep hB) (hx1.keep hB) (by omega)
      have HF1 : Hid _ := fun W (hB : Below w.heap.size w W) => Fits_any (.slice q0_ xs0.length c0_) nilR q0_ q1_ q3_ c0_ c1_ c3_ xs0 xs1 xs3 W rfl (hx0.keep hB) (hx1.keep hB) (hx3.keep hB) (by omega) (by omega)
      have HF2 : Hid _ := fun W (hB : Below w.heap.size w W) => refFits_any (.slice q0_ xs0.length c0_) nilR q0_ q1_ q3_ c0_ c1_ c3_ xs0 xs1 xs3 W rfl (hx0.keep hB) (hx1.keep hB) (hx3.keep hB) (by omega) (by omega)
      have HR1 : Hid _ := fun W (hB : Below w.heap.size w W) => Rf_any (.slice q0_ xs0.length c0_) nilR q0_ q3_ c0_ c3_ xs0 xs3 W rfl (hx3.keep hB) (by omega) (by omega)
      have HR2 : Hid _ := fun W (hB : Below w.heap.size w W) => refRf_any (.slice q0_ xs0.length c0_) nilR q0_ q3_ c0_ c3_ xs0 xs3 W rfl (hx3.keep hB) (by omega) (by omega)
      have hml : (mayZ xs0 xs1 x2).length ≤ 1000000 := by
        unfold mayZ
        split
        · split
          · split
            · rename_i y _ _; have := mayE_len xs0 xs1 y; omega
            · simp
          · simp
        · simp
      have hsl : (srcZ xs0 xs1).length ≤ 1000000 := Nat.le_trans (srcZ_le xs0 xs1) (by decide)
      have hsm : ∀ x ∈ srcZ xs0 xs1, x.length ≤ 1000000 := fun x hx => by rw [(srcZ_mem hx).1]; omega
      have hrl : (mkR xs0.length (rfF xs0.length xs3)).length = xs0.length := mkR_len _ _
      generalize mayZ xs0 xs1 x2 = MY at *
      generalize srcZ xs0 xs1 = SZ at *
      generalize fitsZ xs0 xs1 xs3 = FZ at *
      generalize mkR xs0.length (rfF xs0.length xs3) = RL at *
      have HRL : Hid _ := hrl
      have HSM : Hid _ := hsm
      clear hrl hsm
      have F1 := trivial
      have hne : ∀ w, Nonempty (Ext w) := ext_some
      go_enter Try.func3, Try.ntmps3
      go_wp2_with (first
        | (go_at_call 9; clear F1; refine HS.out.mono ?_; rintro e w1 ⟨rfl, hb1⟩; have F2 := trivial)
        | (go_at_call 10; clear F2; refine (hMD.out w1).mono ?_; rintro e w2 ⟨rfl, hb2⟩; have B2 := Below.thru hb1 hb2 (Nat.le_refl _); have F3 := trivial)
        | (clear F3; refine wpList_toldX (w := w2) (T := 30) (by kernel_rfl) (by rfl) (.tmp 10) (.tmp 23) (by rfl) #[.slice q0_ xs0.length c0_, nilR 1, nilR 2, nilR 3, nilR 4, nilR 5, nilR 6] (by rfl) (by simp [Value.oneCell', nilR]) (by rfl) (by rfl) ?_; intro w3 k3 b3; simp only [Act.put]; have B3 := Below.thru B2 b3 (Nat.le_refl _); have F4 := trivial)
        | (go_at_call 11; clear F4; refine (hWN.out w3).mono ?_; rintro e w4 ⟨rfl, hb4⟩; have B4 := Below.thru B3 hb4 (Nat.le_refl _); have k34 := k3.keep hb4; have F5 := trivial)
        | (clear F5; refine wpList_toldX (w := w4) (T := 33) (by kernel_rfl) (by rfl) (.tmp 11) (.tmp 25) (by rfl) #[.slice q0_ xs0.length c0_, nilR 1, nilR 2, nilR 3, nilR 4, nilR 5, nilR 6] (by rfl) (by simp [Value.oneCell', nilR]) (by rfl) (by rfl) ?_; intro w5 k5 b5; simp only [Act.put]; have B5 := Below.thru B4 b5 (Nat.le_refl _); have k35 := k34.keep b5; obtain ⟨y0, y1, y2, y3, y4, y5, y6⟩ := ex_cells k35; obtain ⟨z0, z1, z2, z3, z4, z5, z6⟩ := ex_cells k5; have ly := k35.lt; have lz := k5.lt; have F6 := trivial))
      refine wp_region_mix [([0, 1, 2, 3, 4, 6, 7, 8], 5), ([], 9), ([], 10), ([11, 12, 13, 14, 16, 17], 15), ([], 18), ([], 19), ([20, 21, 22, 23, 24, 26, 27, 28], 25), ([], 29), ([30, 31, 32, 33, 34, 36, 37], 35), ([], 38), ([], 39)] [40, 41] (by kernel_rfl) (by kernel_rfl) (fun _ _ d _ _ h => by cases d <;> exact h) ?_
      dsimp only [List.map, opAt]
      have C0 : Below w5.heap.size w5 w5.drew := Below.drew (Below.refl _ _)
      refine wpMix_stage ?_
      repeat (go_big_quiet_step (fail))
      refine wpQuiet_nil ?_
      go_wp2_with (go_at_call 13; refine (HM1.out _ (Below.thru B5 C0 (Nat.le_refl _))).mono ?_; rintro e v1 ⟨u1, rfl, V1, b1⟩)
      obtain ⟨p1, c1, rfl⟩ := V1.len
      have C1 := Below.thru C0 b1 (Nat.le_refl _)
      refine ⟨C1, ?_⟩
      refine wpMix_stage ?_
      repeat (go_big_quiet_step (fail))
      refine wpQuiet_nil ?_
      go_wp2_with (go_at_call 14; refine (HM2.out _ (Below.thru B5 C1 (Nat.le_refl _))).mono ?_; rintro e v2 ⟨u2, rfl, V2, b2⟩)
      obtain ⟨p2, c2, rfl⟩ := V2.len
      have C2 := Below.thru C1 b2 (Nat.le_refl _)
      refine ⟨C2, ?_⟩
      refine wpMix_stage ?_
      repeat (go_big_quiet_step (fail))
      refine wpQuiet_nil ?_
      have CI := Ints_int p1 p2 c1 c2 MY MY v2 (V1.keep b2) V2 hml
      rw [decide_eq_true rfl] at CI
      go_wp2_with (go_at_call 12; refine CI.mono ?_; clear CI; rintro e v3 ⟨rfl, b3⟩)
      have C3 := Below.thru C2 b3 (Nat.le_refl _)
      refine ⟨C3, ?_⟩
      refine wpMix_stage ?_
      repeat (go_big_quiet_step (fail))
      refine wpQuiet_nil ?_
      go_wp2_with (go_at_call 16; refine (HA1.out _ (Below.thru B5 C3 (Nat.le_refl _))).mono ?_; rintro e v4 ⟨u4, rfl, V4, b4⟩)
      obtain ⟨p4, c4, rfl⟩ := V4.len
      have C4 := Below.thru C3 b4 (Nat.le_refl _)
      refine ⟨C4, ?_⟩
      refine wpMix_stage ?_
      repeat (go_big_quiet_step (fail))
      refine wpQuiet_nil ?_
      go_wp2_with (go_at_call 17; refine (HA2.out _ (Below.thru B5 C4 (Nat.le_refl _))).mono ?_; rintro e v5 ⟨u5, rfl, V5, b5_⟩)
      obtain ⟨p5, c5, rfl⟩ := V5.len
      have C5 := Below.thru C4 b5_ (Nat.le_refl _)
      refine ⟨C5, ?_⟩
      refine wpMix_stage ?_
      repeat (go_big_quiet_step (fail))
      refine wpQuiet_nil ?_
      have CI := Lists_int p4 p5 c4 c5 SZ SZ v5 (V4.keep b5_) V5 hsl HSM.out
      rw [decide_eq_true rfl] at CI
      go_wp2_with (go_at_call 15; refine CI.mono ?_; clear CI; rintro e v6 ⟨rfl, b6⟩)
      have C6 := Below.thru C5 b6 (Nat.le_refl _)
      refine ⟨C6, ?_⟩
      refine wpMix_stage ?_
      repeat (go_big_quiet_step (fail))
      refine wpQuiet_nil ?_
      go_wp2_with (go_at_call 18; refine (HF1.out _ (Below.thru B5 C6 (Nat.le_refl _))).mono ?_; rintro e v7 ⟨rfl, b7⟩)
      have C7 := Below.thru C6 b7 (Nat.le_refl _)
      refine ⟨C7, ?_⟩
      refine wpMix_stage ?_
      repeat (go_big_quiet_step (fail))
      refine wpQuiet_nil ?_
      go_wp2_with (go_at_call 19; refine (HF2.out _ (Below.thru B5 C7 (Nat.le_refl _))).mono ?_; rintro e v8 ⟨rfl, b8⟩)
      have C8 := Below.thru C7 b8 (Nat.le_refl _)
      refine ⟨C8, ?_⟩
      refine wpMix_stage ?_
      repeat (go_big_quiet_step (fail))
      refine wpQuiet_nil ?_
      go_wp2_with (go_at_call 21; refine (HR1.out _ (Below.thru B5 C8 (Nat.le_refl _))).mono ?_; rintro e v9 ⟨p9, c9, rfl, V9, b9⟩)
      have C9 := Below.thru C8 b9 (Nat.le_refl _)
      refine ⟨C9, ?_⟩
      refine wpMix_stage ?_
      repeat (go_big_quiet_step (fail))
      refine wpQuiet_nil ?_
      go_wp2_with (go_at_call 22; refine (HR2.out _ (Below.thru B5 C9 (Nat.le_refl _))).mono ?_; rintro e v10 ⟨p10, c10, rfl, V10, b10⟩)
      have C10 := Below.thru C9 b10 (Nat.le_refl _)
      refine ⟨C10, ?_⟩
      refine wpMix_stage ?_
      repeat (go_big_quiet_step (fail))
      refine wpQuiet_nil ?_
      have CI := rSame_t p9 p10 c9 c10 RL RL v10 (V9.keep b10) V10 rfl
      go_wp2_with (go_at_call 20; refine CI.mono ?_; clear CI; rintro e v11 ⟨rfl, b11⟩)
      have C11 := Below.thru C10 b11 (Nat.le_refl _)
      refine ⟨C11, ?_⟩
      refine wpMix_last ?_
      repeat (go_big_quiet_step (fail))
      refine wpQuiet_nil ?_
      go_wp2
      go_ret
      exact ⟨rfl, Below.thru B5 C11 (Nat.le_refl _)⟩
end Go.Proofs.Ytgffeihfcmbobaa
