/- RelOne, walked. -/
import Derived.Test.YtjngpdamkdgkkaaRelShown
namespace Go.Proofs.Ytjngpdamkdgkkaa
open Go.RowKit

attribute [local go_sem] Ext.cell Ext.frozen
set_option maxHeartbeats 4000000 in
theorem RelOne_true (pa : Option Addr) (ca : Nat) (xs : List Nat) (i k : Int) (s t : Nat) (w : World) (ha : Sl U32E w (.slice pa xs.length ca) xs) (hs : s < 4294967296) (ht : t < 4294967296) :
    Calls Try.prog 3 #[.slice pa xs.length ca, .int .i64 i, .int .i64 k, .int .u32 (s : Int), .int .u32 (t : Int)] w fun e w' => e = .returned (.bool true) ∧ Below w.heap.size w w' := by
  obtain ⟨i0, j1, j2, j3, j4⟩ := get_info info_u32
  have J1 : Hid _ := j1
  have J2 : Hid _ := j2
  have J3 : Hid _ := j3
  have J4 : Hid _ := j4
  clear j1 j2 j3 j4
  obtain ⟨b1, hb1⟩ : ∃ b, hasI xs i k = b := ⟨_, rfl⟩
  obtain ⟨b2, hb2⟩ : ∃ b, acyL xs = b := ⟨_, rfl⟩
  have HB1 : Hid _ := hb1
  have HB2 : Hid _ := hb2
  have HLEN : Hid ((pairsL xs).length ≤ 100000) := Nat.le_trans (pairsL_len xs) (by decide)
  clear hb1 hb2
  by_cases h1 : (100 : Int) < (xs.length : Int)
  · skip
    go_enter Try.func3, Try.ntmps3
    have F0 := trivial
    go_wp2_with (first
      | (go_at_call 9; clear F0; have C := shown_any w; refine C.mono ?_; clear C; rintro e w1 ⟨rfl, hb1⟩; have B1 := hb1; have F1 := trivial))
    go_ret
    exact ⟨rfl, B1⟩
  · have h100 : xs.length ≤ 100 := by omega
    go_enter Try.func3, Try.ntmps3
    have F0 := trivial
    go_wp2_with (first
      | (go_at_call 9; clear F0; have C := shown_any w; refine C.mono ?_; clear C; rintro e w1 ⟨rfl, hb1⟩; have B1 := hb1; have F1 := trivial)
      | (at_builtin; clear F1; have hA1 := (Below.refl w1.heap.size w1).alloc (Nat.le_refl _) (.cells #[] 23); have BA := Below.thru B1 hA1 (Nat.le_refl _); refine wpList_app (R := U32E) (A := fun _ => False) (xs := []) (ys := xs) (by rfl) (.tmp 22) (.tmp 23) 22 23 i0 _ 4 (by rfl) Try.underlying22 J1.out J2.out J3.out J4.out (by rfl) w1.heap.size (.slice (some ⟨w1.heap.size, 0, none⟩) 0 0) (.slice pa xs.length ca) (by rfl) (by rfl) Own.empty (Sl.keep ha BA) (fun _ _ _ h => h) (by simp only [List.length_nil]; omega) (by decide) (by simp) ?_; intro p2 c2 w2 hO2 hg2 _; simp only [List.nil_append] at hO2 ⊢; have h2 := hO2.sl.any; have B2 := BA.grown hg2 BA.size (fun q hq => by have := (Own.empty (α := Nat) (A := fun _ => False) (R := U32E) (w := w1) (e := 23)).lt q hq; have := B1.size; omega); have F2 := trivial)
      | (go_at_call 10; clear F2; have C := Has_any _ _ _ i k w2 h2; rw [HB1.out] at C; refine C.mono ?_; clear C; rintro e w3 ⟨rfl, hb3⟩; have B3 := Below.thru B2 hb3 (Nat.le_refl _); have F3 := trivial)
      | (go_at_call 11; clear F3; have C := refHas_any _ _ _ i k w3 (Sl.keep ha B3); rw [HB1.out] at C; refine C.mono ?_; clear C; rintro e w4 ⟨rfl, hb4⟩; have B4 := Below.thru B3 hb4 (Nat.le_refl _); have F4 := trivial)
      | (go_at_call 12; clear F4; have C := Acyclic_l _ _ _ w4 ((h2.keep hb3).keep hb4); rw [HB2.out] at C; refine C.mono ?_; clear C; rintro e w5 ⟨rfl, hb5⟩; have B5 := Below.thru B4 hb5 (Nat.le_refl _); have F5 := trivial)
      | (go_at_call 13; clear F5; have C := rAcyclic_l _ _ _ w5 (Sl.keep ha B5); rw [HB2.out] at C; refine C.mono ?_; clear C; rintro e w6 ⟨rfl, hb6⟩; have B6 := Below.thru B5 hb6 (Nat.le_refl _); have F6 := trivial)
      | (go_at_call 15; clear F6; have C := Pairs_l _ _ _ w6 ((((h2.keep hb3).keep hb4).keep hb5).keep hb6); refine C.mono ?_; clear C; rintro e w7 ⟨p7, c7, rfl, h7, hb7⟩; have B7 := Below.thru B6 hb7 (Nat.le_refl _); have F7 := trivial)
      | (go_at_call 16; clear F7; have C := rPairs_l _ _ _ w7 (Sl.keep ha B7); refine C.mono ?_; clear C; rintro e w8 ⟨p8, c8, rfl, h8, hb8⟩; have B8 := Below.thru B7 hb8 (Nat.le_refl _); have F8 := trivial)
      | (go_at_call 14; clear F8; have C := pairs_any _ _ _ _ _ w8 (h7.keep hb8) h8 HLEN.out; refine C.mono ?_; clear C; rintro e w9 ⟨rfl, hb9⟩; have B9 := Below.thru B8 hb9 (Nat.le_refl _); have F9 := trivial)
      | (go_at_call 18; clear F9; have C := Put_l _ _ _ w9 (((((((h2.keep hb3).keep hb4).keep hb5).keep hb6).keep hb7).keep hb8).keep hb9) i k; refine C.mono ?_; clear C; rintro e w10 ⟨p10, c10, rfl, h10, hb10⟩; have B10 := Below.thru B9 hb10 (Nat.le_refl _); have F10 := trivial)
      | (go_at_call 19; clear F10; have C := rPut_l _ _ _ w10 (Sl.keep ha B10) i k; refine C.mono ?_; clear C; rintro e w11 ⟨p11, c11, rfl, h11, hb11⟩; have B11 := Below.thru B10 hb11 (Nat.le_refl _); have F11 := trivial)
      | (go_at_call 17; clear F11; have C := rSame_t _ _ _ _ _ _ w11 (h10.keep hb11) h11 rfl; refine C.mono ?_; clear C; rintro e w12 ⟨rfl, hb12⟩; have B12 := Below.thru B11 hb12 (Nat.le_refl _); have F12 := trivial)
      | (go_at_call 20; clear F12; have C := Inv_l _ _ _ w12 ((((((((((h2.keep hb3).keep hb4).keep hb5).keep hb6).keep hb7).keep hb8).keep hb9).keep hb10).keep hb11).keep hb12); refine C.mono ?_; clear C; rintro e w13 ⟨p13, c13, rfl, h13, hb13⟩; have B13 := Below.thru B12 hb13 (Nat.le_refl _); have F13 := trivial)
      | (go_at_call 21; clear F13; have C := rInv_l _ _ _ w13 (Sl.keep ha B13); refine C.mono ?_; clear C; rintro e w14 ⟨p14, c14, rfl, h14, hb14⟩; have B14 := Below.thru B13 hb14 (Nat.le_refl _); have F14 := trivial)
      | (go_at_call 17; clear F14; have C := rSame_t _ _ _ _ _ _ w14 (h13.keep hb14) h14 rfl; refine C.mono ?_; clear C; rintro e w15 ⟨rfl, hb15⟩; have B15 := Below.thru B14 hb15 (Nat.le_refl _); have F15 := trivial)
      | (go_at_call 22; clear F15; have C := Plus_l _ _ _ w15 (((((((((((((h2.keep hb3).keep hb4).keep hb5).keep hb6).keep hb7).keep hb8).keep hb9).keep hb10).keep hb11).keep hb12).keep hb13).keep hb14).keep hb15); refine C.mono ?_; clear C; rintro e w16 ⟨p16, c16, rfl, h16, hb16⟩; have B16 := Below.thru B15 hb16 (Nat.le_refl _); have F16 := trivial)
      | (go_at_call 23; clear F16; have C := rPlus_l _ _ _ w16 (Sl.keep ha B16); refine C.mono ?_; clear C; rintro e w17 ⟨p17, c17, rfl, h17, hb17⟩; have B17 := Below.thru B16 hb17 (Nat.le_refl _); have F17 := trivial)
      | (go_at_call 17; clear F17; have C := rSame_t _ _ _ _ _ _ w17 (h16.keep hb17) h17 rfl; refine C.mono ?_; clear C; rintro e w18 ⟨rfl, hb18⟩; have B18 := Below.thru B17 hb18 (Nat.le_refl _); have F18 := trivial)
      | (go_at_call 24; clear F18; have C := Only_l _ _ _ w18 ((((((((((((((((h2.keep hb3).keep hb4).keep hb5).keep hb6).keep hb7).keep hb8).keep hb9).keep hb10).keep hb11).keep hb12).keep hb13).keep hb14).keep hb15).keep hb16).keep hb17).keep hb18) s t hs ht; refine C.mono ?_; clear C; rintro e w19 ⟨p19, c19, rfl, h19, hb19⟩; have B19 := Below.thru B18 hb19 (Nat.le_refl _); have F19 := trivial)
      | (go_at_call 25; clear F19; have C := rOnly_l _ _ _ w19 (Sl.keep ha B19) s t hs ht; refine C.mono ?_; clear C; rintro e w20 ⟨p20, c20, rfl, h20, hb20⟩; have B20 := Below.thru B19 hb20 (Nat.le_refl _); have F20 := trivial)
      | (go_at_call 17; clear F20; have C := rSame_t _ _ _ _ _ _ w20 (h19.keep hb20) h20 rfl; refine C.mono ?_; clear C; rintro e w21 ⟨rfl, hb21⟩; have B21 := Below.thru B20 hb21 (Nat.le_refl _); have F21 := trivial)
      | (go_at_call 26; clear F21; have C := Cross_l w21 i s t hs ht; refine C.mono ?_; clear C; rintro e w22 ⟨p22, c22, rfl, h22, hb22⟩; have B22 := Below.thru B21 hb22 (Nat.le_refl _); have F22 := trivial)
      | (go_at_call 27; clear F22; have C := rCross_l w22 i s t hs ht; refine C.mono ?_; clear C; rintro e w23 ⟨p23, c23, rfl, h23, hb23⟩; have B23 := Below.thru B22 hb23 (Nat.le_refl _); have F23 := trivial)
      | (go_at_call 17; clear F23; have C := rSame_t _ _ _ _ _ _ w23 (h22.keep hb23) h23 rfl; refine C.mono ?_; clear C; rintro e w24 ⟨rfl, hb24⟩; have B24 := Below.thru B23 hb24 (Nat.le_refl _); have F24 := trivial))
    have hX := ((((((((((((((((((((((h2.keep hb3).keep hb4).keep hb5).keep hb6).keep hb7).keep hb8).keep hb9).keep hb10).keep hb11).keep hb12).keep hb13).keep hb14).keep hb15).keep hb16).keep hb17).keep hb18).keep hb19).keep hb20).keep hb21).keep hb22).keep hb23).keep hb24)
    have hA := Sl.keep ha B24
    go_loopw [16] (fun i wr => ∃ k : Nat, k ≤ xs.length ∧ i = .int .i64 k ∧ Below w24.heap.size w24 wr) (fun i _ => xs.length - (intOf i).toNat)
    case atStart => exact ⟨0, Nat.zero_le _, rfl, Below.refl _ _⟩
    case round =>
      obtain ⟨j, hj, rfl, hBr⟩ := hrel
      by_cases hlt : j < xs.length
      · have hlt' : (j : Int) < (xs.length : Int) := by omega
        obtain ⟨_, xb, xo, rfl, hc1⟩ := (u32_at (hX.keep hBr)).2 j hlt
        obtain ⟨_, ab, ao, rfl, hc2⟩ := (u32_at (hA.keep hBr)).2 j hlt
        generalize xs[j] = x at *
        have hz1 := cell_lt hc1
        have hz2 := cell_lt hc2
        have hne : ∀ w, Nonempty (Ext w) := ext_some
        go_wp2
        refine wp_region_ext (by kernel_rfl) (by kernel_rfl) ?_
        repeat (go_big_quiet_step (fail))
        refine wpQuiet_nil ?_
        rintro _ ⟨rr, rfl⟩
        go_wp2
        go_roundw
        case rel => exact ⟨j + 1, by omega, by go_num, Below.thru hBr rr.ok (Nat.le_refl _)⟩
        case measure => simp [intOf]; omega
      · have hlt' : ¬ (j : Int) < (xs.length : Int) := by omega
        go_wp2
        go_ret
        exact ⟨rfl, Below.thru B24 hBr (Nat.le_refl _)⟩
end Go.Proofs.Ytjngpdamkdgkkaa
