/- RelAlgebra, walked. -/
import Derived.Test.YtjngpdamkdgkkaaRelShown
namespace Go.Proofs.Ytjngpdamkdgkkaa
open Go.RowKit

set_option maxHeartbeats 4000000 in
theorem RelAlgebra_true (pa pb pc : Option Addr) (ca cb cc : Nat) (xs ys zs : List Nat) (w : World) (ha : Sl U32E w (.slice pa xs.length ca) xs) (hb : Sl U32E w (.slice pb ys.length cb) ys) (hc : Sl U32E w (.slice pc zs.length cc) zs) :
    Calls Try.prog 5 #[.slice pa xs.length ca, .slice pb ys.length cb, .slice pc zs.length cc] w fun e w' => e = .returned (.bool true) ∧ Below w.heap.size w w' := by
  by_cases h32 : xs.length ≤ 32
  · have h32' : ¬ (32 : Int) < (xs.length : Int) := by omega
    by_cases hl : ys.length = xs.length ∧ zs.length = xs.length
    · obtain ⟨hl1, hl2⟩ := hl
      have e1 : szR ys = szR xs := by unfold szR; rw [hl1]
      have e2 : szR zs = szR xs := by unfold szR; rw [hl2]
      have H1 : Hid (cleanR (invL (invL xs)) = cleanR xs) := same_of (by rw [inv_sz, inv_sz]) (by rw [inv_has, inv_has]; rfl)
      have H2 : Hid (cleanR (invL (seqL xs ys)) = cleanR (seqL (invL ys) (invL xs))) := by
        have e : szR (invL ys) = szR (invL xs) := by rw [inv_sz, inv_sz, e1]
        refine same_of (by rw [inv_sz, seq_sz e1.symm, seq_sz e, inv_sz, e1]) ?_
        rw [inv_has, seq_has e1.symm, seq_has e, inv_has, inv_has, inv_sz, e1]
        funext i k
        exact (seq_inv _ _ _ i k).symm
      have H3 : Hid (cleanR (seqL (seqL xs ys) zs) = cleanR (seqL xs (seqL ys zs))) := by
        have e : szR (seqL xs ys) = szR zs := by rw [seq_sz e1.symm, e2]
        have e' : szR xs = szR (seqL ys zs) := by rw [seq_sz (e1.trans e2.symm), e1]
        refine same_of (by rw [seq_sz e, seq_sz e', seq_sz e1.symm]) ?_
        rw [seq_has e, seq_has e', seq_has e1.symm, seq_has (e1.trans e2.symm), seq_sz e1.symm, e1]
        funext i k
        exact seq_assoc _ _ _ _ i k
      have H4 : Hid (cleanR (seqL (orL xs ys) zs) = cleanR (orL (seqL xs zs) (seqL ys zs))) := by
        have e : szR (orL xs ys) = szR zs := by rw [or_sz e1.symm, e2]
        have e' : szR (seqL xs zs) = szR (seqL ys zs) := by rw [seq_sz e2.symm, seq_sz (e1.trans e2.symm), e1]
        refine same_of (by rw [seq_sz e, or_sz e', or_sz e1.symm, seq_sz e2.symm]) ?_
        rw [seq_has e, or_has e', or_has e1.symm, or_sz e1.symm, seq_has e2.symm, seq_has (e1.trans e2.symm), e1]
        funext i k
        exact seq_or _ _ _ _ i k
      have H5 : Hid (cleanR (andL (orL xs ys) xs) = cleanR xs) := by
        have e : szR (orL xs ys) = szR xs := or_sz e1.symm
        refine same_of (by rw [and_sz e, e]) ?_
        rw [and_has e, or_has e1.symm]
        funext i k
        unfold andF orF
        cases hasR xs i k <;> simp
      have H6 : Hid (cleanR (orL xs xs) = cleanR xs) := by
        refine same_of (or_sz rfl) ?_
        rw [or_has rfl]
        funext i k
        unfold orF
        cases hasR xs i k <;> simp
      have hlx : ((orL xs ys).length : Int) = (xs.length : Int) := by rw [or_len e1.symm h32]
      have hl1' : (ys.length : Int) = (xs.length : Int) := by omega
      have hl2' : (zs.length : Int) = (xs.length : Int) := by omega
      clear e1 e2 hl1 hl2
      go_enter Try.func5, Try.ntmps5
      have F0 := trivial
      go_wp2_with (first
        | (go_at_call 9; clear F0; have C := shown_any w; refine C.mono ?_; clear C; rintro e w1 ⟨rfl, hb1⟩; have B1 := hb1; have F1 := trivial)
        | (go_at_call 28; clear F1; have C := Or_l _ _ _ _ _ _ w1 (Sl.keep ha B1) (Sl.keep hb B1); refine C.mono ?_; clear C; rintro e w2 ⟨p2, c2, rfl, h2, hb2⟩; have B2 := Below.thru B1 hb2 (Nat.le_refl _); have F2 := trivial)
        | (go_at_call 32; clear F2; have C := Seq_l _ _ _ _ _ _ w2 (Sl.keep ha B2) (Sl.keep hb B2); refine C.mono ?_; clear C; rintro e w3 ⟨p3, c3, rfl, h3, hb3⟩; have B3 := Below.thru B2 hb3 (Nat.le_refl _); have F3 := trivial)
        | (go_at_call 32; clear F3; have C := Seq_l _ _ _ _ _ _ w3 h3 (Sl.keep hc B3); refine C.mono ?_; clear C; rintro e w4 ⟨p4, c4, rfl, h4, hb4⟩; have B4 := Below.thru B3 hb4 (Nat.le_refl _); have F4 := trivial)
        | (go_at_call 20; clear F4; have C := Inv_l _ _ _ w4 (Sl.keep ha B4); refine C.mono ?_; clear C; rintro e w5 ⟨p5, c5, rfl, h5, hb5⟩; have B5 := Below.thru B4 hb5 (Nat.le_refl _); have F5 := trivial)
        | (go_at_call 20; clear F5; have C := Inv_l _ _ _ w5 h5; refine C.mono ?_; clear C; rintro e w6 ⟨p6, c6, rfl, h6, hb6⟩; have B6 := Below.thru B5 hb6 (Nat.le_refl _); have F6 := trivial)
        | (go_at_call 34; clear F6; have C := Same_t _ _ _ _ _ _ w6 h6 (Sl.keep ha B6) H1.out; refine C.mono ?_; clear C; rintro e w7 ⟨rfl, hb7⟩; have B7 := Below.thru B6 hb7 (Nat.le_refl _); have F7 := trivial)
        | (go_at_call 32; clear F7; have C := Seq_l _ _ _ _ _ _ w7 (Sl.keep ha B7) (Sl.keep hb B7); refine C.mono ?_; clear C; rintro e w8 ⟨p8, c8, rfl, h8, hb8⟩; have B8 := Below.thru B7 hb8 (Nat.le_refl _); have F8 := trivial)
        | (go_at_call 20; clear F8; have C := Inv_l _ _ _ w8 h8; refine C.mono ?_; clear C; rintro e w9 ⟨p9, c9, rfl, h9, hb9⟩; have B9 := Below.thru B8 hb9 (Nat.le_refl _); have F9 := trivial)
        | (go_at_call 20; clear F9; have C := Inv_l _ _ _ w9 (Sl.keep hb B9); refine C.mono ?_; clear C; rintro e w10 ⟨p10, c10, rfl, h10, hb10⟩; have B10 := Below.thru B9 hb10 (Nat.le_refl _); have F10 := trivial)
        | (go_at_call 20; clear F10; have C := Inv_l _ _ _ w10 (Sl.keep ha B10); refine C.mono ?_; clear C; rintro e w11 ⟨p11, c11, rfl, h11, hb11⟩; have B11 := Below.thru B10 hb11 (Nat.le_refl _); have F11 := trivial)
        | (go_at_call 32; clear F11; have C := Seq_l _ _ _ _ _ _ w11 (h10.keep hb11) h11; refine C.mono ?_; clear C; rintro e w12 ⟨p12, c12, rfl, h12, hb12⟩; have B12 := Below.thru B11 hb12 (Nat.le_refl _); have F12 := trivial)
        | (go_at_call 34; clear F12; have C := Same_t _ _ _ _ _ _ w12 (((h9.keep hb10).keep hb11).keep hb12) h12 H2.out; refine C.mono ?_; clear C; rintro e w13 ⟨rfl, hb13⟩; have B13 := Below.thru B12 hb13 (Nat.le_refl _); have F13 := trivial)
        | (go_at_call 32; clear F13; have C := Seq_l _ _ _ _ _ _ w13 (Sl.keep hb B13) (Sl.keep hc B13); refine C.mono ?_; clear C; rintro e w14 ⟨p14, c14, rfl, h14, hb14⟩; have B14 := Below.thru B13 hb14 (Nat.le_refl _); have F14 := trivial)
        | (go_at_call 32; clear F14; have C := Seq_l _ _ _ _ _ _ w14 (Sl.keep ha B14) h14; refine C.mono ?_; clear C; rintro e w15 ⟨p15, c15, rfl, h15, hb15⟩; have B15 := Below.thru B14 hb15 (Nat.le_refl _); have F15 := trivial)
        | (go_at_call 34; clear F15; have C := Same_t _ _ _ _ _ _ w15 (((((((((((h4.keep hb5).keep hb6).keep hb7).keep hb8).keep hb9).keep hb10).keep hb11).keep hb12).keep hb13).keep hb14).keep hb15) h15 H3.out; refine C.mono ?_; clear C; rintro e w16 ⟨rfl, hb16⟩; have B16 := Below.thru B15 hb16 (Nat.le_refl _); have F16 := trivial)
        | (go_at_call 32; clear F16; have C := Seq_l _ _ _ _ _ _ w16 ((((((((((((((h2.keep hb3).keep hb4).keep hb5).keep hb6).keep hb7).keep hb8).keep hb9).keep hb10).keep hb11).keep hb12).keep hb13).keep hb14).keep hb15).keep hb16) (Sl.keep hc B16); refine C.mono ?_; clear C; rintro e w17 ⟨p17, c17, rfl, h17, hb17⟩; have B17 := Below.thru B16 hb17 (Nat.le_refl _); have F17 := trivial)
        | (go_at_call 32; clear F17; have C := Seq_l _ _ _ _ _ _ w17 (Sl.keep ha B17) (Sl.keep hc B17); refine C.mono ?_; clear C; rintro e w18 ⟨p18, c18, rfl, h18, hb18⟩; have B18 := Below.thru B17 hb18 (Nat.le_refl _); have F18 := trivial)
        | (go_at_call 32; clear F18; have C := Seq_l _ _ _ _ _ _ w18 (Sl.keep hb B18) (Sl.keep hc B18); refine C.mono ?_; clear C; rintro e w19 ⟨p19, c19, rfl, h19, hb19⟩; have B19 := Below.thru B18 hb19 (Nat.le_refl _); have F19 := trivial)
        | (go_at_call 28; clear F19; have C := Or_l _ _ _ _ _ _ w19 (h18.keep hb19) h19; refine C.mono ?_; clear C; rintro e w20 ⟨p20, c20, rfl, h20, hb20⟩; have B20 := Below.thru B19 hb20 (Nat.le_refl _); have F20 := trivial)
        | (go_at_call 34; clear F20; have C := Same_t _ _ _ _ _ _ w20 (((h17.keep hb18).keep hb19).keep hb20) h20 H4.out; refine C.mono ?_; clear C; rintro e w21 ⟨rfl, hb21⟩; have B21 := Below.thru B20 hb21 (Nat.le_refl _); have F21 := trivial)
        | (go_at_call 30; clear F21; have C := And_l _ _ _ _ _ _ w21 (((((((((((((((((((h2.keep hb3).keep hb4).keep hb5).keep hb6).keep hb7).keep hb8).keep hb9).keep hb10).keep hb11).keep hb12).keep hb13).keep hb14).keep hb15).keep hb16).keep hb17).keep hb18).keep hb19).keep hb20).keep hb21) (Sl.keep ha B21); refine C.mono ?_; clear C; rintro e w22 ⟨p22, c22, rfl, h22, hb22⟩; have B22 := Below.thru B21 hb22 (Nat.le_refl _); have F22 := trivial)
        | (go_at_call 34; clear F22; have C := Same_t _ _ _ _ _ _ w22 h22 (Sl.keep ha B22) H5.out; refine C.mono ?_; clear C; rintro e w23 ⟨rfl, hb23⟩; have B23 := Below.thru B22 hb23 (Nat.le_refl _); have F23 := trivial)
        | (go_at_call 28; clear F23; have C := Or_l _ _ _ _ _ _ w23 (Sl.keep ha B23) (Sl.keep ha B23); refine C.mono ?_; clear C; rintro e w24 ⟨p24, c24, rfl, h24, hb24⟩; have B24 := Below.thru B23 hb24 (Nat.le_refl _); have F24 := trivial)
        | (go_at_call 34; clear F24; have C := Same_t _ _ _ _ _ _ w24 h24 (Sl.keep ha B24) H6.out; refine C.mono ?_; clear C; rintro e w25 ⟨rfl, hb25⟩; have B25 := Below.thru B24 hb25 (Nat.le_refl _); have F25 := trivial))
      go_ret
      exact ⟨rfl, B25⟩
    · have hl' : ¬ (ys.length : Int) = (xs.length : Int) ∨ ((ys.length : Int) = (xs.length : Int) ∧ ¬ (zs.length : Int) = (xs.length : Int)) := by omega
      clear hl
      rcases hl' with hl | ⟨hl, hl2⟩
      · skip
        go_enter Try.func5, Try.ntmps5
        have F0 := trivial
        go_wp2_with (first
          | (go_at_call 9; clear F0; have C := shown_any w; refine C.mono ?_; clear C; rintro e w1 ⟨rfl, hb1⟩; have B1 := hb1; have F1 := trivial))
        go_ret
        exact ⟨rfl, B1⟩
      · have hl3 : ((zs.length : Int) != (xs.length : Int)) = true := by simpa using hl2
        clear hl2
        go_enter Try.func5, Try.ntmps5
        have F0 := trivial
        go_wp2_with (first
          | (go_at_call 9; clear F0; have C := shown_any w; refine C.mono ?_; clear C; rintro e w1 ⟨rfl, hb1⟩; have B1 := hb1; have F1 := trivial))
        go_ret
        exact ⟨rfl, B1⟩
  · have h32' : (32 : Int) < (xs.length : Int) := by omega
    clear h32
    go_enter Try.func5, Try.ntmps5
    have F0 := trivial
    go_wp2_with (first
      | (go_at_call 9; clear F0; have C := shown_any w; refine C.mono ?_; clear C; rintro e w1 ⟨rfl, hb1⟩; have B1 := hb1; have F1 := trivial))
    go_ret
    exact ⟨rfl, B1⟩
end Go.Proofs.Ytjngpdamkdgkkaa
