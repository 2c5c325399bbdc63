/- RelClosed, walked. -/
import Derived.Test.YtjngpdamkdgkkaaRelShown
namespace Go.Proofs.Ytjngpdamkdgkkaa
open Go.RowKit

set_option maxHeartbeats 4000000 in
theorem RelClosed_true (pa : Option Addr) (ca : Nat) (xs : List Nat) (s : Nat) (w : World) (ha : Sl U32E w (.slice pa xs.length ca) xs) (hs : s < 4294967296) :
    Calls Try.prog 6 #[.slice pa xs.length ca, .int .u32 (s : Int)] w fun e w' => e = .returned (.bool true) ∧ Below w.heap.size w w' := by
  by_cases h1 : (32 : Int) < (xs.length : Int)
  · skip
    go_enter Try.func6, Try.ntmps6
    have F0 := trivial
    go_wp2_with (first
      | (go_at_call 9; clear F0; have C := shown_any w; refine C.mono ?_; clear C; rintro e w1 ⟨rfl, hb1⟩; have B1 := hb1; have F1 := trivial))
    go_ret
    exact ⟨rfl, B1⟩
  · have H1 : Hid (cleanR (plusL (plusL xs)) = cleanR (plusL xs)) := by
      refine same_of plus_sz ?_
      rw [plus_hasL, plus_hasL, plus_sz]
      funext i k
      exact plus_plus (has_within xs) i k
    have H2 : Hid (cleanR (orL (plusL xs) xs) = cleanR (plusL xs)) := by
      refine same_of (or_sz plus_sz) ?_
      rw [or_has plus_sz, plus_hasL]
      funext i k
      exact plus_or i k
    have H3 : Hid (cleanR (orL (plusL xs) (seqL (plusL xs) (plusL xs))) = cleanR (plusL xs)) := by
      have e : szR (plusL xs) = szR (seqL (plusL xs) (plusL xs)) := (seq_sz rfl).symm
      refine same_of (or_sz e) ?_
      rw [or_has e, seq_has rfl, plus_hasL, plus_sz]
      funext i k
      exact plus_seq (has_within xs) i k
    have hI : acyL (invL xs) = acyL xs := by unfold acyL; rw [inv_sz, inv_has]; exact acy_inv (has_within xs)
    have hP : acyL (plusL xs) = acyL xs := by unfold acyL; rw [plus_sz, plus_hasL]; exact acy_plus (has_within xs)
    cases hA : acyL xs with
    | true =>
      have HQ : Hid (acyL (onlyL xs s s) = true) := by
        unfold acyL at hA ⊢
        rw [only_sz, only_has]
        refine acy_part (has_within xs) (fun i k h => ?_) hA
        unfold andF at h
        rw [Bool.and_eq_true] at h
        exact h.1
      have HI : Hid _ := hI.trans hA
      have HP : Hid _ := hP.trans hA
      have HA : Hid _ := hA
      clear hI hP hA
      go_enter Try.func6, Try.ntmps6
      have F0 := trivial
      go_wp2_with (first
        | (go_at_call 9; clear F0; have C := shown_any w; refine C.mono ?_; clear C; rintro e w1 ⟨rfl, hb1⟩; have B1 := hb1; have F1 := trivial)
        | (go_at_call 22; clear F1; have C := Plus_l _ _ _ w1 (Sl.keep ha B1); refine C.mono ?_; clear C; rintro e w2 ⟨p2, c2, rfl, h2, hb2⟩; have B2 := Below.thru B1 hb2 (Nat.le_refl _); have F2 := trivial)
        | (go_at_call 24; clear F2; have C := Only_l _ _ _ w2 (Sl.keep ha B2) s s hs hs; refine C.mono ?_; clear C; rintro e w3 ⟨p3, c3, rfl, h3, hb3⟩; have B3 := Below.thru B2 hb3 (Nat.le_refl _); have F3 := trivial)
        | (go_at_call 22; clear F3; have C := Plus_l _ _ _ w3 (h2.keep hb3); refine C.mono ?_; clear C; rintro e w4 ⟨p4, c4, rfl, h4, hb4⟩; have B4 := Below.thru B3 hb4 (Nat.le_refl _); have F4 := trivial)
        | (go_at_call 34; clear F4; have C := Same_t _ _ _ _ _ _ w4 h4 ((h2.keep hb3).keep hb4) H1.out; refine C.mono ?_; clear C; rintro e w5 ⟨rfl, hb5⟩; have B5 := Below.thru B4 hb5 (Nat.le_refl _); have F5 := trivial)
        | (go_at_call 28; clear F5; have C := Or_l _ _ _ _ _ _ w5 (((h2.keep hb3).keep hb4).keep hb5) (Sl.keep ha B5); refine C.mono ?_; clear C; rintro e w6 ⟨p6, c6, rfl, h6, hb6⟩; have B6 := Below.thru B5 hb6 (Nat.le_refl _); have F6 := trivial)
        | (go_at_call 34; clear F6; have C := Same_t _ _ _ _ _ _ w6 h6 ((((h2.keep hb3).keep hb4).keep hb5).keep hb6) H2.out; refine C.mono ?_; clear C; rintro e w7 ⟨rfl, hb7⟩; have B7 := Below.thru B6 hb7 (Nat.le_refl _); have F7 := trivial)
        | (go_at_call 32; clear F7; have C := Seq_l _ _ _ _ _ _ w7 (((((h2.keep hb3).keep hb4).keep hb5).keep hb6).keep hb7) (((((h2.keep hb3).keep hb4).keep hb5).keep hb6).keep hb7); refine C.mono ?_; clear C; rintro e w8 ⟨p8, c8, rfl, h8, hb8⟩; have B8 := Below.thru B7 hb8 (Nat.le_refl _); have F8 := trivial)
        | (go_at_call 28; clear F8; have C := Or_l _ _ _ _ _ _ w8 ((((((h2.keep hb3).keep hb4).keep hb5).keep hb6).keep hb7).keep hb8) h8; refine C.mono ?_; clear C; rintro e w9 ⟨p9, c9, rfl, h9, hb9⟩; have B9 := Below.thru B8 hb9 (Nat.le_refl _); have F9 := trivial)
        | (go_at_call 34; clear F9; have C := Same_t _ _ _ _ _ _ w9 h9 (((((((h2.keep hb3).keep hb4).keep hb5).keep hb6).keep hb7).keep hb8).keep hb9) H3.out; refine C.mono ?_; clear C; rintro e w10 ⟨rfl, hb10⟩; have B10 := Below.thru B9 hb10 (Nat.le_refl _); have F10 := trivial)
        | (go_at_call 12; clear F10; have C := Acyclic_l _ _ _ w10 (Sl.keep ha B10); rw [HA.out] at C; refine C.mono ?_; clear C; rintro e w11 ⟨rfl, hb11⟩; have B11 := Below.thru B10 hb11 (Nat.le_refl _); have F11 := trivial)
        | (go_at_call 12; clear F11; have C := Acyclic_l _ _ _ w11 ((((((((h3.keep hb4).keep hb5).keep hb6).keep hb7).keep hb8).keep hb9).keep hb10).keep hb11); rw [HQ.out] at C; refine C.mono ?_; clear C; rintro e w12 ⟨rfl, hb12⟩; have B12 := Below.thru B11 hb12 (Nat.le_refl _); have F12 := trivial)
        | (go_at_call 20; clear F12; have C := Inv_l _ _ _ w12 (Sl.keep ha B12); refine C.mono ?_; clear C; rintro e w13 ⟨p13, c13, rfl, h13, hb13⟩; have B13 := Below.thru B12 hb13 (Nat.le_refl _); have F13 := trivial)
        | (go_at_call 12; clear F13; have C := Acyclic_l _ _ _ w13 h13; rw [HI.out] at C; refine C.mono ?_; clear C; rintro e w14 ⟨rfl, hb14⟩; have B14 := Below.thru B13 hb14 (Nat.le_refl _); have F14 := trivial)
        | (go_at_call 12; clear F14; have C := Acyclic_l _ _ _ w14 (Sl.keep ha B14); rw [HA.out] at C; refine C.mono ?_; clear C; rintro e w15 ⟨rfl, hb15⟩; have B15 := Below.thru B14 hb15 (Nat.le_refl _); have F15 := trivial)
        | (go_at_call 12; clear F15; have C := Acyclic_l _ _ _ w15 (((((((((((((h2.keep hb3).keep hb4).keep hb5).keep hb6).keep hb7).keep hb8).keep hb9).keep hb10).keep hb11).keep hb12).keep hb13).keep hb14).keep hb15); rw [HP.out] at C; refine C.mono ?_; clear C; rintro e w16 ⟨rfl, hb16⟩; have B16 := Below.thru B15 hb16 (Nat.le_refl _); have F16 := trivial)
        | (go_at_call 12; clear F16; have C := Acyclic_l _ _ _ w16 (Sl.keep ha B16); rw [HA.out] at C; refine C.mono ?_; clear C; rintro e w17 ⟨rfl, hb17⟩; have B17 := Below.thru B16 hb17 (Nat.le_refl _); have F17 := trivial))
      go_ret
      exact ⟨rfl, B17⟩
    | false =>
      have HI : Hid _ := hI.trans hA
      have HP : Hid _ := hP.trans hA
      have HA : Hid _ := hA
      clear hI hP hA
      go_enter Try.func6, Try.ntmps6
      have F0 := trivial
      go_wp2_with (first
        | (go_at_call 9; clear F0; have C := shown_any w; refine C.mono ?_; clear C; rintro e w1 ⟨rfl, hb1⟩; have B1 := hb1; have F1 := trivial)
        | (go_at_call 22; clear F1; have C := Plus_l _ _ _ w1 (Sl.keep ha B1); refine C.mono ?_; clear C; rintro e w2 ⟨p2, c2, rfl, h2, hb2⟩; have B2 := Below.thru B1 hb2 (Nat.le_refl _); have F2 := trivial)
        | (go_at_call 24; clear F2; have C := Only_l _ _ _ w2 (Sl.keep ha B2) s s hs hs; refine C.mono ?_; clear C; rintro e w3 ⟨p3, c3, rfl, h3, hb3⟩; have B3 := Below.thru B2 hb3 (Nat.le_refl _); have F3 := trivial)
        | (go_at_call 22; clear F3; have C := Plus_l _ _ _ w3 (h2.keep hb3); refine C.mono ?_; clear C; rintro e w4 ⟨p4, c4, rfl, h4, hb4⟩; have B4 := Below.thru B3 hb4 (Nat.le_refl _); have F4 := trivial)
        | (go_at_call 34; clear F4; have C := Same_t _ _ _ _ _ _ w4 h4 ((h2.keep hb3).keep hb4) H1.out; refine C.mono ?_; clear C; rintro e w5 ⟨rfl, hb5⟩; have B5 := Below.thru B4 hb5 (Nat.le_refl _); have F5 := trivial)
        | (go_at_call 28; clear F5; have C := Or_l _ _ _ _ _ _ w5 (((h2.keep hb3).keep hb4).keep hb5) (Sl.keep ha B5); refine C.mono ?_; clear C; rintro e w6 ⟨p6, c6, rfl, h6, hb6⟩; have B6 := Below.thru B5 hb6 (Nat.le_refl _); have F6 := trivial)
        | (go_at_call 34; clear F6; have C := Same_t _ _ _ _ _ _ w6 h6 ((((h2.keep hb3).keep hb4).keep hb5).keep hb6) H2.out; refine C.mono ?_; clear C; rintro e w7 ⟨rfl, hb7⟩; have B7 := Below.thru B6 hb7 (Nat.le_refl _); have F7 := trivial)
        | (go_at_call 32; clear F7; have C := Seq_l _ _ _ _ _ _ w7 (((((h2.keep hb3).keep hb4).keep hb5).keep hb6).keep hb7) (((((h2.keep hb3).keep hb4).keep hb5).keep hb6).keep hb7); refine C.mono ?_; clear C; rintro e w8 ⟨p8, c8, rfl, h8, hb8⟩; have B8 := Below.thru B7 hb8 (Nat.le_refl _); have F8 := trivial)
        | (go_at_call 28; clear F8; have C := Or_l _ _ _ _ _ _ w8 ((((((h2.keep hb3).keep hb4).keep hb5).keep hb6).keep hb7).keep hb8) h8; refine C.mono ?_; clear C; rintro e w9 ⟨p9, c9, rfl, h9, hb9⟩; have B9 := Below.thru B8 hb9 (Nat.le_refl _); have F9 := trivial)
        | (go_at_call 34; clear F9; have C := Same_t _ _ _ _ _ _ w9 h9 (((((((h2.keep hb3).keep hb4).keep hb5).keep hb6).keep hb7).keep hb8).keep hb9) H3.out; refine C.mono ?_; clear C; rintro e w10 ⟨rfl, hb10⟩; have B10 := Below.thru B9 hb10 (Nat.le_refl _); have F10 := trivial)
        | (go_at_call 12; clear F10; have C := Acyclic_l _ _ _ w10 (Sl.keep ha B10); rw [HA.out] at C; refine C.mono ?_; clear C; rintro e w11 ⟨rfl, hb11⟩; have B11 := Below.thru B10 hb11 (Nat.le_refl _); have F11 := trivial)
        | (go_at_call 20; clear F11; have C := Inv_l _ _ _ w11 (Sl.keep ha B11); refine C.mono ?_; clear C; rintro e w12 ⟨p12, c12, rfl, h12, hb12⟩; have B12 := Below.thru B11 hb12 (Nat.le_refl _); have F12 := trivial)
        | (go_at_call 12; clear F12; have C := Acyclic_l _ _ _ w12 h12; rw [HI.out] at C; refine C.mono ?_; clear C; rintro e w13 ⟨rfl, hb13⟩; have B13 := Below.thru B12 hb13 (Nat.le_refl _); have F13 := trivial)
        | (go_at_call 12; clear F13; have C := Acyclic_l _ _ _ w13 (Sl.keep ha B13); rw [HA.out] at C; refine C.mono ?_; clear C; rintro e w14 ⟨rfl, hb14⟩; have B14 := Below.thru B13 hb14 (Nat.le_refl _); have F14 := trivial)
        | (go_at_call 12; clear F14; have C := Acyclic_l _ _ _ w14 ((((((((((((h2.keep hb3).keep hb4).keep hb5).keep hb6).keep hb7).keep hb8).keep hb9).keep hb10).keep hb11).keep hb12).keep hb13).keep hb14); rw [HP.out] at C; refine C.mono ?_; clear C; rintro e w15 ⟨rfl, hb15⟩; have B15 := Below.thru B14 hb15 (Nat.le_refl _); have F15 := trivial)
        | (go_at_call 12; clear F15; have C := Acyclic_l _ _ _ w15 (Sl.keep ha B15); rw [HA.out] at C; refine C.mono ?_; clear C; rintro e w16 ⟨rfl, hb16⟩; have B16 := Below.thru B15 hb16 (Nat.le_refl _); have F16 := trivial))
      go_ret
      exact ⟨rfl, B16⟩
end Go.Proofs.Ytjngpdamkdgkkaa
