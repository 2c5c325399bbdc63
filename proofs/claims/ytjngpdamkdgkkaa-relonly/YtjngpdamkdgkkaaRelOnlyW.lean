/- RelOnly, walked. -/
import Derived.Test.YtjngpdamkdgkkaaRelShown
namespace Go.Proofs.Ytjngpdamkdgkkaa
open Go.RowKit

theorem crossL_sz (xs : List Nat) (s t : Nat) : szR (crossL (xs.length : Int) s t) = szR xs := by unfold crossL; rw [newN_len]; exact mkR_sz _ (szR_le xs)
set_option maxHeartbeats 4000000 in
theorem RelOnly_true (pa : Option Addr) (ca : Nat) (xs : List Nat) (f t g u : Nat) (w : World) (ha : Sl U32E w (.slice pa xs.length ca) xs) (hf : f < 4294967296) (ht : t < 4294967296) (hg : g < 4294967296) (hu : u < 4294967296) :
    Calls Try.prog 8 #[.slice pa xs.length ca, .int .u32 (f : Int), .int .u32 (t : Int), .int .u32 (g : Int), .int .u32 (u : Int)] w fun e w' => e = .returned (.bool true) ∧ Below w.heap.size w w' := by
  by_cases h1 : (32 : Int) < (xs.length : Int)
  · skip
    go_enter Try.func8, Try.ntmps8
    have F0 := trivial
    go_wp2_with (first
      | (go_at_call 9; clear F0; have C := shown_any w; refine C.mono ?_; clear C; rintro e w1 ⟨rfl, hb1⟩; have B1 := hb1; have F1 := trivial))
    go_ret
    exact ⟨rfl, B1⟩
  · have H1 : Hid (cleanR (onlyL (onlyL xs f t) g u) = cleanR (onlyL xs (f &&& g) (t &&& u))) := by
      refine same_of (by rw [only_sz, only_sz, only_sz]) ?_
      rw [only_has, only_has, only_has]
      funext i k
      unfold andF crossF
      rw [Nat.testBit_and, Nat.testBit_and]
      cases hasR xs i k <;> cases f.testBit i <;> cases g.testBit i <;> cases t.testBit k <;> cases u.testBit k <;> rfl
    have H2 : Hid (cleanR (onlyL xs 4294967295 4294967295) = cleanR xs) := by
      refine same_of only_sz ?_
      rw [only_has]
      funext i k
      unfold andF
      cases h : hasR xs i k with
      | false => rfl
      | true =>
        obtain ⟨a1, a2⟩ := has_within xs i k h
        have h32 := szR_le xs
        have e : ∀ j, j < 32 → (4294967295 : Nat).testBit j = true := by decide
        unfold crossF
        rw [e i (by omega), e k (by omega)]
        rfl
    have H3 : Hid (cleanR (andL xs (crossL (xs.length : Int) f t)) = cleanR (onlyL xs f t)) := by
      have e : szR xs = szR (crossL (xs.length : Int) f t) := (crossL_sz xs f t).symm
      refine clean_eq.2 ⟨by rw [and_sz e, only_sz], fun i k => ?_⟩
      rw [and_has e, only_has]
      unfold andF
      cases h : hasR xs i k with
      | false => rfl
      | true =>
        obtain ⟨a1, a2⟩ := has_within xs i k h
        unfold crossL
        rw [newN_len, hasR_mk _ (szR_le xs) a1 a2]
    have H4 : Hid (cleanR (invL (onlyL xs f t)) = cleanR (onlyL (invL xs) t f)) := by
      refine same_of (by rw [inv_sz, only_sz, only_sz, inv_sz]) ?_
      rw [inv_has, only_has, only_has, inv_has]
      funext i k
      unfold invF andF crossF
      rw [Bool.and_comm (f.testBit k)]
    have e1 := and_u32 hf hg
    have e2 := and_u32 ht hu
    have hfg : f &&& g < 4294967296 := show f &&& g < 2 ^ 32 from Nat.and_lt_two_pow _ hg
    have htu : t &&& u < 4294967296 := show t &&& u < 2 ^ 32 from Nat.and_lt_two_pow _ hu
    have he : ((4294967295 : Nat) : Int) = 4294967295 := rfl
    generalize f &&& g = fg at *
    generalize t &&& u = tu at *
    go_enter Try.func8, Try.ntmps8
    have F0 := trivial
    go_wp2_with (first
      | (go_at_call 9; clear F0; have C := shown_any w; refine C.mono ?_; clear C; rintro e w1 ⟨rfl, hb1⟩; have B1 := hb1; have F1 := trivial)
      | (go_at_call 24; clear F1; have C := Only_l _ _ _ w1 (Sl.keep ha B1) f t hf ht; refine C.mono ?_; clear C; rintro e w2 ⟨p2, c2, rfl, h2, hb2⟩; have B2 := Below.thru B1 hb2 (Nat.le_refl _); have F2 := trivial)
      | (go_at_call 24; clear F2; have C := Only_l _ _ _ w2 h2 g u hg hu; refine C.mono ?_; clear C; rintro e w3 ⟨p3, c3, rfl, h3, hb3⟩; have B3 := Below.thru B2 hb3 (Nat.le_refl _); have F3 := trivial)
      | (go_at_call 24; clear F3; have C := Only_l _ _ _ w3 (Sl.keep ha B3) fg tu hfg htu; refine C.mono ?_; clear C; rintro e w4 ⟨p4, c4, rfl, h4, hb4⟩; have B4 := Below.thru B3 hb4 (Nat.le_refl _); have F4 := trivial)
      | (go_at_call 34; clear F4; have C := Same_t _ _ _ _ _ _ w4 (h3.keep hb4) h4 H1.out; refine C.mono ?_; clear C; rintro e w5 ⟨rfl, hb5⟩; have B5 := Below.thru B4 hb5 (Nat.le_refl _); have F5 := trivial)
      | (go_at_call 24; clear F5; have C := Only_l _ _ _ w5 (Sl.keep ha B5) 4294967295 4294967295 (by decide) (by decide); rw [he] at C; refine C.mono ?_; clear C; rintro e w6 ⟨p6, c6, rfl, h6, hb6⟩; have B6 := Below.thru B5 hb6 (Nat.le_refl _); have F6 := trivial)
      | (go_at_call 34; clear F6; have C := Same_t _ _ _ _ _ _ w6 h6 (Sl.keep ha B6) H2.out; refine C.mono ?_; clear C; rintro e w7 ⟨rfl, hb7⟩; have B7 := Below.thru B6 hb7 (Nat.le_refl _); have F7 := trivial)
      | (go_at_call 26; clear F7; have C := Cross_l w7 (xs.length : Int) f t hf ht; refine C.mono ?_; clear C; rintro e w8 ⟨p8, c8, rfl, h8, hb8⟩; have B8 := Below.thru B7 hb8 (Nat.le_refl _); have F8 := trivial)
      | (go_at_call 30; clear F8; have C := And_l _ _ _ _ _ _ w8 (Sl.keep ha B8) h8; refine C.mono ?_; clear C; rintro e w9 ⟨p9, c9, rfl, h9, hb9⟩; have B9 := Below.thru B8 hb9 (Nat.le_refl _); have F9 := trivial)
      | (go_at_call 34; clear F9; have C := Same_t _ _ _ _ _ _ w9 h9 (((((((h2.keep hb3).keep hb4).keep hb5).keep hb6).keep hb7).keep hb8).keep hb9) H3.out; refine C.mono ?_; clear C; rintro e w10 ⟨rfl, hb10⟩; have B10 := Below.thru B9 hb10 (Nat.le_refl _); have F10 := trivial)
      | (go_at_call 20; clear F10; have C := Inv_l _ _ _ w10 ((((((((h2.keep hb3).keep hb4).keep hb5).keep hb6).keep hb7).keep hb8).keep hb9).keep hb10); refine C.mono ?_; clear C; rintro e w11 ⟨p11, c11, rfl, h11, hb11⟩; have B11 := Below.thru B10 hb11 (Nat.le_refl _); have F11 := trivial)
      | (go_at_call 20; clear F11; have C := Inv_l _ _ _ w11 (Sl.keep ha B11); refine C.mono ?_; clear C; rintro e w12 ⟨p12, c12, rfl, h12, hb12⟩; have B12 := Below.thru B11 hb12 (Nat.le_refl _); have F12 := trivial)
      | (go_at_call 24; clear F12; have C := Only_l _ _ _ w12 h12 t f ht hf; refine C.mono ?_; clear C; rintro e w13 ⟨p13, c13, rfl, h13, hb13⟩; have B13 := Below.thru B12 hb13 (Nat.le_refl _); have F13 := trivial)
      | (go_at_call 34; clear F13; have C := Same_t _ _ _ _ _ _ w13 ((h11.keep hb12).keep hb13) h13 H4.out; refine C.mono ?_; clear C; rintro e w14 ⟨rfl, hb14⟩; have B14 := Below.thru B13 hb14 (Nat.le_refl _); have F14 := trivial))
    go_ret
    exact ⟨rfl, B14⟩
end Go.Proofs.Ytjngpdamkdgkkaa
