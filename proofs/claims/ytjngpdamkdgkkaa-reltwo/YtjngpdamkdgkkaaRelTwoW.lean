/- RelTwo, walked. -/
import Derived.Test.YtjngpdamkdgkkaaRelShown
namespace Go.Proofs.Ytjngpdamkdgkkaa
open Go.RowKit

set_option maxHeartbeats 4000000 in
theorem RelTwo_true (pa pb : Option Addr) (ca cb : Nat) (xs ys : List Nat) (w : World) (ha : Sl U32E w (.slice pa xs.length ca) xs) (hb : Sl U32E w (.slice pb ys.length cb) ys) :
    Calls Try.prog 4 #[.slice pa xs.length ca, .slice pb ys.length cb] w fun e w' => e = .returned (.bool true) ∧ Below w.heap.size w w' := by
  obtain ⟨dd, hd⟩ : ∃ dd, decide (cleanR xs = cleanR ys) = dd := ⟨_, rfl⟩
  have HD : Hid _ := hd
  clear hd
  by_cases h1 : (100 : Int) < (xs.length : Int)
  · skip
    go_enter Try.func4, Try.ntmps4
    have F0 := trivial
    go_wp2_with (first
      | (go_at_call 9; clear F0; have C := shown_any w; refine C.mono ?_; clear C; rintro e w1 ⟨rfl, hb1⟩; have B1 := hb1; have F1 := trivial))
    go_ret
    exact ⟨rfl, B1⟩
  · by_cases h2 : (100 : Int) < (ys.length : Int)
    · skip
      go_enter Try.func4, Try.ntmps4
      have F0 := trivial
      go_wp2_with (first
        | (go_at_call 9; clear F0; have C := shown_any w; refine C.mono ?_; clear C; rintro e w1 ⟨rfl, hb1⟩; have B1 := hb1; have F1 := trivial))
      go_ret
      exact ⟨rfl, B1⟩
    · go_enter Try.func4, Try.ntmps4
      have F0 := trivial
      go_wp2_with (first
        | (go_at_call 9; clear F0; have C := shown_any w; refine C.mono ?_; clear C; rintro e w1 ⟨rfl, hb1⟩; have B1 := hb1; have F1 := trivial)
        | (go_at_call 28; clear F1; have C := Or_l _ _ _ _ _ _ w1 (Sl.keep ha B1) (Sl.keep hb B1); refine C.mono ?_; clear C; rintro e w2 ⟨p2, c2, rfl, h2, hb2⟩; have B2 := Below.thru B1 hb2 (Nat.le_refl _); have F2 := trivial)
        | (go_at_call 29; clear F2; have C := rOr_l _ _ _ _ _ _ w2 (Sl.keep ha B2) (Sl.keep hb B2); refine C.mono ?_; clear C; rintro e w3 ⟨p3, c3, rfl, h3, hb3⟩; have B3 := Below.thru B2 hb3 (Nat.le_refl _); have F3 := trivial)
        | (go_at_call 17; clear F3; have C := rSame_t _ _ _ _ _ _ w3 (h2.keep hb3) h3 rfl; refine C.mono ?_; clear C; rintro e w4 ⟨rfl, hb4⟩; have B4 := Below.thru B3 hb4 (Nat.le_refl _); have F4 := trivial)
        | (go_at_call 30; clear F4; have C := And_l _ _ _ _ _ _ w4 (Sl.keep ha B4) (Sl.keep hb B4); refine C.mono ?_; clear C; rintro e w5 ⟨p5, c5, rfl, h5, hb5⟩; have B5 := Below.thru B4 hb5 (Nat.le_refl _); have F5 := trivial)
        | (go_at_call 31; clear F5; have C := rAnd_l _ _ _ _ _ _ w5 (Sl.keep ha B5) (Sl.keep hb B5); refine C.mono ?_; clear C; rintro e w6 ⟨p6, c6, rfl, h6, hb6⟩; have B6 := Below.thru B5 hb6 (Nat.le_refl _); have F6 := trivial)
        | (go_at_call 17; clear F6; have C := rSame_t _ _ _ _ _ _ w6 (h5.keep hb6) h6 rfl; refine C.mono ?_; clear C; rintro e w7 ⟨rfl, hb7⟩; have B7 := Below.thru B6 hb7 (Nat.le_refl _); have F7 := trivial)
        | (go_at_call 32; clear F7; have C := Seq_l _ _ _ _ _ _ w7 (Sl.keep ha B7) (Sl.keep hb B7); refine C.mono ?_; clear C; rintro e w8 ⟨p8, c8, rfl, h8, hb8⟩; have B8 := Below.thru B7 hb8 (Nat.le_refl _); have F8 := trivial)
        | (go_at_call 33; clear F8; have C := rSeq_l _ _ _ _ _ _ w8 (Sl.keep ha B8) (Sl.keep hb B8); refine C.mono ?_; clear C; rintro e w9 ⟨p9, c9, rfl, h9, hb9⟩; have B9 := Below.thru B8 hb9 (Nat.le_refl _); have F9 := trivial)
        | (go_at_call 17; clear F9; have C := rSame_t _ _ _ _ _ _ w9 (h8.keep hb9) h9 rfl; refine C.mono ?_; clear C; rintro e w10 ⟨rfl, hb10⟩; have B10 := Below.thru B9 hb10 (Nat.le_refl _); have F10 := trivial)
        | (go_at_call 34; clear F10; have C := Same_any _ _ _ _ _ _ w10 (Sl.keep ha B10) (Sl.keep hb B10); rw [HD.out] at C; refine C.mono ?_; clear C; rintro e w11 ⟨rfl, hb11⟩; have B11 := Below.thru B10 hb11 (Nat.le_refl _); have F11 := trivial)
        | (go_at_call 17; clear F11; have C := refSame_any _ _ _ _ _ _ w11 (Sl.keep ha B11) (Sl.keep hb B11); rw [HD.out] at C; refine C.mono ?_; clear C; rintro e w12 ⟨rfl, hb12⟩; have B12 := Below.thru B11 hb12 (Nat.le_refl _); have F12 := trivial))
      go_ret
      exact ⟨rfl, B12⟩
end Go.Proofs.Ytjngpdamkdgkkaa
