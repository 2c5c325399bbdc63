/- The document's example. -/
import Derived.Test.YtjngpdamkdgkkaaRelList
namespace Go.Proofs.Ytjngpdamkdgkkaa
open Go.RowKit

def exR : List Nat := putL (putL (newL 3) 0 1) 1 2
theorem ex_has : hasI (plusL (putL (putL (newL 3) 0 1) 1 2)) 0 2 = true := by decide +kernel
theorem ex_acy : acyL (putL (putL (newL 3) 0 1) 1 2) = true := by decide +kernel
theorem ex_cyc : acyL (putL (putL (putL (newL 3) 0 1) 1 2) 2 0) = false := by decide +kernel
theorem ex_two : (pairsL (putL (putL (newL 3) 0 1) 1 2)).length = 2 := by decide +kernel
set_option maxHeartbeats 1000000 in
theorem shown_any (w : World) : Calls Try.prog 9 #[] w fun e w' => e = .returned (.bool true) ∧ Below w.heap.size w w' := by
  go_enter Try.func9, Try.ntmps9
  have F0 := trivial
  go_wp2_with (first
    | (go_at_call 35; clear F0; have C := New_l w 3; refine C.mono ?_; clear C; rintro e w1 ⟨p1, c1, rfl, h1, hb1⟩; have B1 := hb1; have F1 := trivial)
    | (go_at_call 18; clear F1; have C := Put_l _ _ _ w1 h1 0 1; refine C.mono ?_; clear C; rintro e w2 ⟨p2, c2, rfl, h2, hb2⟩; have B2 := Below.thru B1 hb2 (Nat.le_refl _); have F2 := trivial)
    | (go_at_call 18; clear F2; have C := Put_l _ _ _ w2 h2 1 2; refine C.mono ?_; clear C; rintro e w3 ⟨p3, c3, rfl, h3, hb3⟩; have B3 := Below.thru B2 hb3 (Nat.le_refl _); have F3 := trivial)
    | (go_at_call 22; clear F3; have C := Plus_l _ _ _ w3 h3; refine C.mono ?_; clear C; rintro e w4 ⟨p4, c4, rfl, h4, hb4⟩; have B4 := Below.thru B3 hb4 (Nat.le_refl _); have F4 := trivial)
    | (go_at_call 10; clear F4; have C := Has_any _ _ _ 0 2 w4 h4; rw [ex_has] at C; refine C.mono ?_; clear C; rintro e w5 ⟨rfl, hb5⟩; have B5 := Below.thru B4 hb5 (Nat.le_refl _); have F5 := trivial)
    | (go_at_call 12; clear F5; have C := Acyclic_l _ _ _ w5 ((h3.keep hb4).keep hb5); rw [ex_acy] at C; refine C.mono ?_; clear C; rintro e w6 ⟨rfl, hb6⟩; have B6 := Below.thru B5 hb6 (Nat.le_refl _); have F6 := trivial)
    | (go_at_call 18; clear F6; have C := Put_l _ _ _ w6 (((h3.keep hb4).keep hb5).keep hb6) 2 0; refine C.mono ?_; clear C; rintro e w7 ⟨p7, c7, rfl, h7, hb7⟩; have B7 := Below.thru B6 hb7 (Nat.le_refl _); have F7 := trivial)
    | (go_at_call 12; clear F7; have C := Acyclic_l _ _ _ w7 h7; rw [ex_cyc] at C; refine C.mono ?_; clear C; rintro e w8 ⟨rfl, hb8⟩; have B8 := Below.thru B7 hb8 (Nat.le_refl _); have F8 := trivial)
    | (go_at_call 15; clear F8; have C := Pairs_l _ _ _ w8 (((((h3.keep hb4).keep hb5).keep hb6).keep hb7).keep hb8); rw [ex_two] at C; refine C.mono ?_; clear C; rintro e w9 ⟨p9, c9, rfl, h9, hb9⟩; have B9 := Below.thru B8 hb9 (Nat.le_refl _); have F9 := trivial))
  go_ret
  exact ⟨rfl, B9⟩
end Go.Proofs.Ytjngpdamkdgkkaa
