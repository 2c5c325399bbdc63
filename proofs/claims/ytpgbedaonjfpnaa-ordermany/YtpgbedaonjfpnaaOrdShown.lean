/- The contract of shown, at the head of the statements of layer 6: it answers true. -/
import Derived.Test.YtpgbedaonjfpnaaOrdOf
import Derived.Test.YtpgbedaonjfpnaaOrdFirst
namespace Go.Proofs.Ytpgbedaonjfpnaa
open Go.RowKit Go.Shelf

def exR : List Nat := putL (newL 3) 1 0
theorem exR_lin : linF (szR exR) (hasR exR) = [[1, 0, 2], [1, 2, 0], [2, 1, 0]] := by decide +kernel
theorem exR_linL : (linL exR).length = 3 := by decide +kernel
theorem exR_fits : fitsL (szR exR) (hasR exR) [1, 0, 2] = true := by decide +kernel

theorem sl_nat3 {w : World} {b x y z : Nat} (h : Blk w b #[.int .i64 (x : Int), .int .i64 (y : Int), .int .i64 (z : Int)] 3) : Sl NatE w (.slice (some ⟨b, 0, none⟩) 3 3) [x, y, z] := by
  refine ⟨_, 3, rfl, ⟨(fun e => by cases e), Nat.le_refl _⟩, fun _ => ⟨b, 0, rfl, trivial, fun i hi => ⟨[natV [x, y, z][i]], rfl, fun j u hu => ?_⟩⟩⟩
  match j, hu with
  | 0, hu =>
    simp only [List.getElem?_cons_zero, Option.some.injEq] at hu
    subst hu
    have := h.cell i
    simp only [Nat.mul_one, Nat.zero_add, Nat.add_zero, NatE]
    rw [this]
    match i, hi with
    | 0, _ => rfl
    | 1, _ => rfl
    | 2, _ => rfl
  | j + 1, hu => simp at hu

theorem FirT.cons {w w' : World} {x : List Nat} {t : List (List Nat)} {e : Ending} (h : FirT w (x :: t) e w') : ∃ p c, e = .returned (.tuple #[.slice p x.length c, .bool true]) ∧ SlA (fun b => w.heap.size ≤ b) NatE w' (.slice p x.length c) x ∧ Below w.heap.size w w' := by
  obtain ⟨v, b, rfl, h, hB⟩ := h
  rcases h with ⟨_, h, _⟩ | ⟨rfl, y, s, h, hs⟩
  · cases h
  · injection h with h1 _
    subst h1
    obtain ⟨p, c, rfl⟩ := hs.len
    exact ⟨p, c, rfl, hs, hB⟩
set_option maxHeartbeats 4000000 in
theorem shown6 (w : World) : Calls Try.prog 7 #[] w fun e w' => e = .returned (.bool true) ∧ Below w.heap.size w w' := by
  have C1 := New_l w 3
  have F1 := trivial
  obtain ⟨R, ER, E1, E2, E3⟩ : ∃ R, Hid (putL (newL 3) 1 0 = R) ∧ Hid (linF (szR R) (hasR R) = [[1, 0, 2], [1, 2, 0], [2, 1, 0]]) ∧ Hid ((linL R).length = 3) ∧ Hid (fitsL (szR R) (hasR R) [1, 0, 2] = true) := ⟨exR, rfl, exR_lin, exR_linL, exR_fits⟩
  have t3 : (((3 : Nat) : Int) == 3) = true := rfl
  go_enter Try.func7, Try.ntmps7
  go_wp2_with (first
    | (go_at_call 14; refine C1.mono ?_; clear C1; rintro e w1 ⟨p1, c1, rfl, hr1, hb1⟩; have C2 := Put_l p1 c1 (newL 3) w1 hr1 1 0; rw [ER.out] at C2; clear hr1)
    | (go_at_call 21; refine C2.mono ?_; clear C2; rintro e w2 ⟨p2, c2, rfl, hr2, hb2⟩; have C3 := First_any p2 c2 R w2 hr2; rw [E1.out] at C3)
    | (go_at_call 22; refine C3.mono ?_; clear C3; rintro e w3 hT3; obtain ⟨p3, c3, rfl, hs3, hb3⟩ := hT3.cons)
    | (go_at_call 11; refine (Ints_nat p3 _ c3 3 [1, 0, 2] [1, 0, 2] _ (hs3.keep ((Below.refl _ _).alloc (Nat.le_refl _) _)) (sl_nat3 (b := w3.heap.size) (x := 1) (y := 0) (z := 2) Blk.new) (by decide)).mono ?_; rintro e w4 ⟨rfl, hb4⟩; have hb34 := Below.thru ((Below.refl w3.heap.size w3).alloc (Nat.le_refl _) _) hb4 (Nat.le_refl _); have C5 := Linear_l p2 c2 R w4 ((hr2.keep hb3).keep hb34))
    | (go_at_call 8; refine C5.mono ?_; clear C5; rintro e w5 ⟨p5, c5, rfl, hs5, hb5⟩; have C6 := Fits_any p3 p2 c3 c2 [1, 0, 2] R w5 ((hs3.keep hb34).keep hb5).any (((hr2.keep hb3).keep hb34).keep hb5); rw [E3.out] at C6; simp only [E2.out])
    | (go_at_call 10; refine C6.mono ?_; clear C6; rintro e w6 ⟨rfl, hb6⟩))
  go_ret
  exact ⟨rfl, Below.thru (Below.thru (Below.thru (Below.thru (Below.thru hb1 hb2 (Nat.le_refl _)) hb3 (Nat.le_refl _)) hb34 (Nat.le_refl _)) hb5 (Nat.le_refl _)) hb6 (Nat.le_refl _)⟩
end Go.Proofs.Ytpgbedaonjfpnaa
