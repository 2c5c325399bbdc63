/- A place of memory: a sum modulo a number, without the sum. -/
import Derived.Test.YtkiefbldkidobaaDoorRegsRep
import Derived.Test.YtkiefbldkidobaaDoorInsCalls
namespace Go.Proofs.YtkiefbldkidobaaDoor
open Go.RowKit

theorem wrap_is {x : Int} (h : -9223372036854775808 ≤ x) (h' : x < 9223372036854775808) : wrap64 x = x := by unfold wrap64; omega
theorem tmod_neg {a m : Int} (hm : 0 < m) (h : a.tmod m < 0) : a.tmod m + m = a % m := by
  rw [Int.tmod_eq_emod] at *
  have := Int.emod_nonneg a (Int.ne_of_gt hm)
  split at h <;> split <;> omega
theorem tmod_pos {a m : Int} (hm : 0 < m) (h : 0 ≤ a.tmod m) : a.tmod m = a % m := by
  rw [Int.tmod_eq_emod] at *
  have := Int.emod_lt_of_pos a hm
  split at h <;> split <;> omega

theorem modulo_is (a m x : Int) (w : World) (hm : 0 < m) (hm' : m < 9223372036854775808) (hx : a % m = x) : Calls Tryd.prog 62 #[.int .i64 a, .int .i64 m] w fun e w' => e = .returned (.int .i64 x) ∧ w' = w := by
  have h0 : m ≠ 0 := by omega
  have l1 := Int.emod_nonneg a h0
  have l2 := Int.emod_lt_of_pos a hm
  subst hx
  by_cases h : a.tmod m < 0
  · have e := tmod_neg hm h
    have e2 : wrap64 (a.tmod m + m) = a % m := by rw [e]; exact wrap_is (by omega) (by omega)
    go_enter Tryd.func62, Tryd.ntmps62
    go_wp2
    go_ret
    exact ⟨rfl, rfl⟩
  · have e := tmod_pos (a := a) hm (by omega)
    rw [← e]
    clear e l1 l2
    go_enter Tryd.func62, Tryd.ntmps62
    go_wp2
    go_ret
    exact ⟨rfl, rfl⟩

theorem sum_mod {a b m x y : Int} (hx : a % m = x) (hy : b % m = y) : (a + b) % m = (x + y) % m := by subst hx hy; rw [← Int.add_emod]
theorem sumModulo_any (a b m : Int) (w : World) (hm : 0 < m) (hm' : m < 9223372036854775808) : Calls Tryd.prog 57 #[.int .i64 a, .int .i64 b, .int .i64 m] w fun e w' => e = .returned (.int .i64 ((a + b) % m)) ∧ w' = w := by
  have h0 : m ≠ 0 := by omega
  obtain ⟨x, hx⟩ : ∃ x, a % m = x := ⟨_, rfl⟩
  obtain ⟨y, hy⟩ : ∃ y, b % m = y := ⟨_, rfl⟩
  have X : 0 ≤ x ∧ x < m := by subst hx; exact ⟨Int.emod_nonneg a h0, Int.emod_lt_of_pos a hm⟩
  have Y : 0 ≤ y ∧ y < m := by subst hy; exact ⟨Int.emod_nonneg b h0, Int.emod_lt_of_pos b hm⟩
  have hs : (a + b) % m = (x + y) % m := sum_mod hx hy
  rw [hs]
  clear hs
  have HX : Hid _ := hx
  have HY : Hid _ := hy
  clear hx hy
  have w1 : wrap64 (m - y) = m - y := wrap_is (by omega) (by omega)
  by_cases hc : m - y ≤ x
  · have w2 : (x + y) % m = x - (m - y) := by
      have : (x + y) % m = (x + y - m) % m := by simp
      rw [this, Int.emod_eq_of_lt (by omega) (by omega)]
      omega
    rw [w2]
    clear w2
    have F1 := trivial
    go_enter Tryd.func57, Tryd.ntmps57
    go_wp2_with (first | (go_at_call 62; clear F1; refine (modulo_is _ _ _ _ hm hm' HX.out).mono ?_; rintro e w' ⟨rfl, rfl⟩; have F2 := trivial) | (go_at_call 62; clear F2; refine (modulo_is _ _ _ _ hm hm' HY.out).mono ?_; rintro e w' ⟨rfl, rfl⟩))
    go_ret
    exact ⟨rfl, rfl⟩
  · have w2 : (x + y) % m = x + y := Int.emod_eq_of_lt (by omega) (by omega)
    rw [w2]
    clear w2
    have F1 := trivial
    go_enter Tryd.func57, Tryd.ntmps57
    go_wp2_with (first | (go_at_call 62; clear F1; refine (modulo_is _ _ _ _ hm hm' HX.out).mono ?_; rintro e w' ⟨rfl, rfl⟩; have F2 := trivial) | (go_at_call 62; clear F2; refine (modulo_is _ _ _ _ hm hm' HY.out).mono ?_; rintro e w' ⟨rfl, rfl⟩))
    go_ret
    exact ⟨rfl, rfl⟩

theorem Kind_eq (op d a b l i k : Int) (w : World) (T : Tab w) (h : kindZ op = k) :
    Calls Tryd.prog 56 #[.agg #[.int .i64 op, .int .i64 d, .int .i64 a, .int .i64 b, .int .i64 l, .int .i64 i]] w fun e w' => e = .returned (.int .i64 k) ∧ Below w.heap.size w w' := by
  subst h; exact Kind_any op d a b l i w T

/-- A load's, or a store's, place. -/
def placeZ (v : Nat → Int) (op a l locs : Int) : Int := if kindZ op = 0 ∨ locs < 1 then 0 else (l + atR v a) % locs
def placeD (d : Nat → Int) (op a locs : Int) : Int := if kindZ op = 0 ∨ locs < 1 then 0 else atR d a

set_option maxHeartbeats 2000000 in
theorem Place_any (v d : Nat → Int) (op xd a b l i locs : Int) (w : World) (T : Tab w) (hm' : locs < 9223372036854775808) : Calls Tryd.prog 49 #[fileV v d, .agg #[.int .i64 op, .int .i64 xd, .int .i64 a, .int .i64 b, .int .i64 l, .int .i64 i], .int .i64 locs] w fun e w' =>
    e = .returned (.tuple #[.int .i64 (placeZ v op a l locs), .int .u32 (placeD d op a locs)]) ∧ Below w.heap.size w w' := by
  obtain ⟨k, hk⟩ : ∃ k, kindZ op = k := ⟨_, rfl⟩
  by_cases h0 : k = 0
  · rw [show placeZ v op a l locs = 0 from if_pos (.inl (hk.trans h0)), show placeD d op a locs = 0 from if_pos (.inl (hk.trans h0))]
    subst h0
    unfold fileV
    have HK : Hid _ := hk
    clear hk
    go_enter Tryd.func49, Tryd.ntmps49
    go_wp2_with (go_at_call 56; refine (Kind_eq _ _ _ _ _ _ _ _ ((T.alloc _).alloc _) HK.out).mono ?_; rintro e w1 ⟨rfl, hb⟩)
    go_returns
    exact ⟨rfl, (((Below.refl _ _).alloc (Nat.le_refl _) _).alloc (by simp) _).trans (hb.mono (by simp; omega))⟩
  · have hk0 : ¬ kindZ op = 0 := fun h => h0 (hk.symm.trans h)
    have hkb : (k == 0) = false := by simpa using h0
    have HK : Hid _ := hk
    clear hk
    by_cases hl : locs < 1
    · rw [show placeZ v op a l locs = 0 from if_pos (.inr hl), show placeD d op a locs = 0 from if_pos (.inr hl)]
      clear hk0
      unfold fileV
      go_enter Tryd.func49, Tryd.ntmps49
      go_wp2_with (go_at_call 56; refine (Kind_eq _ _ _ _ _ _ _ _ ((T.alloc _).alloc _) HK.out).mono ?_; rintro e w1 ⟨rfl, hb⟩)
      go_returns
      exact ⟨rfl, (((Below.refl _ _).alloc (Nat.le_refl _) _).alloc (by simp) _).trans (hb.mono (by simp; omega))⟩
    · rw [show placeZ v op a l locs = (l + atR v a) % locs from if_neg (by omega), show placeD d op a locs = atR d a from if_neg (by omega)]
      clear hk0
      have hm : 0 < locs := by omega
      have hG := fun w => Get_any v d a w
      unfold fileV at hG ⊢
      have HG : Hid _ := hG
      clear hG
      go_enter Tryd.func49, Tryd.ntmps49
      go_wp2_with fail
      refine (Kind_eq _ _ _ _ _ _ _ _ ((T.alloc _).alloc _) HK.out).mono ?_
      rintro e w1 ⟨rfl, hb⟩
      obtain ⟨hc, hf⟩ := bcell hb
      have B1 : Below w.heap.size w w1 := (((Below.refl _ _).alloc (Nat.le_refl _) _).alloc (by simp) _).trans (hb.mono (by simp; omega))
      have hz1 : w.heap.size + 1 < w1.heap.size := by have := hb.size; simp at this; omega
      go_wp2_with fail
      refine (HG.out _).mono ?_
      rintro e w2 ⟨rfl, hb2⟩
      obtain ⟨hc2, hf2⟩ := bcell hb2
      have B2 : Below w.heap.size w w2 := Below.thru B1 hb2 (Nat.le_refl _)
      have hz2 : w.heap.size + 1 < w2.heap.size := by have := hb2.size; omega
      go_wp2_with (go_at_call 57; refine (sumModulo_any _ _ _ _ hm hm').mono ?_; rintro e w' ⟨rfl, rfl⟩)
      go_returns
      exact ⟨rfl, B2⟩
end Go.Proofs.YtkiefbldkidobaaDoor
