/- The document's place of memory. -/
import Derived.Test.YtkiefbldkidobaaDoorFlowRef7
namespace Go.Proofs.YtkiefbldkidobaaDoor
open Go.RowKit

theorem tmod_bd {m : Int} (hm : 0 < m) (a : Int) : -m ≤ a.tmod m ∧ a.tmod m < m := by
  have h1 := Int.emod_nonneg a (Int.ne_of_gt hm)
  have h2 := Int.emod_lt_of_pos a hm
  by_cases h : a.tmod m < 0
  · have := tmod_neg hm h; omega
  · have := tmod_pos (a := a) hm (by omega); omega
theorem tmod_key {m : Int} (hm : 0 < m) (a : Int) : a.tmod m % m = a % m := by
  by_cases h : a.tmod m < 0
  · have := tmod_neg hm h
    rw [show a.tmod m = a % m - m by omega, Int.sub_emod_right, Int.emod_emod_of_dvd _ (Int.dvd_refl m)]
  · rw [tmod_pos (a := a) hm (by omega), Int.emod_emod_of_dvd _ (Int.dvd_refl m)]
theorem place_is {l n m : Int} (hm : 0 < m) : ((l.tmod m + n.tmod m).tmod m + m) % m = (l + n) % m := by
  rw [Int.add_emod_right, tmod_key hm, Int.add_emod, tmod_key hm, tmod_key hm, ← Int.add_emod]

theorem rKind_eq (op d a b l i k : Int) (w : World) (h : kindZ op = k) :
    Calls Tryd.prog 36 #[.agg #[.int .i64 op, .int .i64 d, .int .i64 a, .int .i64 b, .int .i64 l, .int .i64 i]] w fun e w' => e = .returned (.int .i64 k) ∧ Below w.heap.size w w' := by
  subst h; exact refKind_any op d a b l i w

set_option maxHeartbeats 4000000 in
theorem rPlace_any (v d : Nat → Int) (op xd a b l i locs : Int) (w : World) (h1 : 1 ≤ locs) (h3 : locs ≤ 1000) : Calls Tryd.prog 20 #[fileV v d, .agg #[.int .i64 op, .int .i64 xd, .int .i64 a, .int .i64 b, .int .i64 l, .int .i64 i], .int .i64 locs] w fun e w' =>
    e = .returned (.tuple #[.int .i64 (placeZ v op a l locs), .int .u32 (placeD d op a locs)]) ∧ Below w.heap.size w w' := by
  obtain ⟨k, hk⟩ : ∃ k, kindZ op = k := ⟨_, rfl⟩
  have hl0 : locs ≠ 0 := by omega
  by_cases h0 : k = 0
  · rw [show placeZ v op a l locs = 0 from if_pos (.inl (hk.trans h0)), show placeD d op a locs = 0 from if_pos (.inl (hk.trans h0))]
    subst h0
    unfold fileV
    have HK : Hid _ := hk
    clear hk
    go_enter Tryd.func20, Tryd.ntmps20
    go_wp2_with (go_at_call 36; refine (rKind_eq _ _ _ _ _ _ _ _ HK.out).mono ?_; rintro e w1 ⟨rfl, hb⟩)
    go_returns
    exact ⟨rfl, (((Below.refl _ _).alloc (Nat.le_refl _) _).alloc (by simp) _).trans (hb.mono (by simp; omega))⟩
  · have hk0 : ¬ kindZ op = 0 := fun h => h0 (hk.symm.trans h)
    have hkb : (k == 0) = false := by simpa using h0
    have HK : Hid _ := hk
    clear hk
    have hm : 0 < locs := by omega
    rw [show placeZ v op a l locs = (l + atR v a) % locs from if_neg (by omega), show placeD d op a locs = atR d a from if_neg (by omega), ← place_is (l := l) (n := atR v a) hm]
    clear hk0 h0
    have hG := fun w => rGet_any v d a w
    unfold fileV at hG ⊢
    have HG : Hid _ := hG
    clear hG
    have b1 := tmod_bd hm l
    have b2 := tmod_bd hm (atR v a)
    have b3 := tmod_bd hm (l.tmod locs + (atR v a).tmod locs)
    have hw1 : wrap64 (l.tmod locs + (atR v a).tmod locs) = l.tmod locs + (atR v a).tmod locs := wrap_is (by omega) (by omega)
    have hw2 : wrap64 ((l.tmod locs + (atR v a).tmod locs).tmod locs + locs) = (l.tmod locs + (atR v a).tmod locs).tmod locs + locs := wrap_is (by omega) (by omega)
    go_enter Tryd.func20, Tryd.ntmps20
    go_wp2_with fail
    refine (rKind_eq _ _ _ _ _ _ _ _ HK.out).mono ?_
    rintro e w1 ⟨rfl, hb⟩
    obtain ⟨hc, hf⟩ := bcell hb
    have B1 : Below w.heap.size w w1 := (((Below.refl _ _).alloc (Nat.le_refl _) _).alloc (by simp) _).trans (hb.mono (by simp; omega))
    have hz1 : w.heap.size + 1 < w1.heap.size := by have := hb.size; simp at this; omega
    go_wp2_with fail
    refine (HG.out _).mono ?_
    rintro e w2 ⟨rfl, hb2⟩
    obtain ⟨hc2, hf2⟩ := bcell hb2
    have B2 : Below w.heap.size w w2 := Below.thru B1 hb2 (Nat.le_refl _)
    have hz2 : w.heap.size + 1 < w2.heap.size := by have := hb2.size; omega
    go_wp2
    go_returns
    exact ⟨rfl, B2⟩

theorem pow2_small {k : Nat} (h : k < 32) : (2 : Int) ^ k % 4294967296 = 2 ^ k := by
  have e : (2 : Int) ^ k = ((2 ^ k : Nat) : Int) := by simp
  have l : 2 ^ k < 2 ^ 32 := Nat.pow_lt_pow_right (by decide) h
  rw [e]
  exact Int.emod_eq_of_lt (Int.natCast_nonneg _) (Int.lt_of_lt_of_le (Int.ofNat_lt.2 l) (by decide))
/-- Two, so often. -/
theorem rpower_any (k : Nat) (w : World) (hk : k < 31) : Calls Tryd.prog 25 #[.int .i64 k] w fun e w' => e = .returned (.int .u32 (2 ^ k)) ∧ Below w.heap.size w w' := by
  go_enter Tryd.func25, Tryd.ntmps25
  go_wp2
  go_loopw [3, 4] (fun x i wr => ∃ j : Nat, j ≤ k ∧ i = .int .i64 j ∧ x = .int .u32 (2 ^ j) ∧ Below w.heap.size w wr) (fun _ i _ => k - (intOf i).toNat)
  case atStart => exact ⟨0, Nat.zero_le _, rfl, rfl, by go_grown⟩
  case round =>
    obtain ⟨j, hj, rfl, rfl, hB⟩ := hrel
    by_cases hlt : j < k
    · have hp : (2 * (2 : Int) ^ j) % 4294967296 = 2 ^ (j + 1) := by rw [← Int.pow_succ']; exact pow2_small (by omega)
      go_wp2
      go_roundw
      case rel => exact ⟨j + 1, by omega, by go_num, by rw [Int.pow_succ'], hB⟩
      case measure => simp [intOf]; omega
    · obtain rfl : j = k := by omega
      go_wp2
      go_returns
      exact ⟨rfl, hB⟩
theorem rfence_any (op d a b l i : Int) (w : World) (h : op = 12 ∨ (op ≠ 12 ∧ 0 ≤ i ∧ i ≤ 2)) : Calls Tryd.prog 26 #[.agg #[.int .i64 op, .int .i64 d, .int .i64 a, .int .i64 b, .int .i64 l, .int .i64 i]] w fun e w' => e = .returned (.int .i64 (if op = 12 then 6 else 3 + i)) ∧ Below w.heap.size w w' := by
  rcases h with h | ⟨h, h2, h3⟩
  · subst h
    go_enter Tryd.func26, Tryd.ntmps26
    go_wp2
    go_returns
    exact ⟨rfl, by go_grown⟩
  · rw [if_neg h]
    have hb : (op == 12) = false := by simpa using h
    have hw : wrap64 (3 + i) = 3 + i := wrap_is (by omega) (by omega)
    clear h
    go_enter Tryd.func26, Tryd.ntmps26
    go_wp2
    go_returns
    exact ⟨rfl, by go_grown⟩
end Go.Proofs.YtkiefbldkidobaaDoor
