/- Contracts of cmp.Compare, and of cond's comparisons of lists. -/
import Derived.Test.YtdealgleehbhlaaDoorCondRep
import Derived.Test.YtdealgleehbhlaaDoorProg
namespace Go.Proofs.YtdealgleehbhlaaDoor
open Go.RowKit

def cmp3 (a b : Int) : Int := if a < b then -1 else if b < a then 1 else 0
theorem cmp3_range (a b : Int) : cmp3 a b = -1 ∨ cmp3 a b = 0 ∨ cmp3 a b = 1 := by
  unfold cmp3
  split
  · simp
  · split <;> simp

theorem cmpInt_any (x y : Int) (w : World) : Calls Tryd.prog 43 #[.int .i64 x, .int .i64 y] w fun e w' => e = .returned (.int .i64 (cmp3 x y)) ∧ w' = w := by
  unfold cmp3
  by_cases h1 : x < y
  · rw [if_pos h1]
    go_enter Tryd.func43, Tryd.ntmps43
    go_wp2
    go_ret
    exact ⟨rfl, rfl⟩
  · by_cases h2 : y < x
    · rw [if_neg h1, if_pos h2]
      go_enter Tryd.func43, Tryd.ntmps43
      go_wp2
      go_ret
      exact ⟨rfl, rfl⟩
    · rw [if_neg h1, if_neg h2]
      go_enter Tryd.func43, Tryd.ntmps43
      go_wp2
      go_ret
      exact ⟨rfl, rfl⟩
theorem cmpI64_any (x y : Int) (w : World) : Calls Tryd.prog 45 #[.int .i64 x, .int .i64 y] w fun e w' => e = .returned (.int .i64 (cmp3 x y)) ∧ w' = w := by
  unfold cmp3
  by_cases h1 : x < y
  · rw [if_pos h1]
    go_enter Tryd.func45, Tryd.ntmps45
    go_wp2
    go_ret
    exact ⟨rfl, rfl⟩
  · by_cases h2 : y < x
    · rw [if_neg h1, if_pos h2]
      go_enter Tryd.func45, Tryd.ntmps45
      go_wp2
      go_ret
      exact ⟨rfl, rfl⟩
    · rw [if_neg h1, if_neg h2]
      go_enter Tryd.func45, Tryd.ntmps45
      go_wp2
      go_ret
      exact ⟨rfl, rfl⟩

theorem cmpL_step {a b : List Int} {k : Nat} {x y : Int} {r s : List Int} (ha : a.drop k = x :: r) (hb : b.drop k = y :: s) : cmpL (a.drop k) (b.drop k) = if cmp3 x y ≠ 0 then cmp3 x y else cmpL r s := by
  rw [ha, hb, cmpL, cmp3]
  by_cases h1 : x < y
  · simp [h1]
  · by_cases h2 : y < x
    · simp [h1, h2]
    · simp [h1, h2]
theorem cmpL_end3 {a b : List Int} {k : Nat} (h : a.length ≤ k ∨ b.length ≤ k) (hk : k ≤ a.length ∧ k ≤ b.length) : cmpL (a.drop k) (b.drop k) = cmp3 a.length b.length := by
  rw [cmpL_ends h hk, cmp3]
  simp only [Int.ofNat_lt]

set_option maxHeartbeats 1000000 in
theorem cmpNums_any (p q : Option Addr) (c d : Nat) (xs ys : List Int) (w : World) (hx : Sl IntE w (.slice p xs.length c) xs) (hy : Sl IntE w (.slice q ys.length d) ys) (hL : xs.length ≤ 1000000000000000) :
    Calls Tryd.prog 44 #[.slice p xs.length c, .slice q ys.length d, .func (.func 45) #[] #[]] w fun e w' => e = .returned (.int .i64 (cmpL xs ys)) ∧ ∃ n, w' = w.drewN n := by
  go_enter Tryd.func44, Tryd.ntmps44
  go_wp2
  all_goals
    go_loopw [14] (fun i wr => ∃ k : Nat, (k ≤ xs.length ∧ k ≤ ys.length) ∧ i = .int .i64 k ∧ cmpL (xs.drop k) (ys.drop k) = cmpL xs ys ∧ ∃ n, wr = w.drewN n) (fun i _ => xs.length - (intOf i).toNat)
    case atStart => exact ⟨0, ⟨Nat.zero_le _, Nat.zero_le _⟩, rfl, rfl, 0, rfl⟩
    case round =>
      obtain ⟨k, hk, rfl, hF, nn, hn⟩ := hrel
      have HF : Hid _ := hF
      have hbr : Below w.heap.size w wr := by rw [hn]; exact below_drewN _ (Below.refl _ _)
      have HN : Hid _ := hn
      clear hF hn
      by_cases hlt : k < xs.length ∧ k < ys.length
      · obtain ⟨hlt, hltb⟩ := hlt
        obtain ⟨b1, o1, rfl, hu⟩ := (ints_at (hx.keep hbr)).2 k hlt
        obtain ⟨b2, o2, rfl, hv⟩ := (ints_at (hy.keep hbr)).2 k hltb
        generalize h1 : xs[k] = x at hu
        generalize h2 : ys[k] = y at hv
        have H1 : Hid (xs.drop k = x :: xs.drop (k + 1)) := by rw [← h1]; exact drop_at hlt
        have H2 : Hid (ys.drop k = y :: ys.drop (k + 1)) := by rw [← h2]; exact drop_at hltb
        clear h1 h2
        have hlt' : (k : Int) < (xs.length : Int) := by omega
        have hlt2 : (k : Int) < (ys.length : Int) := by omega
        obtain ⟨r, hr⟩ : ∃ r, cmp3 x y = r := ⟨_, rfl⟩
        have HR : Hid _ := hr
        have HC : Hid (∀ W, Calls Tryd.prog 45 #[.int .i64 x, .int .i64 y] W fun e w' => e = .returned (.int .i64 r) ∧ w' = W) := fun W => by rw [← hr]; exact cmpI64_any x y W
        clear hr
        go_wp2
        go_quiet (first | (go_at_call 45; exact Calls.quiet_of_same (HC.out _)))
        have hF := HF.out
        rw [cmpL_step H1.out H2.out, HR.out] at hF
        by_cases hr : r = 0
        · have hr' : (r != 0) = false := by simpa using hr
          rw [if_neg (by simpa using hr)] at hF
          have HF' : Hid _ := hF
          clear hF hr
          go_wp2
          go_roundw
          case rel => exact ⟨k + 1, ⟨by omega, by omega⟩, by go_num, HF'.out, nn + nq, by rw [HN.out, World.drewN_drewN]⟩
          case measure => simp [intOf]; omega
        · have hr' : (r != 0) = true := by simpa using hr
          rw [if_pos hr] at hF
          have HF' : Hid _ := hF
          clear hF hr
          go_wp2
          go_ret
          exact ⟨by rw [HF'.out]; rfl, nn + nq, by rw [HN.out, World.drewN_drewN]⟩
      · have HC : Hid (∀ W, Calls Tryd.prog 43 #[.int .i64 xs.length, .int .i64 ys.length] W fun e w' => e = .returned (.int .i64 (cmpL xs ys)) ∧ w' = W) := fun W => by
          rw [← HF.out, cmpL_end3 (by omega) hk]
          exact cmpInt_any _ _ W
        try (have h9 : ¬ ((k : Int) < (xs.length : Int)) := by omega)
        try (have h9 : ¬ ((k : Int) < (ys.length : Int)) := by omega)
        go_wp2_with (go_at_call 43; refine (HC.out _).mono ?_; rintro e w2 ⟨rfl, rfl⟩)
        go_ret
        exact ⟨rfl, nn, HN.out⟩
end Go.Proofs.YtdealgleehbhlaaDoor
