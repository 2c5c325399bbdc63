/- Contracts of cupolaref02.Few and of test.mayInit. -/
import Derived.Test.YtjmcplbhjihepaaDoorTestPlain
import Derived.Test.YtjmcplbhjihepaaDoorProg
namespace Go.Proofs.YtjmcplbhjihepaaDoor
open Go.RowKit

theorem few_no1 {xs : List Int} {ts : List (List Ins)} (h : ¬ xs.length ≤ 10) : fewB xs ts = false := by unfold fewB; rw [decide_eq_false h]; rfl
theorem few_no2 {xs : List Int} {ts : List (List Ins)} (h : ¬ ts.length ≤ 10) : fewB xs ts = false := by unfold fewB; rw [decide_eq_false h]; simp

theorem num_all_step {n : Int} {xs : List Int} (h : numB n = true) : (n :: xs).all numB = xs.all numB := by simp [h]
theorem num_all_no {n : Int} {xs : List Int} (h : numB n = false) : (n :: xs).all numB = false := by simp [h]

set_option maxHeartbeats 1000000 in
theorem mayInit_any (pi : Option Addr) (ci : Nat) (xs : List Int) (w : World) (hi : Sl IntE w (.slice pi xs.length ci) xs) :
    Calls Tryd.prog 39 #[.slice pi xs.length ci] w fun e w' => e = .returned (.bool (initB xs)) ∧ w' = w := by
  by_cases h1 : 1 ≤ xs.length
  · by_cases h2 : xs.length ≤ 3
    · have E : Hid (initB xs = xs.all numB) := by unfold Hid initB; rw [decide_eq_true ⟨h1, h2⟩]; rfl
      have h1' : ¬ ((xs.length : Int)) < 1 := by omega
      have h2' : ((xs.length : Int)) ≤ 3 := by omega
      go_enter Tryd.func39, Tryd.ntmps39
      go_wp2
      go_loop [15] (fun i => ∃ k : Nat, k ≤ xs.length ∧ i = .int .i64 k ∧ initB xs = (xs.drop k).all numB) (fun i => xs.length - (intOf i).toNat)
      case atStart => exact ⟨0, Nat.zero_le _, rfl, E.out⟩
      case round =>
        obtain ⟨k, hk, rfl, hF⟩ := hrel
        have HF : Hid _ := hF
        clear hF
        by_cases hlt : k < xs.length
        · obtain ⟨tb, to, rfl, hu⟩ := (ints_at hi).2 k hlt
          generalize hl : xs[k] = n at hu
          have HL : Hid (xs.drop k = n :: xs.drop (k + 1)) := by rw [← hl]; exact drop_at hlt
          clear hl
          by_cases n1 : -1000 ≤ n
          · by_cases n2 : n ≤ 1000
            · have HN : Hid (numB n = true) := by unfold Hid numB; simp; omega
              go_wp2
              go_round
              case rel => exact ⟨k + 1, by omega, by go_num, by have := HF.out; rw [HL.out, num_all_step HN.out] at this; exact this⟩
              case measure => simp [intOf]; omega
            · have HN : Hid (numB n = false) := by unfold Hid numB; simp; omega
              go_wp2
              go_ret
              exact ⟨by have := HF.out; rw [HL.out, num_all_no HN.out] at this; rw [this]; rfl, rfl⟩
          · have HN : Hid (numB n = false) := by unfold Hid numB; simp; omega
            go_wp2
            go_ret
            exact ⟨by have := HF.out; rw [HL.out, num_all_no HN.out] at this; rw [this]; rfl, rfl⟩
        · go_wp2
          go_ret
          exact ⟨by have := HF.out; rw [List.drop_of_length_le (by omega)] at this; rw [this]; rfl, rfl⟩
    · have E : Hid (initB xs = false) := by unfold Hid initB; rw [decide_eq_false (by omega)]; rfl
      have h1' : ¬ ((xs.length : Int)) < 1 := by omega
      have h2' : ¬ ((xs.length : Int)) ≤ 3 := by omega
      go_enter Tryd.func39, Tryd.ntmps39
      go_wp2
      go_ret
      exact ⟨by rw [E.out]; rfl, rfl⟩
  · have E : Hid (initB xs = false) := by unfold Hid initB; rw [decide_eq_false (by omega)]; rfl
    have h1' : ((xs.length : Int)) < 1 := by omega
    go_enter Tryd.func39, Tryd.ntmps39
    go_wp2
    go_ret
    exact ⟨by rw [E.out]; rfl, rfl⟩
end Go.Proofs.YtjmcplbhjihepaaDoor
