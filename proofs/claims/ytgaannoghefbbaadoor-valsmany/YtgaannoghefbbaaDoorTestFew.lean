/- Contracts of cupolaref02.Few and of test.mayInit. -/
import Derived.Test.YtgaannoghefbbaaDoorTestPlain
import Derived.Test.YtgaannoghefbbaaDoorProg
namespace Go.Proofs.YtgaannoghefbbaaDoor
open Go.RowKit

theorem few_no1 {xs : List Int} {ts : List (List Ins)} (h : ¬ xs.length ≤ 10) : fewB xs ts = false := by unfold fewB; rw [decide_eq_false h]; rfl
theorem few_no2 {xs : List Int} {ts : List (List Ins)} (h : ¬ ts.length ≤ 10) : fewB xs ts = false := by unfold fewB; rw [decide_eq_false h]; simp

set_option maxHeartbeats 1000000 in
theorem Few_any (pi pt : Option Addr) (ci ct : Nat) (xs : List Int) (ts : List (List Ins)) (w : World) (ht : Sl ThrE w (.slice pt ts.length ct) ts) :
    Calls Tryd.prog 12 #[.agg #[.slice pi xs.length ci, .slice pt ts.length ct]] w fun e w' => e = .returned (.bool (fewB xs ts)) ∧ Below w.heap.size w w' := by
  by_cases h1 : xs.length ≤ 10
  · by_cases h2 : ts.length ≤ 10
    · have E : Hid (fewB xs ts = ts.all fun l => decide (l.length ≤ 40)) := by unfold Hid fewB; rw [decide_eq_true h1, decide_eq_true h2]; rfl
      have h1' : ((xs.length : Int)) ≤ 10 := by omega
      have h2' : ((ts.length : Int)) ≤ 10 := by omega
      go_enter Tryd.func12, Tryd.ntmps12
      go_wp2
      go_loopw [3] (fun i wr => ∃ k : Nat, k ≤ ts.length ∧ i = .int .i64 k ∧ fewB xs ts = (ts.drop k).all (fun l => decide (l.length ≤ 40)) ∧ wr = w.alloc (.cells #[.slice pi xs.length ci, .slice pt ts.length ct] 48)) (fun i _ => ts.length - (intOf i).toNat)
      case atStart => exact ⟨0, Nat.zero_le _, rfl, E.out, rfl⟩
      case round =>
        obtain ⟨k, hk, rfl, hF, rfl⟩ := hrel
        have HF : Hid _ := hF
        clear hF
        by_cases hlt : k < ts.length
        · obtain ⟨tb, to, rfl, u, hu, hU⟩ := (thr_at (ht.keep ((Below.refl _ _).alloc (Nat.le_refl _) (.cells #[.slice pi xs.length ci, .slice pt ts.length ct] 48)))).2 k hlt
          generalize hl : ts[k] = l at hU
          have HL : Hid (ts.drop k = l :: ts.drop (k + 1)) := by rw [← hl]; exact drop_at hlt
          clear hl
          obtain ⟨pu, cu, rfl⟩ := hU.len
          by_cases h40 : l.length ≤ 40
          · have h40' : ((l.length : Int)) ≤ 40 := by omega
            go_wp2
            go_roundw
            case rel => exact ⟨k + 1, by omega, by go_num, by have := HF.out; rw [HL.out, List.all_cons, decide_eq_true h40] at this; simpa using this, trivial⟩
            case measure => simp [intOf]; omega
          · have h40' : ¬ ((l.length : Int)) ≤ 40 := by omega
            go_wp2
            go_ret
            exact ⟨by have := HF.out; rw [HL.out, List.all_cons, decide_eq_false h40] at this; rw [this]; rfl, by go_grown⟩
        · go_wp2
          go_ret
          exact ⟨by have := HF.out; rw [List.drop_of_length_le (by omega)] at this; rw [this]; rfl, by go_grown⟩
    · have E : Hid _ := few_no2 (xs := xs) h2
      have h1' : ((xs.length : Int)) ≤ 10 := by omega
      have h2' : ¬ ((ts.length : Int)) ≤ 10 := by omega
      go_enter Tryd.func12, Tryd.ntmps12
      go_wp2
      go_ret
      exact ⟨by rw [E.out]; rfl, by go_grown⟩
  · have E : Hid _ := few_no1 (ts := ts) h1
    have h1' : ¬ ((xs.length : Int)) ≤ 10 := by omega
    go_enter Tryd.func12, Tryd.ntmps12
    go_wp2
    go_ret
    exact ⟨by rw [E.out]; rfl, by go_grown⟩

theorem num_all_step {n : Int} {xs : List Int} (h : numI n = true) : (n :: xs).all numI = xs.all numI := by simp [h]
theorem num_all_no {n : Int} {xs : List Int} (h : numI n = false) : (n :: xs).all numI = false := by simp [h]

set_option maxHeartbeats 1000000 in
theorem mayInit_any (pi : Option Addr) (ci : Nat) (xs : List Int) (w : World) (hi : Sl IntE w (.slice pi xs.length ci) xs) :
    Calls Tryd.prog 36 #[.slice pi xs.length ci] w fun e w' => e = .returned (.bool (initB xs)) ∧ w' = w := by
  by_cases h1 : 1 ≤ xs.length
  · by_cases h2 : xs.length ≤ 3
    · have E : Hid (initB xs = xs.all numI) := by unfold Hid initB; rw [decide_eq_true ⟨h1, h2⟩]; rfl
      have h1' : ¬ ((xs.length : Int)) < 1 := by omega
      have h2' : ((xs.length : Int)) ≤ 3 := by omega
      go_enter Tryd.func36, Tryd.ntmps36
      go_wp2
      go_loop [15] (fun i => ∃ k : Nat, k ≤ xs.length ∧ i = .int .i64 k ∧ initB xs = (xs.drop k).all numI) (fun i => xs.length - (intOf i).toNat)
      case atStart => exact ⟨0, Nat.zero_le _, rfl, E.out⟩
      case round =>
        obtain ⟨k, hk, rfl, hF⟩ := hrel
        have HF : Hid _ := hF
        clear hF
        by_cases hlt : k < xs.length
        · obtain ⟨tb, to, rfl, hu⟩ := (ints_at hi).2 k hlt
          generalize hl : xs[k] = n at hu
          have HL : Hid (xs.drop k = n :: xs.drop (k + 1)) := by rw [← hl]; exact drop_at hlt
          clear hl
          by_cases n1 : -1000 ≤ n
          · by_cases n2 : n ≤ 1000
            · have HN : Hid (numI n = true) := by unfold Hid numI; simp; omega
              go_wp2
              go_round
              case rel => exact ⟨k + 1, by omega, by go_num, by have := HF.out; rw [HL.out, num_all_step HN.out] at this; exact this⟩
              case measure => simp [intOf]; omega
            · have HN : Hid (numI n = false) := by unfold Hid numI; simp; omega
              go_wp2
              go_ret
              exact ⟨by have := HF.out; rw [HL.out, num_all_no HN.out] at this; rw [this]; rfl, rfl⟩
          · have HN : Hid (numI n = false) := by unfold Hid numI; simp; omega
            go_wp2
            go_ret
            exact ⟨by have := HF.out; rw [HL.out, num_all_no HN.out] at this; rw [this]; rfl, rfl⟩
        · go_wp2
          go_ret
          exact ⟨by have := HF.out; rw [List.drop_of_length_le (by omega)] at this; rw [this]; rfl, rfl⟩
    · have E : Hid (initB xs = false) := by unfold Hid initB; rw [decide_eq_false (by omega)]; rfl
      have h1' : ¬ ((xs.length : Int)) < 1 := by omega
      have h2' : ¬ ((xs.length : Int)) ≤ 3 := by omega
      go_enter Tryd.func36, Tryd.ntmps36
      go_wp2
      go_ret
      exact ⟨by rw [E.out]; rfl, rfl⟩
  · have E : Hid (initB xs = false) := by unfold Hid initB; rw [decide_eq_false (by omega)]; rfl
    have h1' : ((xs.length : Int)) < 1 := by omega
    go_enter Tryd.func36, Tryd.ntmps36
    go_wp2
    go_ret
    exact ⟨by rw [E.out]; rfl, rfl⟩
end Go.Proofs.YtgaannoghefbbaaDoor
