/- May a thread be? The program's answer, and the document's. -/
import Derived.Test.YtpmaifmokhnboaaGreatDoorFlowP
import Derived.Test.YtpmaifmokhnboaaGreatDoorInsMay
import Derived.Test.YtpmaifmokhnboaaGreatDoorInsRefMay
namespace Go.Proofs.YtpmaifmokhnboaaGreatDoor
open Go.RowKit

theorem mayF_yes {locs : Int} {l : List Ins} {k : Nat} {x : Ins} (hk : k < l.length) (h : l.drop k = x :: l.drop (k + 1)) (hm : mayB x.op x.d x.a x.b x.l x.i ((l.length : Int) - 1 - k) locs = true) : mayF locs (l.drop k) = mayF locs (l.drop (k + 1)) := by
  rw [h, mayF, List.length_drop, show ((l.length - (k + 1) : Nat) : Int) = (l.length : Int) - 1 - k from by omega, hm]; rfl
theorem mayF_no {locs : Int} {l : List Ins} {k : Nat} {x : Ins} (hk : k < l.length) (h : l.drop k = x :: l.drop (k + 1)) (hm : mayB x.op x.d x.a x.b x.l x.i ((l.length : Int) - 1 - k) locs = false) : mayF locs (l.drop k) = false := by
  rw [h, mayF, List.length_drop, show ((l.length - (k + 1) : Nat) : Int) = (l.length : Int) - 1 - k from by omega, hm]; rfl

set_option maxHeartbeats 2000000 in
theorem may_any (p : Option Addr) (c : Nat) (l : List Ins) (locs : Int) (w : World) (T : Tab w) (hl : Sl InsE w (.slice p l.length c) l) :
    Calls Tryz.prog 99 #[.slice p l.length c, .int .i64 locs] w fun e w' => e = .returned (.bool (mayT l locs)) ∧ Below w.heap.size w w' := by
  by_cases h1 : l.length ≤ 8
  · by_cases h2 : 1 ≤ locs
    · by_cases h3 : locs ≤ 3
      · have E : Hid (mayT l locs = mayF locs l) := by unfold Hid mayT; rw [decide_eq_true h1, decide_eq_true h2, decide_eq_true h3]; rfl
        have h1' : ((l.length : Int)) ≤ 8 := by omega
        go_enter Tryz.func99, Tryz.ntmps99
        go_wp2
        go_loopw [20] (fun i wr => ∃ k : Nat, k ≤ l.length ∧ i = .int .i64 k ∧ mayF locs (l.drop k) = mayF locs l ∧ Below w.heap.size w wr) (fun i _ => l.length - (intOf i).toNat)
        case atStart => exact ⟨0, Nat.zero_le _, rfl, rfl, by go_grown⟩
        case round =>
          obtain ⟨k, hk, rfl, hF, hB⟩ := hrel
          have HF : Hid _ := hF
          clear hF
          by_cases hlt : k < l.length
          · obtain ⟨ub, uo, rfl, e0, e1, e2, e3, e4, e5⟩ := (ins_at (hl.keep hB)).2 k hlt
            have Tr := T.below hB
            generalize hx : l[k] = x at e0 e1 e2 e3 e4 e5
            have HX : Hid (l.drop k = x :: l.drop (k + 1)) := by rw [← hx]; exact drop_at hlt
            clear hx
            cases hm : mayB x.op x.d x.a x.b x.l x.i ((l.length : Int) - 1 - k) locs
            · have HM : Hid _ := hm
              clear hm
              go_wp2_with (go_at_call 103; refine (May_any _ _ _ _ _ _ _ _ _ (Tr.alloc _)).mono ?_; rintro e w3 ⟨rfl, hb3⟩; rw [HM.out])
              go_returns
              exact ⟨by rw [E.out, ← HF.out, mayF_no hlt HX.out HM.out]; rfl, (hB.alloc hB.size _).trans (hb3.mono (by simp; exact Nat.le_succ_of_le hB.size))⟩
            · have HM : Hid _ := hm
              clear hm
              go_wp2_with (go_at_call 103; refine (May_any _ _ _ _ _ _ _ _ _ (Tr.alloc _)).mono ?_; rintro e w3 ⟨rfl, hb3⟩; rw [HM.out])
              go_roundw
              case rel => exact ⟨k + 1, by omega, by go_num, by rw [← mayF_yes hlt HX.out HM.out]; exact HF.out, (hB.alloc hB.size _).trans (hb3.mono (by simp; exact Nat.le_succ_of_le hB.size))⟩
              case measure => simp [intOf]; omega
          · go_wp2
            go_returns
            exact ⟨by have := HF.out; rw [List.drop_of_length_le (by omega), mayF] at this; rw [E.out, ← this]; rfl, hB⟩
      · have E : Hid (mayT l locs = false) := by unfold Hid mayT; rw [decide_eq_false h3]; simp
        have h1' : ((l.length : Int)) ≤ 8 := by omega
        go_enter Tryz.func99, Tryz.ntmps99
        go_wp2
        go_returns
        exact ⟨by rw [E.out]; rfl, by go_grown⟩
    · have E : Hid (mayT l locs = false) := by unfold Hid mayT; rw [decide_eq_false h2]; simp
      have h1' : ((l.length : Int)) ≤ 8 := by omega
      go_enter Tryz.func99, Tryz.ntmps99
      go_wp2
      go_returns
      exact ⟨by rw [E.out]; rfl, by go_grown⟩
  · have E : Hid (mayT l locs = false) := by unfold Hid mayT; rw [decide_eq_false h1]; simp
    have h1' : ¬ ((l.length : Int)) ≤ 8 := by omega
    go_enter Tryz.func99, Tryz.ntmps99
    go_wp2
    go_returns
    exact ⟨by rw [E.out]; rfl, by go_grown⟩

theorem behind_is (n k : Nat) : (n : Int) - k - 1 = (n : Int) - 1 - k := by omega
set_option maxHeartbeats 2000000 in
theorem refMayT_any (p : Option Addr) (c : Nat) (l : List Ins) (locs : Int) (w : World) (hl : Sl InsE w (.slice p l.length c) l) :
    Calls Tryz.prog 120 #[.slice p l.length c, .int .i64 locs] w fun e w' => e = .returned (.bool (mayT l locs)) ∧ Below w.heap.size w w' := by
  by_cases h1 : l.length ≤ 8
  · by_cases h2 : 1 ≤ locs
    · by_cases h3 : locs ≤ 3
      · have E : Hid (mayT l locs = mayF locs l) := by unfold Hid mayT; rw [decide_eq_true h1, decide_eq_true h2, decide_eq_true h3]; rfl
        have h1' : ((l.length : Int)) ≤ 8 := by omega
        go_enter Tryz.func120, Tryz.ntmps120
        go_wp2
        go_loopw [5] (fun i wr => ∃ k : Nat, k ≤ l.length ∧ i = .int .i64 k ∧ mayF locs (l.drop k) = mayF locs l ∧ Below w.heap.size w wr) (fun i _ => l.length - (intOf i).toNat)
        case atStart => exact ⟨0, Nat.zero_le _, rfl, rfl, by go_grown⟩
        case round =>
          obtain ⟨k, hk, rfl, hF, hB⟩ := hrel
          have HF : Hid _ := hF
          clear hF
          by_cases hlt : k < l.length
          · obtain ⟨ub, uo, rfl, e0, e1, e2, e3, e4, e5⟩ := (ins_at (hl.keep hB)).2 k hlt
            generalize hx : l[k] = x at e0 e1 e2 e3 e4 e5
            have HX : Hid (l.drop k = x :: l.drop (k + 1)) := by rw [← hx]; exact drop_at hlt
            clear hx
            cases hm : mayB x.op x.d x.a x.b x.l x.i ((l.length : Int) - 1 - k) locs
            · have HM : Hid _ := hm
              clear hm
              go_wp2_with (go_at_call 101; refine (refMay_any _ _ _ _ _ _ _ _ _).mono ?_; rintro e w3 ⟨rfl, hb3⟩; rw [behind_is, HM.out])
              go_returns
              exact ⟨by rw [E.out, ← HF.out, mayF_no hlt HX.out HM.out]; rfl, Below.thru hB hb3 (Nat.le_refl _)⟩
            · have HM : Hid _ := hm
              clear hm
              go_wp2_with (go_at_call 101; refine (refMay_any _ _ _ _ _ _ _ _ _).mono ?_; rintro e w3 ⟨rfl, hb3⟩; rw [behind_is, HM.out])
              go_roundw
              case rel => exact ⟨k + 1, by omega, by go_num, by rw [← mayF_yes hlt HX.out HM.out]; exact HF.out, Below.thru hB hb3 (Nat.le_refl _)⟩
              case measure => simp [intOf]; omega
          · go_wp2
            go_returns
            exact ⟨by have := HF.out; rw [List.drop_of_length_le (by omega), mayF] at this; rw [E.out, ← this]; rfl, hB⟩
      · have E : Hid (mayT l locs = false) := by unfold Hid mayT; rw [decide_eq_false h3]; simp
        have h1' : ((l.length : Int)) ≤ 8 := by omega
        go_enter Tryz.func120, Tryz.ntmps120
        go_wp2
        go_returns
        exact ⟨by rw [E.out]; rfl, by go_grown⟩
    · have E : Hid (mayT l locs = false) := by unfold Hid mayT; rw [decide_eq_false h2]; simp
      have h1' : ((l.length : Int)) ≤ 8 := by omega
      go_enter Tryz.func120, Tryz.ntmps120
      go_wp2
      go_returns
      exact ⟨by rw [E.out]; rfl, by go_grown⟩
  · have E : Hid (mayT l locs = false) := by unfold Hid mayT; rw [decide_eq_false h1]; simp
    have h1' : ¬ ((l.length : Int)) ≤ 8 := by omega
    go_enter Tryz.func120, Tryz.ntmps120
    go_wp2
    go_returns
    exact ⟨by rw [E.out]; rfl, by go_grown⟩
end Go.Proofs.YtpmaifmokhnboaaGreatDoor
