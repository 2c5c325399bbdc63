/- InsMay, InsRef, InsRefMay, FlowMay, FlowRun: what is used of them. -/
import Derived.Test.YtcalinfdckklfaaGreatDoorPk2
import Derived.Test.YtcalinfdckklfaaGreatDoorPk5
import Derived.Test.YtcalinfdckklfaaGreatDoorPk20
namespace Go.Proofs.YtcalinfdckklfaaGreatDoor
open Go.RowKit

set_option maxHeartbeats 400000 in
theorem fits_any (a b c : Bool) (w : World) :
    Calls Tryz.prog 113 #[.bool a, .bool b, .bool c] w fun e w' => e = .returned (.bool (bif a then b else c)) ∧ w' = w := by
  cases a
  all_goals
    go_enter Tryz.func113, Tryz.ntmps113
    go_wp2
    go_ret
    exact ⟨rfl, rfl⟩
theorem fits_is (a b c r : Bool) (w : World) (h : (bif a then b else c) = r) :
    Calls Tryz.prog 113 #[.bool a, .bool b, .bool c] w fun e w' => e = .returned (.bool r) ∧ w' = w := by
  subst h; exact fits_any a b c w
set_option maxHeartbeats 400000 in
theorem isRegister_any (n : Int) (w : World) :
    Calls Tryz.prog 115 #[.int .i64 n] w fun e w' => e = .returned (.bool (regB n)) ∧ w' = w := by
  by_cases h : 0 ≤ n
  all_goals
    go_enter Tryz.func115, Tryz.ntmps115
    go_wp2
    go_ret
    exact ⟨by simp [regB, h] <;> omega, rfl⟩
set_option maxHeartbeats 400000 in
theorem mayBase_any (op x : Int) (w : World) :
    Calls Tryz.prog 116 #[.agg #[.string (nameS op), .int .i64 (kindZ op), .int .i64 (fieldsZ op)], .int .i64 x] w fun e w' => e = .returned (.bool (baseB op x)) ∧ Below w.heap.size w w' := by
  cases h : regB x
  · by_cases hk : kindZ op = 0
    all_goals
      have HH : Hid (baseB op x = (kindZ op != 0 && (x == -1))) := by unfold Hid baseB; rw [h]; simp
      go_enter Tryz.func116, Tryz.ntmps116
      go_wp2_with (go_at_call 115; refine (isRegister_any _ _).mono ?_; rintro e w' ⟨rfl, rfl⟩)
      go_ret
      exact ⟨by rw [HH.out]; simp [hk], by go_grown⟩
  · have HH : Hid (baseB op x = true) := by unfold Hid baseB; rw [h]; simp
    go_enter Tryz.func116, Tryz.ntmps116
    go_wp2_with (go_at_call 115; refine (isRegister_any _ _).mono ?_; rintro e w' ⟨rfl, rfl⟩)
    go_ret
    exact ⟨by rw [HH.out]; rfl, by go_grown⟩
set_option maxHeartbeats 400000 in
theorem mayImm_any (op d a b l i behind : Int) (w : World) :
    Calls Tryz.prog 117 #[.agg #[.int .i64 op, .int .i64 d, .int .i64 a, .int .i64 b, .int .i64 l, .int .i64 i], .int .i64 behind] w fun e w' => e = .returned (.bool (immB op i behind)) ∧ Below w.heap.size w w' := by
  by_cases h1 : op = 1
  · subst h1
    by_cases h : -1000 ≤ i
    all_goals
      go_enter Tryz.func117, Tryz.ntmps117
      go_wp2
      go_ret
      exact ⟨by simp [immB, h] <;> omega, by go_grown⟩
  · by_cases h11 : op = 11
    · subst h11
      by_cases h : 0 ≤ i
      all_goals
        go_enter Tryz.func117, Tryz.ntmps117
        go_wp2
        go_ret
        exact ⟨by simp [immB, h] <;> omega, by go_grown⟩
    · by_cases h : 0 ≤ i
      all_goals
        go_enter Tryz.func117, Tryz.ntmps117
        go_wp2
        go_ret
        exact ⟨by simp [immB, h, h1, h11] <;> omega, by go_grown⟩

theorem name_empty (op : Int) : (nameS op).toList.isEmpty = !decide (1 ≤ op ∧ op ≤ 14) := by
  rcases op_cases op with h | h | h | h | h | h | h | h | h | h | h | h | h | h | h
  · have e : nameS op = ⟨#[]⟩ := by unfold nameS; repeat rw [if_neg (by omega)]
    rw [e, decide_eq_false (by omega)]; decide +kernel
  all_goals subst h; decide +kernel

attribute [local go_sem] Ext.cell Ext.frozen

set_option maxHeartbeats 400000 in
theorem May_none (op d a b l i behind locs : Int) (w : World) (T : Tab w) (h : decide (1 ≤ op ∧ op ≤ 14) = false) :
    Calls Tryz.prog 88 #[.agg #[.int .i64 op, .int .i64 d, .int .i64 a, .int .i64 b, .int .i64 l, .int .i64 i], .int .i64 behind, .int .i64 locs] w fun e w' => e = .returned (.bool false) ∧ Below w.heap.size w w' := by
  have hn : (nameS op).toList.isEmpty = true := by rw [name_empty, h]; rfl
  go_enter Tryz.func88, Tryz.ntmps88
  go_wp2_with fail
  refine (shapeOf_any _ _ (T.alloc _)).mono ?_
  rintro e w1 ⟨rfl, hb⟩
  obtain ⟨hc, hf⟩ := bcell hb
  go_wp2
  go_ret
  exact ⟨rfl, ((((Below.refl _ _).alloc (Nat.le_refl _) _).trans (hb.mono (by simp))).alloc (by have := hb.size; simp at this; omega) _)⟩

set_option maxHeartbeats 2000000 in
theorem May_some (op d a b l i behind locs : Int) (w : World) (T : Tab w) (h : decide (1 ≤ op ∧ op ≤ 14) = true) (r : Bool)
    (HS : (m1B op d = false ∧ r = false) ∨ (m1B op d = true ∧ m2B op a = false ∧ r = false) ∨ (m1B op d = true ∧ m2B op a = true ∧ m3B op b = false ∧ r = false) ∨
      (0 ≤ l ∧ m1B op d = true ∧ m2B op a = true ∧ m3B op b = true ∧ m4B op l locs = false ∧ r = false) ∨ (0 ≤ l ∧ m1B op d = true ∧ m2B op a = true ∧ m3B op b = true ∧ m4B op l locs = true ∧ m5B op i behind = false ∧ r = false) ∨
      (0 ≤ l ∧ m1B op d = true ∧ m2B op a = true ∧ m3B op b = true ∧ m4B op l locs = true ∧ m5B op i behind = true ∧ r = true) ∨
      (l < 0 ∧ m1B op d = true ∧ m2B op a = true ∧ m3B op b = true ∧ r = false)) :
    Calls Tryz.prog 88 #[.agg #[.int .i64 op, .int .i64 d, .int .i64 a, .int .i64 b, .int .i64 l, .int .i64 i], .int .i64 behind, .int .i64 locs] w fun e w' => e = .returned (.bool r) ∧ Below w.heap.size w w' := by
  have hn : (nameS op).toList.isEmpty = false := by rw [name_empty, h]; rfl
  have hD : Hid _ := bit_D op
  have hA : Hid _ := bit_A op
  have hB : Hid _ := bit_B op
  have hL : Hid _ := bit_L op
  have hI : Hid _ := bit_I op
  have e4 : 0 ≤ l → Hid (m4B op l locs = bif hasLB op then decide (l < locs) else (l == 0)) := fun hl => by unfold Hid m4B; rw [decide_eq_true hl]; simp
  have E4 : Hid _ := e4
  clear e4
  rcases HS with ⟨h1, rfl⟩ | ⟨h1, h2, rfl⟩ | ⟨h1, h2, h3, rfl⟩ | ⟨hl, h1, h2, h3, h4, rfl⟩ | ⟨hl, h1, h2, h3, h4, h5, rfl⟩ | ⟨hl, h1, h2, h3, h4, h5, rfl⟩ | ⟨hl, h1, h2, h3, rfl⟩
  all_goals
    have H1 : Hid ((bif hasDB op then regB d else (d == 0)) = _) := h1
    clear h1
    try (have H2 : Hid ((bif hasAB op then baseB op a else (a == 0)) = _) := h2; clear h2)
    try (have H3 : Hid ((bif hasBB op then regB b else (b == 0)) = _) := h3; clear h3)
    try (have H4 : Hid ((bif hasLB op then decide (l < locs) else (l == 0)) = _) := (E4.out hl).out.symm.trans h4; clear h4)
    try (have hdl : decide (0 ≤ l) = false := decide_eq_false (by omega))
    try (have H6 : Hid ((bif hasLB op then false else false) = false) := by unfold Hid; cases hasLB op <;> rfl)
    try (have H7 : Hid ((bif hasLB op then false else (l == 0)) = false) := by unfold Hid; rw [show (l == 0) = false from by simp; omega]; cases hasLB op <;> rfl)
    try (have H5 : Hid ((bif hasIB op then immB op i behind else (i == 0)) = _) := h5; clear h5)
    clear E4
    go_enter Tryz.func88, Tryz.ntmps88
    go_wp2_with fail
    refine (shapeOf_any _ _ (T.alloc _)).mono ?_
    rintro e w1 ⟨rfl, hb⟩
    obtain ⟨hc, hf⟩ := bcell hb
    have hz : w.heap.size < w1.heap.size := by have := hb.size; simp at this; omega
    go_wp2
    have hne : ∀ w, Nonempty (Ext w) := ext_some
    refine wp_region_ext (by kernel_rfl) (by kernel_rfl) ?_
    repeat (go_big_quiet_step (first
      | (go_at_call 114; first | (with_reducible exact calls_ext (has_is _ _ _ _ _ _ hD.out)) | (with_reducible exact calls_ext (has_is _ _ _ _ _ _ hA.out)) | (with_reducible exact calls_ext (has_is _ _ _ _ _ _ hB.out)) | (with_reducible exact calls_ext (has_is _ _ _ _ _ _ hL.out)) | (with_reducible exact calls_ext (has_is _ _ _ _ _ _ hI.out)))
      | (go_at_call 115; exact calls_ext_same (isRegister_any _ _))
      | (go_at_call 116; exact calls_ext (mayBase_any _ _ _))
      | (go_at_call 117; exact calls_ext (mayImm_any _ _ _ _ _ _ _ _))
      | (go_at_call 113; first | (with_reducible exact calls_ext_same (fits_is _ _ _ _ _ H1.out)) | (with_reducible exact calls_ext_same (fits_is _ _ _ _ _ H2.out)) | (with_reducible exact calls_ext_same (fits_is _ _ _ _ _ H3.out)) | (with_reducible exact calls_ext_same (fits_is _ _ _ _ _ H4.out)) | (with_reducible exact calls_ext_same (fits_is _ _ _ _ _ H5.out)) | (with_reducible exact calls_ext_same (fits_is _ _ _ _ _ H6.out)) | (with_reducible exact calls_ext_same (fits_is _ _ _ _ _ H7.out)))))
    refine wpQuiet_nil ?_
    rintro _ ⟨p, rfl⟩
    go_wp2
    go_ret
    exact ⟨rfl, (((((Below.refl _ _).alloc (Nat.le_refl _) _).trans (hb.mono (by simp))).alloc (by omega) _)).trans (p.ok.mono (by simp; omega))⟩

theorem May_any (op d a b l i behind locs : Int) (w : World) (T : Tab w) :
    Calls Tryz.prog 88 #[.agg #[.int .i64 op, .int .i64 d, .int .i64 a, .int .i64 b, .int .i64 l, .int .i64 i], .int .i64 behind, .int .i64 locs] w fun e w' => e = .returned (.bool (mayB op d a b l i behind locs)) ∧ Below w.heap.size w w' := by
  cases h : decide (1 ≤ op ∧ op ≤ 14)
  · have e : mayB op d a b l i behind locs = false := by unfold mayB; rw [h]; rfl
    rw [e]; exact May_none op d a b l i behind locs w T h
  · refine May_some op d a b l i behind locs w T h _ ?_
    have e4 : l < 0 → m4B op l locs = false := fun hl => by
      unfold m4B
      rw [decide_eq_false (by omega), show (l == 0) = false from by simp; omega]
      cases hasLB op <;> rfl
    unfold mayB
    rw [h]
    by_cases hl : l < 0
    · rw [e4 hl]
      cases m1B op d <;> cases m2B op a <;> cases m3B op b <;> simp <;> omega
    cases m1B op d <;> cases m2B op a <;> cases m3B op b <;> cases m4B op l locs <;> cases m5B op i behind <;> simp <;> omega
end Go.Proofs.YtcalinfdckklfaaGreatDoor
namespace Go.Proofs.YtcalinfdckklfaaGreatDoor
open Go.RowKit

set_option maxHeartbeats 4000000 in
theorem refKind_any (op d a b l i : Int) (w : World) :
    Calls Tryz.prog 74 #[.agg #[.int .i64 op, .int .i64 d, .int .i64 a, .int .i64 b, .int .i64 l, .int .i64 i]] w fun e w' => e = .returned (.int .i64 (kindZ op)) ∧ Below w.heap.size w w' := by
  rcases op_cases op with (h | h) | h | h | h | h | h | h | h | h | h | h | h | h | h | h
  · have e : kindZ op = 0 := by unfold kindZ; repeat rw [if_neg (by omega)]
    have n5 : (op == 5) = false := by simp; omega
    have n6 : (op == 6) = false := by simp; omega
    have n7 : (op == 7) = false := by simp; omega
    have n8 : (op == 8) = false := by simp; omega
    have n9 : (op == 9) = false := by simp; omega
    have n10 : (op == 10) = false := by simp; omega
    rw [e]
    go_enter Tryz.func74, Tryz.ntmps74
    go_wp2
    go_ret
    exact ⟨rfl, by go_grown⟩
  · have e : kindZ op = 0 := by unfold kindZ; repeat rw [if_neg (by omega)]
    have n5 : (op == 5) = false := by simp; omega
    have n6 : (op == 6) = false := by simp; omega
    have n7 : (op == 7) = false := by simp; omega
    have n8 : (op == 8) = false := by simp; omega
    have n9 : (op == 9) = false := by simp; omega
    have n10 : (op == 10) = false := by simp; omega
    rw [e]
    go_enter Tryz.func74, Tryz.ntmps74
    go_wp2
    go_ret
    exact ⟨rfl, by go_grown⟩
  all_goals
    subst h
    go_enter Tryz.func74, Tryz.ntmps74
    go_wp2
    go_ret
    exact ⟨rfl, by go_grown⟩

set_option maxHeartbeats 4000000 in
theorem refHasD_any (op d a b l i : Int) (w : World) :
    Calls Tryz.prog 102 #[.agg #[.int .i64 op, .int .i64 d, .int .i64 a, .int .i64 b, .int .i64 l, .int .i64 i]] w fun e w' => e = .returned (.bool (hasDB op)) ∧ Below w.heap.size w w' := by
  rcases op_cases op with (h | h) | h | h | h | h | h | h | h | h | h | h | h | h | h | h
  · have e : kindZ op = 0 := by unfold kindZ; repeat rw [if_neg (by omega)]
    have e1 : hasDB op = false := by unfold hasDB; exact decide_eq_false (by omega)
    have n10 : (op == 10) = false := by simp; omega
    have d1 : decide (1 ≤ op) = false := decide_eq_false (by omega)
    rw [e1]
    go_enter Tryz.func102, Tryz.ntmps102
    go_wp2_with fail
    refine (refKind_any _ _ _ _ _ _ _).mono ?_
    rintro e2 w1 ⟨rfl, hb⟩
    rw [e]
    obtain ⟨hc, hf⟩ := bcell hb
    go_wp2
    go_ret
    exact ⟨rfl, ((Below.refl _ _).alloc (Nat.le_refl _) _).trans (hb.mono (by simp))⟩
  · have e : kindZ op = 0 := by unfold kindZ; repeat rw [if_neg (by omega)]
    have e1 : hasDB op = false := by unfold hasDB; exact decide_eq_false (by omega)
    have n10 : (op == 10) = false := by simp; omega
    have d1 : decide (op ≤ 4) = false := decide_eq_false (by omega)
    rw [e1]
    go_enter Tryz.func102, Tryz.ntmps102
    go_wp2_with fail
    refine (refKind_any _ _ _ _ _ _ _).mono ?_
    rintro e2 w1 ⟨rfl, hb⟩
    rw [e]
    obtain ⟨hc, hf⟩ := bcell hb
    go_wp2
    go_ret
    exact ⟨rfl, ((Below.refl _ _).alloc (Nat.le_refl _) _).trans (hb.mono (by simp))⟩
  all_goals
    subst h
    go_enter Tryz.func102, Tryz.ntmps102
    go_wp2
    go_ret
    exact ⟨rfl, by go_grown⟩

set_option maxHeartbeats 4000000 in
theorem refHasA_any (op d a b l i : Int) (w : World) :
    Calls Tryz.prog 103 #[.agg #[.int .i64 op, .int .i64 d, .int .i64 a, .int .i64 b, .int .i64 l, .int .i64 i]] w fun e w' => e = .returned (.bool (hasAB op)) ∧ Below w.heap.size w w' := by
  rcases op_cases op with (h | h) | h | h | h | h | h | h | h | h | h | h | h | h | h | h
  · have e1 : hasAB op = false := by unfold hasAB; exact decide_eq_false (by omega)
    have d1 : decide (2 ≤ op) = false := decide_eq_false (by omega)
    rw [e1]
    go_enter Tryz.func103, Tryz.ntmps103
    go_wp2
    go_ret
    exact ⟨by simp; omega, by go_grown⟩
  · have e1 : hasAB op = false := by unfold hasAB; exact decide_eq_false (by omega)
    have d1 : decide (op ≤ 10) = false := decide_eq_false (by omega)
    rw [e1]
    go_enter Tryz.func103, Tryz.ntmps103
    go_wp2
    go_ret
    exact ⟨by simp; omega, by go_grown⟩
  all_goals
    subst h
    go_enter Tryz.func103, Tryz.ntmps103
    go_wp2
    go_ret
    exact ⟨rfl, by go_grown⟩

set_option maxHeartbeats 4000000 in
theorem refHasB_any (op d a b l i : Int) (w : World) :
    Calls Tryz.prog 104 #[.agg #[.int .i64 op, .int .i64 d, .int .i64 a, .int .i64 b, .int .i64 l, .int .i64 i]] w fun e w' => e = .returned (.bool (hasBB op)) ∧ Below w.heap.size w w' := by
  rcases op_cases op with (h | h) | h | h | h | h | h | h | h | h | h | h | h | h | h | h
  · have e : kindZ op = 0 := by unfold kindZ; repeat rw [if_neg (by omega)]
    have e1 : hasBB op = false := by unfold hasBB; exact decide_eq_false (by omega)
    have d1 : decide (2 ≤ op) = false := decide_eq_false (by omega)
    rw [e1]
    go_enter Tryz.func104, Tryz.ntmps104
    go_wp2_with fail
    refine (refKind_any _ _ _ _ _ _ _).mono ?_
    rintro e2 w1 ⟨rfl, hb⟩
    rw [e]
    go_wp2
    go_ret
    exact ⟨rfl, ((Below.refl _ _).alloc (Nat.le_refl _) _).trans (hb.mono (by simp))⟩
  · have e : kindZ op = 0 := by unfold kindZ; repeat rw [if_neg (by omega)]
    have e1 : hasBB op = false := by unfold hasBB; exact decide_eq_false (by omega)
    have d1 : decide (op ≤ 4) = false := decide_eq_false (by omega)
    rw [e1]
    go_enter Tryz.func104, Tryz.ntmps104
    go_wp2_with fail
    refine (refKind_any _ _ _ _ _ _ _).mono ?_
    rintro e2 w1 ⟨rfl, hb⟩
    rw [e]
    go_wp2
    go_ret
    exact ⟨rfl, ((Below.refl _ _).alloc (Nat.le_refl _) _).trans (hb.mono (by simp))⟩
  all_goals
    subst h
    go_enter Tryz.func104, Tryz.ntmps104
    go_wp2
    go_ret
    exact ⟨rfl, by go_grown⟩

set_option maxHeartbeats 4000000 in
theorem refName_any (op : Int) (w : World) :
    Calls Tryz.prog 100 #[.int .i64 op] w fun e w' => e = .returned (.string (nameS op)) ∧ Below w.heap.size w w' := by
  rcases op_cases op with (h | h) | h | h | h | h | h | h | h | h | h | h | h | h | h | h
  · have e : nameS op = ⟨#[]⟩ := by unfold nameS; repeat rw [if_neg (by omega)]
    rw [e]
    go_enter Tryz.func100, Tryz.ntmps100
    go_wp2
    go_ret
    exact ⟨rfl, by go_grown⟩
  · have e : nameS op = ⟨#[]⟩ := by unfold nameS; repeat rw [if_neg (by omega)]
    rw [e]
    go_enter Tryz.func100, Tryz.ntmps100
    go_wp2
    go_ret
    exact ⟨rfl, by go_grown⟩
  all_goals
    subst h
    go_enter Tryz.func100, Tryz.ntmps100
    go_wp2
    go_ret
    exact ⟨rfl, by go_grown⟩

set_option maxHeartbeats 400000 in
theorem refreg_any (h : Bool) (n least : Int) (w : World) :
    Calls Tryz.prog 101 #[.bool h, .int .i64 n, .int .i64 least] w fun e w' => e = .returned (.bool (bif h then decide (least ≤ n) && decide (n ≤ 3) else (n == 0))) ∧ w' = w := by
  cases h
  · go_enter Tryz.func101, Tryz.ntmps101
    go_wp2
    go_ret
    exact ⟨rfl, rfl⟩
  · by_cases hl : least ≤ n
    all_goals
      go_enter Tryz.func101, Tryz.ntmps101
      go_wp2
      go_ret
      exact ⟨by simp [hl] <;> omega, rfl⟩
theorem refreg_is (h : Bool) (n least : Int) (r : Bool) (w : World) (hr : (bif h then decide (least ≤ n) && decide (n ≤ 3) else (n == 0)) = r) :
    Calls Tryz.prog 101 #[.bool h, .int .i64 n, .int .i64 least] w fun e w' => e = .returned (.bool r) ∧ w' = w := by
  subst hr; exact refreg_any h n least w
end Go.Proofs.YtcalinfdckklfaaGreatDoor
namespace Go.Proofs.YtcalinfdckklfaaGreatDoor
open Go.RowKit
attribute [local go_sem] Ext.cell Ext.frozen

theorem m2_least {op a : Int} (k : Int) (hk : kindZ op = k) (h : k = 0 ∨ k = 1 ∨ k = 2) : (bif hasAB op then decide ((if 0 < k then (-1 : Int) else 0) ≤ a) && decide (a ≤ 3) else (a == 0)) = m2B op a := by
  unfold m2B baseB regB
  rw [hk]
  cases hasAB op
  · rfl
  · simp only [cond_true]
    rcases h with rfl | rfl | rfl
    · have : (decide (a ≤ 3)) = decide (a < 4) := by congr 1; exact propext (by omega)
      rw [if_neg (by decide), this]; simp
    · rw [if_pos (by decide), Bool.eq_iff_iff]; simp; omega
    · rw [if_pos (by decide), Bool.eq_iff_iff]; simp; omega
theorem m1_reg {op d : Int} : (bif hasDB op then decide ((0 : Int) ≤ d) && decide (d ≤ 3) else (d == 0)) = m1B op d := by
  unfold m1B regB
  have : (decide (d ≤ 3)) = decide (d < 4) := by congr 1; exact propext (by omega)
  rw [this]
theorem m3_reg {op b : Int} : (bif hasBB op then decide ((0 : Int) ≤ b) && decide (b ≤ 3) else (b == 0)) = m3B op b := by
  unfold m3B regB
  have : (decide (b ≤ 3)) = decide (b < 4) := by congr 1; exact propext (by omega)
  rw [this]
theorem hasL_kind {op : Int} : hasLB op = decide (kindZ op ≠ 0) := by
  unfold hasLB kindZ
  split
  · rw [decide_eq_true (by omega)]; rfl
  · split
    · rw [decide_eq_true (by omega)]; rfl
    · rw [decide_eq_false (by omega)]; rfl

/-- How the places of an instruction may be: in the document's own turn. -/
def locIs (l locs : Int) (k : Int) (r : Bool) : Prop :=
  (k = 0 ∧ (l == 0) = r) ∨ (0 < k ∧ 0 ≤ l ∧ decide (l < locs) = r) ∨ (0 < k ∧ l < 0 ∧ r = false)
theorem loc_is (op l locs : Int) : locIs l locs (kindZ op) (m4B op l locs) := by
  unfold locIs m4B
  rw [hasL_kind]
  rcases kind_cases op with h | h | h
  · rw [h]; left; simp
  · rw [h]; right
    by_cases hl : 0 ≤ l
    · left; simp [hl]
    · right; simp; omega
  · rw [h]; right
    by_cases hl : 0 ≤ l
    · left; simp [hl]
    · right; simp; omega

set_option maxHeartbeats 4000000 in
theorem refMay_none (op d a b l i behind locs : Int) (w : World) (h : decide (1 ≤ op ∧ op ≤ 14) = false) :
    Calls Tryz.prog 86 #[.agg #[.int .i64 op, .int .i64 d, .int .i64 a, .int .i64 b, .int .i64 l, .int .i64 i], .int .i64 behind, .int .i64 locs] w fun e w' => e = .returned (.bool false) ∧ Below w.heap.size w w' := by
  have hn : (nameS op).toList.isEmpty = true := by rw [name_empty, h]; rfl
  have hk : kindZ op = 0 := by
    have := of_decide_eq_false h
    unfold kindZ; repeat rw [if_neg (by omega)]
  have HK : Hid _ := hk
  clear hk h
  go_enter Tryz.func86, Tryz.ntmps86
  go_wp2_with fail
  refine (refKind_any _ _ _ _ _ _ _).mono ?_
  rintro e w1 ⟨rfl, hb⟩
  rw [HK.out]
  obtain ⟨hc, hf⟩ := bcell hb
  have hz : w.heap.size < w1.heap.size := by have := hb.size; simp at this; omega
  have B1 : Below w.heap.size w w1 := ((Below.refl _ _).alloc (Nat.le_refl _) _).trans (hb.mono (by simp))
  go_wp2
  have hne : ∀ w, Nonempty (Ext w) := ext_some
  refine wp_region_ext (by kernel_rfl) (by kernel_rfl) ?_
  repeat (go_big_quiet_step ((go_at_call 100; exact calls_ext (refName_any _ _))))
  refine wpQuiet_nil ?_
  rintro _ ⟨p, rfl⟩
  go_wp2
  go_ret
  exact ⟨rfl, B1.trans (p.ok.mono B1.size)⟩

/-- The arguments of the three calls of reg, said as they stand there. -/
theorem refMay_regs {op d a b k : Int} (hk : kindZ op = k) :
    ((bif hasDB op then decide ((0 : Int) ≤ d) && decide (d ≤ 3) else (d == 0)) = m1B op d) ∧ (k = 0 → (bif hasAB op then decide ((0 : Int) ≤ a) && decide (a ≤ 3) else (a == 0)) = m2B op a) ∧
    (0 < k → (bif hasAB op then decide ((-1 : Int) ≤ a) && decide (a ≤ 3) else (a == 0)) = m2B op a) ∧ ((bif hasBB op then decide ((0 : Int) ≤ b) && decide (b ≤ 3) else (b == 0)) = m3B op b) := by
  have hc : k = 0 ∨ k = 1 ∨ k = 2 := by rw [← hk]; exact kind_cases op
  have h2 := m2_least (a := a) k hk hc
  refine ⟨m1_reg, fun h0 => ?_, fun h0 => ?_, m3_reg⟩
  · rw [if_neg (by omega)] at h2; exact h2
  · rw [if_pos h0] at h2; exact h2

set_option maxHeartbeats 8000000 in
theorem refMay_no (op d a b l i behind locs : Int) (w : World) (hr : decide (1 ≤ op ∧ op ≤ 14) = true) (k : Int) (hk : kindZ op = k) (r4 : Bool) (hloc : locIs l locs k r4)
    (HS : r4 = false ∨ (r4 = true ∧ m1B op d = false) ∨ (r4 = true ∧ m1B op d = true ∧ m2B op a = false) ∨ (r4 = true ∧ m1B op d = true ∧ m2B op a = true ∧ m3B op b = false)) :
    Calls Tryz.prog 86 #[.agg #[.int .i64 op, .int .i64 d, .int .i64 a, .int .i64 b, .int .i64 l, .int .i64 i], .int .i64 behind, .int .i64 locs] w fun e w' => e = .returned (.bool false) ∧ Below w.heap.size w w' := by
  have hn : (nameS op).toList.isEmpty = false := by rw [name_empty, hr]; rfl
  obtain ⟨g1, g2, g2', g3⟩ := refMay_regs (d := d) (a := a) (b := b) hk
  have HK : Hid _ := hk
  clear hk hr
  have G2 : Hid (k = 0 → _) := g2
  have G2' : Hid (0 < k → _) := g2'
  have G1 : Hid _ := g1
  have G3 : Hid _ := g3
  clear g1 g2 g2' g3
  rcases hloc with ⟨rfl, hl⟩ | ⟨hk0, hl0, hl⟩ | ⟨hk0, hl0, rfl⟩
  all_goals
    rcases HS with h4 | ⟨h4, h1⟩ | ⟨h4, h1, h2⟩ | ⟨h4, h1, h2, h3⟩
  all_goals first | (cases h4; done) | skip
  all_goals
    try subst h4
    try (have hld : decide (0 ≤ l) = false := decide_eq_false (by omega))
    try (have H1 : Hid _ := G1.out.trans h1; clear h1)
    try (have H2 : Hid _ := (G2.out rfl).trans h2; clear h2)
    try (have H2 : Hid _ := (G2'.out hk0).trans h2; clear h2)
    try (have H3 : Hid _ := G3.out.trans h3; clear h3)
    clear G1 G2 G2' G3
    go_enter Tryz.func86, Tryz.ntmps86
    go_wp2_with fail
    refine (refKind_any _ _ _ _ _ _ _).mono ?_
    rintro e w1 ⟨rfl, hb⟩
    rw [HK.out]
    obtain ⟨hc, hf⟩ := bcell hb
    have hz : w.heap.size < w1.heap.size := by have := hb.size; simp at this; omega
    have B1 : Below w.heap.size w w1 := ((Below.refl _ _).alloc (Nat.le_refl _) _).trans (hb.mono (by simp))
    go_wp2
    have hne : ∀ w, Nonempty (Ext w) := ext_some
    refine wp_region_ext (by kernel_rfl) (by kernel_rfl) ?_
    repeat (go_big_quiet_step (first
      | (go_at_call 100; exact calls_ext (refName_any _ _))
      | (go_at_call 102; exact calls_ext (refHasD_any _ _ _ _ _ _ _))
      | (go_at_call 103; exact calls_ext (refHasA_any _ _ _ _ _ _ _))
      | (go_at_call 104; exact calls_ext (refHasB_any _ _ _ _ _ _ _))
      | (go_at_call 101; first | (with_reducible exact calls_ext_same (refreg_is _ _ _ _ _ H1.out)) | (with_reducible exact calls_ext_same (refreg_is _ _ _ _ _ H2.out)) | (with_reducible exact calls_ext_same (refreg_is _ _ _ _ _ H3.out)))))
    refine wpQuiet_nil ?_
    rintro _ ⟨p, rfl⟩
    go_wp2
    go_ret
    exact ⟨rfl, B1.trans (p.ok.mono B1.size)⟩

theorem m5_is (op i behind : Int) (h : 1 ≤ op ∧ op ≤ 14) : (op = 1 ∧ m5B op i behind = (decide (-1000 ≤ i) && decide (i ≤ 1000))) ∨ (op = 11 ∧ m5B op i behind = (decide (0 ≤ i) && decide (i ≤ 2))) ∨
    (op = 13 ∧ m5B op i behind = (decide (0 ≤ i) && decide (i ≤ behind))) ∨ (op = 14 ∧ m5B op i behind = (decide (0 ≤ i) && decide (i ≤ behind))) ∨ ((op ≠ 1 ∧ op ≠ 11 ∧ op ≠ 13 ∧ op ≠ 14) ∧ m5B op i behind = (i == 0)) := by
  by_cases h1 : op = 1
  · left; subst h1; exact ⟨rfl, rfl⟩
  by_cases h2 : op = 11
  · right; left; subst h2; exact ⟨rfl, rfl⟩
  by_cases h3 : op = 13
  · right; right; left; subst h3; exact ⟨rfl, rfl⟩
  by_cases h4 : op = 14
  · right; right; right; left; subst h4; exact ⟨rfl, rfl⟩
  right; right; right; right
  refine ⟨⟨h1, h2, h3, h4⟩, ?_⟩
  have : hasIB op = false := by unfold hasIB; exact decide_eq_false (by omega)
  unfold m5B
  rw [this]; rfl

set_option maxHeartbeats 8000000 in
theorem refMay_yes (op d a b l i behind locs : Int) (w : World) (hr : 1 ≤ op ∧ op ≤ 14) (k : Int) (hk : kindZ op = k) (hloc : locIs l locs k true)
    (h1 : m1B op d = true) (h2 : m2B op a = true) (h3 : m3B op b = true) :
    Calls Tryz.prog 86 #[.agg #[.int .i64 op, .int .i64 d, .int .i64 a, .int .i64 b, .int .i64 l, .int .i64 i], .int .i64 behind, .int .i64 locs] w fun e w' => e = .returned (.bool (m5B op i behind)) ∧ Below w.heap.size w w' := by
  have hn : (nameS op).toList.isEmpty = false := by rw [name_empty, decide_eq_true hr]; rfl
  obtain ⟨g1, g2, g2', g3⟩ := refMay_regs (d := d) (a := a) (b := b) hk
  have HK : Hid _ := hk
  have G2 : Hid (k = 0 → _) := g2
  have G2' : Hid (0 < k → _) := g2'
  have H1 : Hid _ := g1.trans h1
  have H3 : Hid _ := g3.trans h3
  clear g1 g2 g2' g3 hk h1 h3
  rcases m5_is op i behind hr with ⟨ho, hm⟩ | ⟨ho, hm⟩ | ⟨ho, hm⟩ | ⟨ho, hm⟩ | ⟨⟨o1, o2, o3, o4⟩, hm⟩
  all_goals
    rw [hm]
    clear hm hr
    try subst ho
    try (have o1' : (op == 1) = false := (by simpa using o1))
    try (have o2' : (op == 11) = false := (by simpa using o2))
    try (have o3' : (op == 13) = false := (by simpa using o3))
    try (have o4' : (op == 14) = false := (by simpa using o4))
  all_goals
    rcases hloc with ⟨rfl, hl⟩ | ⟨hk0, hl0, hl⟩ | ⟨hk0, hl0, hl⟩
  all_goals first | (cases hl; done) | skip
  all_goals
    try (have H2 : Hid _ := (G2.out rfl).trans h2; clear h2)
    try (have H2 : Hid _ := (G2'.out hk0).trans h2; clear h2)
    clear G2 G2'
    go_enter Tryz.func86, Tryz.ntmps86
    go_wp2_with fail
    refine (refKind_any _ _ _ _ _ _ _).mono ?_
    rintro e w1 ⟨rfl, hb⟩
    rw [HK.out]
    obtain ⟨hc, hf⟩ := bcell hb
    have hz : w.heap.size < w1.heap.size := by have := hb.size; simp at this; omega
    have B1 : Below w.heap.size w w1 := ((Below.refl _ _).alloc (Nat.le_refl _) _).trans (hb.mono (by simp))
    go_wp2
    have hne : ∀ w, Nonempty (Ext w) := ext_some
    refine wp_region_ext (by kernel_rfl) (by kernel_rfl) ?_
    repeat (go_big_quiet_step (first
      | (go_at_call 100; exact calls_ext (refName_any _ _))
      | (go_at_call 102; exact calls_ext (refHasD_any _ _ _ _ _ _ _))
      | (go_at_call 103; exact calls_ext (refHasA_any _ _ _ _ _ _ _))
      | (go_at_call 104; exact calls_ext (refHasB_any _ _ _ _ _ _ _))
      | (go_at_call 101; first | (with_reducible exact calls_ext_same (refreg_is _ _ _ _ _ H1.out)) | (with_reducible exact calls_ext_same (refreg_is _ _ _ _ _ H2.out)) | (with_reducible exact calls_ext_same (refreg_is _ _ _ _ _ H3.out)))))
    refine wpQuiet_nil ?_
    rintro _ ⟨p, rfl⟩
    go_wp2
    all_goals
      go_ret
      refine ⟨?_, B1.trans (p.ok.mono B1.size)⟩
      first
        | rfl
        | (simp; done)
        | (simp; omega)
        | (simp [*]; done)
        | (simp [*]; omega)

theorem refMay_any (op d a b l i behind locs : Int) (w : World) :
    Calls Tryz.prog 86 #[.agg #[.int .i64 op, .int .i64 d, .int .i64 a, .int .i64 b, .int .i64 l, .int .i64 i], .int .i64 behind, .int .i64 locs] w fun e w' => e = .returned (.bool (mayB op d a b l i behind locs)) ∧ Below w.heap.size w w' := by
  by_cases hr : 1 ≤ op ∧ op ≤ 14
  · have hloc := loc_is op l locs
    by_cases hall : m4B op l locs = true ∧ m1B op d = true ∧ m2B op a = true ∧ m3B op b = true
    · obtain ⟨h4, h1, h2, h3⟩ := hall
      have e : mayB op d a b l i behind locs = m5B op i behind := by unfold mayB; rw [decide_eq_true hr, h1, h2, h3, h4]; simp
      rw [e]
      rw [h4] at hloc
      exact refMay_yes op d a b l i behind locs w hr _ rfl hloc h1 h2 h3
    · have e : mayB op d a b l i behind locs = false := by
        unfold mayB
        rw [decide_eq_true hr]
        revert hall
        cases m1B op d <;> cases m2B op a <;> cases m3B op b <;> cases m4B op l locs <;> simp
      rw [e]
      refine refMay_no op d a b l i behind locs w (decide_eq_true hr) _ rfl _ hloc ?_
      revert hall
      cases m1B op d <;> cases m2B op a <;> cases m3B op b <;> cases m4B op l locs <;> simp
  · have e : mayB op d a b l i behind locs = false := by unfold mayB; rw [decide_eq_false hr]; rfl
    rw [e]
    exact refMay_none op d a b l i behind locs w (decide_eq_false hr)
end Go.Proofs.YtcalinfdckklfaaGreatDoor
namespace Go.Proofs.YtcalinfdckklfaaGreatDoor
open Go.RowKit

theorem mayF_yes {locs : Int} {l : List Ins} {k : Nat} {x : Ins} (hk : k < l.length) (h : l.drop k = x :: l.drop (k + 1)) (hm : mayB x.op x.d x.a x.b x.l x.i ((l.length : Int) - 1 - k) locs = true) : mayF locs (l.drop k) = mayF locs (l.drop (k + 1)) := by
  rw [h, mayF, List.length_drop, show ((l.length - (k + 1) : Nat) : Int) = (l.length : Int) - 1 - k from by omega, hm]; rfl
theorem mayF_no {locs : Int} {l : List Ins} {k : Nat} {x : Ins} (hk : k < l.length) (h : l.drop k = x :: l.drop (k + 1)) (hm : mayB x.op x.d x.a x.b x.l x.i ((l.length : Int) - 1 - k) locs = false) : mayF locs (l.drop k) = false := by
  rw [h, mayF, List.length_drop, show ((l.length - (k + 1) : Nat) : Int) = (l.length : Int) - 1 - k from by omega, hm]; rfl

set_option maxHeartbeats 2000000 in
theorem may_any (p : Option Addr) (c : Nat) (l : List Ins) (locs : Int) (w : World) (T : Tab w) (hl : Sl InsE w (.slice p l.length c) l) :
    Calls Tryz.prog 84 #[.slice p l.length c, .int .i64 locs] w fun e w' => e = .returned (.bool (mayT l locs)) ∧ Below w.heap.size w w' := by
  by_cases h1 : l.length ≤ 8
  · by_cases h2 : 1 ≤ locs
    · by_cases h3 : locs ≤ 3
      · have E : Hid (mayT l locs = mayF locs l) := by unfold Hid mayT; rw [decide_eq_true h1, decide_eq_true h2, decide_eq_true h3]; rfl
        have h1' : ((l.length : Int)) ≤ 8 := by omega
        go_enter Tryz.func84, Tryz.ntmps84
        go_wp2
        go_loopw [20] (fun i wr => ∃ k : Nat, k ≤ l.length ∧ i = .int .i64 k ∧ mayF locs (l.drop k) = mayF locs l ∧ Below w.heap.size w wr) (fun i _ => l.length - (intOf i).toNat)
        case atStart => exact ⟨0, Nat.zero_le _, rfl, rfl, by go_grown⟩
        case round =>
          obtain ⟨k, hk, rfl, hF, hB⟩ := hrel
          have HF : Hid _ := hF
          clear hF
          by_cases hlt : k < l.length
          · obtain ⟨ub, uo, rfl, e0, e1, e2, e3, e4, e5⟩ := (ins_at (hl.keep hB)).2 k hlt
            have Tr := T.below hB
            generalize hx : l[k] = x at e0 e1 e2 e3 e4 e5
            have HX : Hid (l.drop k = x :: l.drop (k + 1)) := by rw [← hx]; exact drop_at hlt
            clear hx
            cases hm : mayB x.op x.d x.a x.b x.l x.i ((l.length : Int) - 1 - k) locs
            · have HM : Hid _ := hm
              clear hm
              go_wp2_with (go_at_call 88; refine (May_any _ _ _ _ _ _ _ _ _ (Tr.alloc _)).mono ?_; rintro e w3 ⟨rfl, hb3⟩; rw [HM.out])
              go_returns
              exact ⟨by rw [E.out, ← HF.out, mayF_no hlt HX.out HM.out]; rfl, (hB.alloc hB.size _).trans (hb3.mono (by simp; exact Nat.le_succ_of_le hB.size))⟩
            · have HM : Hid _ := hm
              clear hm
              go_wp2_with (go_at_call 88; refine (May_any _ _ _ _ _ _ _ _ _ (Tr.alloc _)).mono ?_; rintro e w3 ⟨rfl, hb3⟩; rw [HM.out])
              go_roundw
              case rel => exact ⟨k + 1, by omega, by go_num, by rw [← mayF_yes hlt HX.out HM.out]; exact HF.out, (hB.alloc hB.size _).trans (hb3.mono (by simp; exact Nat.le_succ_of_le hB.size))⟩
              case measure => simp [intOf]; omega
          · go_wp2
            go_returns
            exact ⟨by have := HF.out; rw [List.drop_of_length_le (by omega), mayF] at this; rw [E.out, ← this]; rfl, hB⟩
      · have E : Hid (mayT l locs = false) := by unfold Hid mayT; rw [decide_eq_false h3]; simp
        have h1' : ((l.length : Int)) ≤ 8 := by omega
        go_enter Tryz.func84, Tryz.ntmps84
        go_wp2
        go_returns
        exact ⟨by rw [E.out]; rfl, by go_grown⟩
    · have E : Hid (mayT l locs = false) := by unfold Hid mayT; rw [decide_eq_false h2]; simp
      have h1' : ((l.length : Int)) ≤ 8 := by omega
      go_enter Tryz.func84, Tryz.ntmps84
      go_wp2
      go_returns
      exact ⟨by rw [E.out]; rfl, by go_grown⟩
  · have E : Hid (mayT l locs = false) := by unfold Hid mayT; rw [decide_eq_false h1]; simp
    have h1' : ¬ ((l.length : Int)) ≤ 8 := by omega
    go_enter Tryz.func84, Tryz.ntmps84
    go_wp2
    go_returns
    exact ⟨by rw [E.out]; rfl, by go_grown⟩

theorem behind_is (n k : Nat) : (n : Int) - k - 1 = (n : Int) - 1 - k := by omega
set_option maxHeartbeats 2000000 in
theorem refMayT_any (p : Option Addr) (c : Nat) (l : List Ins) (locs : Int) (w : World) (hl : Sl InsE w (.slice p l.length c) l) :
    Calls Tryz.prog 105 #[.slice p l.length c, .int .i64 locs] w fun e w' => e = .returned (.bool (mayT l locs)) ∧ Below w.heap.size w w' := by
  by_cases h1 : l.length ≤ 8
  · by_cases h2 : 1 ≤ locs
    · by_cases h3 : locs ≤ 3
      · have E : Hid (mayT l locs = mayF locs l) := by unfold Hid mayT; rw [decide_eq_true h1, decide_eq_true h2, decide_eq_true h3]; rfl
        have h1' : ((l.length : Int)) ≤ 8 := by omega
        go_enter Tryz.func105, Tryz.ntmps105
        go_wp2
        go_loopw [5] (fun i wr => ∃ k : Nat, k ≤ l.length ∧ i = .int .i64 k ∧ mayF locs (l.drop k) = mayF locs l ∧ Below w.heap.size w wr) (fun i _ => l.length - (intOf i).toNat)
        case atStart => exact ⟨0, Nat.zero_le _, rfl, rfl, by go_grown⟩
        case round =>
          obtain ⟨k, hk, rfl, hF, hB⟩ := hrel
          have HF : Hid _ := hF
          clear hF
          by_cases hlt : k < l.length
          · obtain ⟨ub, uo, rfl, e0, e1, e2, e3, e4, e5⟩ := (ins_at (hl.keep hB)).2 k hlt
            generalize hx : l[k] = x at e0 e1 e2 e3 e4 e5
            have HX : Hid (l.drop k = x :: l.drop (k + 1)) := by rw [← hx]; exact drop_at hlt
            clear hx
            cases hm : mayB x.op x.d x.a x.b x.l x.i ((l.length : Int) - 1 - k) locs
            · have HM : Hid _ := hm
              clear hm
              go_wp2_with (go_at_call 86; refine (refMay_any _ _ _ _ _ _ _ _ _).mono ?_; rintro e w3 ⟨rfl, hb3⟩; rw [behind_is, HM.out])
              go_returns
              exact ⟨by rw [E.out, ← HF.out, mayF_no hlt HX.out HM.out]; rfl, Below.thru hB hb3 (Nat.le_refl _)⟩
            · have HM : Hid _ := hm
              clear hm
              go_wp2_with (go_at_call 86; refine (refMay_any _ _ _ _ _ _ _ _ _).mono ?_; rintro e w3 ⟨rfl, hb3⟩; rw [behind_is, HM.out])
              go_roundw
              case rel => exact ⟨k + 1, by omega, by go_num, by rw [← mayF_yes hlt HX.out HM.out]; exact HF.out, Below.thru hB hb3 (Nat.le_refl _)⟩
              case measure => simp [intOf]; omega
          · go_wp2
            go_returns
            exact ⟨by have := HF.out; rw [List.drop_of_length_le (by omega), mayF] at this; rw [E.out, ← this]; rfl, hB⟩
      · have E : Hid (mayT l locs = false) := by unfold Hid mayT; rw [decide_eq_false h3]; simp
        have h1' : ((l.length : Int)) ≤ 8 := by omega
        go_enter Tryz.func105, Tryz.ntmps105
        go_wp2
        go_returns
        exact ⟨by rw [E.out]; rfl, by go_grown⟩
    · have E : Hid (mayT l locs = false) := by unfold Hid mayT; rw [decide_eq_false h2]; simp
      have h1' : ((l.length : Int)) ≤ 8 := by omega
      go_enter Tryz.func105, Tryz.ntmps105
      go_wp2
      go_returns
      exact ⟨by rw [E.out]; rfl, by go_grown⟩
  · have E : Hid (mayT l locs = false) := by unfold Hid mayT; rw [decide_eq_false h1]; simp
    have h1' : ¬ ((l.length : Int)) ≤ 8 := by omega
    go_enter Tryz.func105, Tryz.ntmps105
    go_wp2
    go_returns
    exact ⟨by rw [E.out]; rfl, by go_grown⟩
end Go.Proofs.YtcalinfdckklfaaGreatDoor
namespace Go.Proofs.YtcalinfdckklfaaGreatDoor
open Go.RowKit
attribute [local go_sem] Ext.cell Ext.frozen

theorem run_done {th : List Ins} {locs : Int} {vals : List Int} {lucks : List Bool} {s : St} (h : s.more ≠ 0 ∨ th.length ≤ s.next) (n : Nat) : St.run th locs vals lucks n s = s := by
  cases n with
  | zero => rfl
  | succ n =>
    unfold St.run
    rcases h with h | h
    · rw [if_neg h]
    · split
      · rw [List.getElem?_eq_none h]
      · rfl
theorem run_step {th : List Ins} {locs : Int} {vals : List Int} {lucks : List Bool} {s : St} (h : s.more = 0) (hn : s.next < th.length) (n : Nat) : St.run th locs vals lucks (n + 1) s = St.run th locs vals lucks n (s.inc.step locs vals lucks th[s.next]) := by
  rw [St.run, if_pos h, List.getElem?_eq_getElem hn]

/-- Where the runner in block b stands. -/
def nextOf (b : Nat) (w : World) : Nat := ((w.cell? ⟨b, 19, none⟩).map fun v => (intOf v).toNat).getD 0
theorem next_of {w : World} {b base : Nat} {locs : Int} {vv lv : Value} {r : Nat → Value} {s : St} (h : RunAt w b base locs vv lv r s) : nextOf b w = s.next := by
  obtain ⟨-, -, -, m, -⟩ := h.blk.more
  unfold nextOf
  rw [m]
  simp [intOf, St.tail]
theorem act_call (op : Int) (args : Array Value) (w : World) : Sem.run Tryz.prog (callFunc (actF op) args) w = .ok (.enter (actF op) args) w := by
  unfold actF
  repeat' split
  all_goals kernel_rfl
theorem step_next {locs : Int} {vals : List Int} {lucks : List Bool} {x : Ins} {s : St} : s.next ≤ (s.step locs vals lucks x).next := by
  unfold St.step
  split
  · split
    · exact Nat.le_refl _
    · unfold St.load; simp only []; split <;> exact Nat.le_refl _
  · split
    · exact Nat.le_refl _
    · split
      · split
        · split
          · exact Nat.le_refl _
          · split <;> exact Nat.le_refl _
        · exact Nat.le_refl _
      · split
        · exact Nat.le_refl _
        · split
          · exact Nat.le_refl _
          · split
            · simp only [St.branch]; split <;> omega
            · exact Nat.le_refl _

set_option maxHeartbeats 8000000 in
theorem run_zero (p pv pl : Option Addr) (c cv cl : Nat) (th : List Ins) (locs : Int) (vals : List Int) (lucks : List Bool) (w : World) (T : Tab w) (ht : Sl InsE w (.slice p th.length c) th) (hm : mayT th locs = false) :
    Calls Tryz.prog 67 #[.slice p th.length c, .int .i64 locs, .slice pv vals.length cv, .slice pl lucks.length cl] w fun e w' => ∃ r, e = .returned (trV r .zero) ∧ TrO w' w.heap.size r .zero ∧ Below w.heap.size w w' := by
  have HM : Hid _ := hm
  clear hm
  have hb0 := below_new w (.cells #[.slice none 0 0, .slice none 0 0, .slice none 0 0, .slice none 0 0, .slice none 0 0, .int .i64 0, .int .i64 0, .int .i64 0, .int .i64 0, .int .u32 0, .int .u32 0, .int .u32 0, .int .u32 0, .int .i64 0, .int .i64 0, .int .i64 0] 37)
  have k0 : TrB (w.alloc (.cells #[.slice none 0 0, .slice none 0 0, .slice none 0 0, .slice none 0 0, .slice none 0 0, .int .i64 0, .int .i64 0, .int .i64 0, .int .i64 0, .int .u32 0, .int .u32 0, .int .u32 0, .int .u32 0, .int .i64 0, .int .i64 0, .int .i64 0] 37)) w.heap.size (fun _ => .slice none 0 0) .zero 37 := Blk.new
  go_enter Tryz.func67, Tryz.ntmps67
  go_wp2_with (go_at_call 84; refine (may_any _ _ _ _ _ (T.below hb0) (ht.keep hb0)).mono ?_; rintro e w1 ⟨rfl, hb1⟩; rw [HM.out]; have k1 := k0.keep hb1; have lk := k1.lt; obtain ⟨x0, x1, x2, x3, x4⟩ := k1.rows; obtain ⟨⟨x5, x6, x7, x8⟩, x9, xa, xb, xc⟩ := k1.regs; obtain ⟨xd, xe, xf⟩ := k1.more; have f0 := k1.frozen 0; have f1 := k1.frozen 1; have f2 := k1.frozen 2; have f3 := k1.frozen 3; have f4 := k1.frozen 4; have f5 := k1.frozen 5; have f6 := k1.frozen 6; have f7 := k1.frozen 7; have f8 := k1.frozen 8; have f9 := k1.frozen 9; have fa := k1.frozen 10; have fb := k1.frozen 11; have fc := k1.frozen 12; have fd := k1.frozen 13; have fe := k1.frozen 14; have ff := k1.frozen 15)
  have B1 : Below w.heap.size w w1 := Below.thru hb0 hb1 (Nat.le_refl _)
  obtain ⟨wL, hwL, kL, BL⟩ : ∃ wL, wL = put16 w1 w.heap.size (fun _ => .slice none 0 0) .zero ∧ TrB wL w.heap.size (fun _ => .slice none 0 0) .zero 37 ∧ Below w.heap.size w wL := ⟨_, rfl, blk_put16 k1, below_put16 B1 (Nat.le_refl _) _ _⟩
  simp [put16, St.zero] at hwL
  rw [← hwL]
  clear hwL x0 x1 x2 x3 x4 x5 x6 x7 x8 x9 xa xb xc xd xe xf f0 f1 f2 f3 f4 f5 f6 f7 f8 f9 fa fb fc fd fe ff
  obtain ⟨x0, x1, x2, x3, x4⟩ := kL.rows
  obtain ⟨⟨x5, x6, x7, x8⟩, x9, xa, xb, xc⟩ := kL.regs
  obtain ⟨xd, xe, xf⟩ := kL.more
  exact bodyPost_ret (v := trV (fun _ => .slice none 0 0) .zero) (by simp [results, Tryz.results67, go_sem, trV, trC, x0, x1, x2, x3, x4, x5, x6, x7, x8, x9, xa, xb, xc, xd, xe, xf]) rfl ⟨_, rfl, ⟨_, Nat.le_refl _, run_five _ _⟩, BL⟩
end Go.Proofs.YtcalinfdckklfaaGreatDoor
