/- The contract of ins.May: whatever the instruction, what stands behind it and how many places there are, it answers 'mayB'. -/
import Derived.Test.YtpmaifmokhnboaaGreatDoorInsP
namespace Go.Proofs.YtpmaifmokhnboaaGreatDoor
open Go.RowKit

set_option maxHeartbeats 400000 in
theorem fits_any (a b c : Bool) (w : World) :
    Calls Tryz.prog 128 #[.bool a, .bool b, .bool c] w fun e w' => e = .returned (.bool (bif a then b else c)) ∧ w' = w := by
  cases a
  all_goals
    go_enter Tryz.func128, Tryz.ntmps128
    go_wp2
    go_ret
    exact ⟨rfl, rfl⟩
theorem fits_is (a b c r : Bool) (w : World) (h : (bif a then b else c) = r) :
    Calls Tryz.prog 128 #[.bool a, .bool b, .bool c] w fun e w' => e = .returned (.bool r) ∧ w' = w := by
  subst h; exact fits_any a b c w
set_option maxHeartbeats 400000 in
theorem isRegister_any (n : Int) (w : World) :
    Calls Tryz.prog 130 #[.int .i64 n] w fun e w' => e = .returned (.bool (regB n)) ∧ w' = w := by
  by_cases h : 0 ≤ n
  all_goals
    go_enter Tryz.func130, Tryz.ntmps130
    go_wp2
    go_ret
    exact ⟨by simp [regB, h] <;> omega, rfl⟩
set_option maxHeartbeats 400000 in
theorem mayBase_any (op x : Int) (w : World) :
    Calls Tryz.prog 131 #[.agg #[.string (nameS op), .int .i64 (kindZ op), .int .i64 (fieldsZ op)], .int .i64 x] w fun e w' => e = .returned (.bool (baseB op x)) ∧ Below w.heap.size w w' := by
  cases h : regB x
  · by_cases hk : kindZ op = 0
    all_goals
      have HH : Hid (baseB op x = (kindZ op != 0 && (x == -1))) := by unfold Hid baseB; rw [h]; simp
      go_enter Tryz.func131, Tryz.ntmps131
      go_wp2_with (go_at_call 130; refine (isRegister_any _ _).mono ?_; rintro e w' ⟨rfl, rfl⟩)
      go_ret
      exact ⟨by rw [HH.out]; simp [hk], by go_grown⟩
  · have HH : Hid (baseB op x = true) := by unfold Hid baseB; rw [h]; simp
    go_enter Tryz.func131, Tryz.ntmps131
    go_wp2_with (go_at_call 130; refine (isRegister_any _ _).mono ?_; rintro e w' ⟨rfl, rfl⟩)
    go_ret
    exact ⟨by rw [HH.out]; rfl, by go_grown⟩
set_option maxHeartbeats 400000 in
theorem mayImm_any (op d a b l i behind : Int) (w : World) :
    Calls Tryz.prog 132 #[.agg #[.int .i64 op, .int .i64 d, .int .i64 a, .int .i64 b, .int .i64 l, .int .i64 i], .int .i64 behind] w fun e w' => e = .returned (.bool (immB op i behind)) ∧ Below w.heap.size w w' := by
  by_cases h1 : op = 1
  · subst h1
    by_cases h : -1000 ≤ i
    all_goals
      go_enter Tryz.func132, Tryz.ntmps132
      go_wp2
      go_ret
      exact ⟨by simp [immB, h] <;> omega, by go_grown⟩
  · by_cases h11 : op = 11
    · subst h11
      by_cases h : 0 ≤ i
      all_goals
        go_enter Tryz.func132, Tryz.ntmps132
        go_wp2
        go_ret
        exact ⟨by simp [immB, h] <;> omega, by go_grown⟩
    · by_cases h : 0 ≤ i
      all_goals
        go_enter Tryz.func132, Tryz.ntmps132
        go_wp2
        go_ret
        exact ⟨by simp [immB, h, h1, h11] <;> omega, by go_grown⟩

theorem name_empty (op : Int) : (nameS op).toList.isEmpty = !decide (1 ≤ op ∧ op ≤ 14) := by
  rcases op_cases op with h | h | h | h | h | h | h | h | h | h | h | h | h | h | h
  · have e : nameS op = ⟨#[]⟩ := by unfold nameS; repeat rw [if_neg (by omega)]
    rw [e, decide_eq_false (by omega)]; decide +kernel
  all_goals subst h; decide +kernel

attribute [local go_sem] Ext.cell Ext.frozen

set_option maxHeartbeats 400000 in
theorem May_none (op d a b l i behind locs : Int) (w : World) (T : Tab w) (h : decide (1 ≤ op ∧ op ≤ 14) = false) :
    Calls Tryz.prog 103 #[.agg #[.int .i64 op, .int .i64 d, .int .i64 a, .int .i64 b, .int .i64 l, .int .i64 i], .int .i64 behind, .int .i64 locs] w fun e w' => e = .returned (.bool false) ∧ Below w.heap.size w w' := by
  have hn : (nameS op).toList.isEmpty = true := by rw [name_empty, h]; rfl
  go_enter Tryz.func103, Tryz.ntmps103
  go_wp2_with fail
  refine (shapeOf_any _ _ (T.alloc _)).mono ?_
  rintro e w1 ⟨rfl, hb⟩
  obtain ⟨hc, hf⟩ := bcell hb
  go_wp2
  go_ret
  exact ⟨rfl, ((((Below.refl _ _).alloc (Nat.le_refl _) _).trans (hb.mono (by simp))).alloc (by have := hb.size; simp at this; omega) _)⟩

set_option maxHeartbeats 2000000 in
theorem May_some (op d a b l i behind locs : Int) (w : World) (T : Tab w) (h : decide (1 ≤ op ∧ op ≤ 14) = true) (r : Bool)
    (HS : (m1B op d = false ∧ r = false) ∨ (m1B op d = true ∧ m2B op a = false ∧ r = false) ∨ (m1B op d = true ∧ m2B op a = true ∧ m3B op b = false ∧ r = false) ∨
      (0 ≤ l ∧ m1B op d = true ∧ m2B op a = true ∧ m3B op b = true ∧ m4B op l locs = false ∧ r = false) ∨ (0 ≤ l ∧ m1B op d = true ∧ m2B op a = true ∧ m3B op b = true ∧ m4B op l locs = true ∧ m5B op i behind = false ∧ r = false) ∨
      (0 ≤ l ∧ m1B op d = true ∧ m2B op a = true ∧ m3B op b = true ∧ m4B op l locs = true ∧ m5B op i behind = true ∧ r = true) ∨
      (l < 0 ∧ m1B op d = true ∧ m2B op a = true ∧ m3B op b = true ∧ r = false)) :
    Calls Tryz.prog 103 #[.agg #[.int .i64 op, .int .i64 d, .int .i64 a, .int .i64 b, .int .i64 l, .int .i64 i], .int .i64 behind, .int .i64 locs] w fun e w' => e = .returned (.bool r) ∧ Below w.heap.size w w' := by
  have hn : (nameS op).toList.isEmpty = false := by rw [name_empty, h]; rfl
  have hD : Hid _ := bit_D op
  have hA : Hid _ := bit_A op
  have hB : Hid _ := bit_B op
  have hL : Hid _ := bit_L op
  have hI : Hid _ := bit_I op
  have e4 : 0 ≤ l → Hid (m4B op l locs = bif hasLB op then decide (l < locs) else (l == 0)) := fun hl => by unfold Hid m4B; rw [decide_eq_true hl]; simp
  have E4 : Hid _ := e4
  clear e4
  rcases HS with ⟨h1, rfl⟩ | ⟨h1, h2, rfl⟩ | ⟨h1, h2, h3, rfl⟩ | ⟨hl, h1, h2, h3, h4, rfl⟩ | ⟨hl, h1, h2, h3, h4, h5, rfl⟩ | ⟨hl, h1, h2, h3, h4, h5, rfl⟩ | ⟨hl, h1, h2, h3, rfl⟩
  all_goals
    have H1 : Hid ((bif hasDB op then regB d else (d == 0)) = _) := h1
    clear h1
    try (have H2 : Hid ((bif hasAB op then baseB op a else (a == 0)) = _) := h2; clear h2)
    try (have H3 : Hid ((bif hasBB op then regB b else (b == 0)) = _) := h3; clear h3)
    try (have H4 : Hid ((bif hasLB op then decide (l < locs) else (l == 0)) = _) := (E4.out hl).out.symm.trans h4; clear h4)
    try (have hdl : decide (0 ≤ l) = false := decide_eq_false (by omega))
    try (have H6 : Hid ((bif hasLB op then false else false) = false) := by unfold Hid; cases hasLB op <;> rfl)
    try (have H7 : Hid ((bif hasLB op then false else (l == 0)) = false) := by unfold Hid; rw [show (l == 0) = false from by simp; omega]; cases hasLB op <;> rfl)
    try (have H5 : Hid ((bif hasIB op then immB op i behind else (i == 0)) = _) := h5; clear h5)
    clear E4
    go_enter Tryz.func103, Tryz.ntmps103
    go_wp2_with fail
    refine (shapeOf_any _ _ (T.alloc _)).mono ?_
    rintro e w1 ⟨rfl, hb⟩
    obtain ⟨hc, hf⟩ := bcell hb
    have hz : w.heap.size < w1.heap.size := by have := hb.size; simp at this; omega
    go_wp2
    have hne : ∀ w, Nonempty (Ext w) := ext_some
    refine wp_region_ext (by kernel_rfl) (by kernel_rfl) ?_
    repeat (go_big_quiet_step (first
      | (go_at_call 129; first | (with_reducible exact calls_ext (has_is _ _ _ _ _ _ hD.out)) | (with_reducible exact calls_ext (has_is _ _ _ _ _ _ hA.out)) | (with_reducible exact calls_ext (has_is _ _ _ _ _ _ hB.out)) | (with_reducible exact calls_ext (has_is _ _ _ _ _ _ hL.out)) | (with_reducible exact calls_ext (has_is _ _ _ _ _ _ hI.out)))
      | (go_at_call 130; exact calls_ext_same (isRegister_any _ _))
      | (go_at_call 131; exact calls_ext (mayBase_any _ _ _))
      | (go_at_call 132; exact calls_ext (mayImm_any _ _ _ _ _ _ _ _))
      | (go_at_call 128; first | (with_reducible exact calls_ext_same (fits_is _ _ _ _ _ H1.out)) | (with_reducible exact calls_ext_same (fits_is _ _ _ _ _ H2.out)) | (with_reducible exact calls_ext_same (fits_is _ _ _ _ _ H3.out)) | (with_reducible exact calls_ext_same (fits_is _ _ _ _ _ H4.out)) | (with_reducible exact calls_ext_same (fits_is _ _ _ _ _ H5.out)) | (with_reducible exact calls_ext_same (fits_is _ _ _ _ _ H6.out)) | (with_reducible exact calls_ext_same (fits_is _ _ _ _ _ H7.out)))))
    refine wpQuiet_nil ?_
    rintro _ ⟨p, rfl⟩
    go_wp2
    go_ret
    exact ⟨rfl, (((((Below.refl _ _).alloc (Nat.le_refl _) _).trans (hb.mono (by simp))).alloc (by omega) _)).trans (p.ok.mono (by simp; omega))⟩

theorem May_any (op d a b l i behind locs : Int) (w : World) (T : Tab w) :
    Calls Tryz.prog 103 #[.agg #[.int .i64 op, .int .i64 d, .int .i64 a, .int .i64 b, .int .i64 l, .int .i64 i], .int .i64 behind, .int .i64 locs] w fun e w' => e = .returned (.bool (mayB op d a b l i behind locs)) ∧ Below w.heap.size w w' := by
  cases h : decide (1 ≤ op ∧ op ≤ 14)
  · have e : mayB op d a b l i behind locs = false := by unfold mayB; rw [h]; rfl
    rw [e]; exact May_none op d a b l i behind locs w T h
  · refine May_some op d a b l i behind locs w T h _ ?_
    have e4 : l < 0 → m4B op l locs = false := fun hl => by
      unfold m4B
      rw [decide_eq_false (by omega), show (l == 0) = false from by simp; omega]
      cases hasLB op <;> rfl
    unfold mayB
    rw [h]
    by_cases hl : l < 0
    · rw [e4 hl]
      cases m1B op d <;> cases m2B op a <;> cases m3B op b <;> simp <;> omega
    cases m1B op d <;> cases m2B op a <;> cases m3B op b <;> cases m4B op l locs <;> cases m5B op i behind <;> simp <;> omega
end Go.Proofs.YtpmaifmokhnboaaGreatDoor
