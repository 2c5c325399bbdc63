/- The contract of cupolaref01.May: it answers 'mayB'. -/
import Derived.Test.YtpmaifmokhnboaaGreatDoorInsRef
namespace Go.Proofs.YtpmaifmokhnboaaGreatDoor
open Go.RowKit
attribute [local go_sem] Ext.cell Ext.frozen

theorem m2_least {op a : Int} (k : Int) (hk : kindZ op = k) (h : k = 0 ∨ k = 1 ∨ k = 2) : (bif hasAB op then decide ((if 0 < k then (-1 : Int) else 0) ≤ a) && decide (a ≤ 3) else (a == 0)) = m2B op a := by
  unfold m2B baseB regB
  rw [hk]
  cases hasAB op
  · rfl
  · simp only [cond_true]
    rcases h with rfl | rfl | rfl
    · have : (decide (a ≤ 3)) = decide (a < 4) := by congr 1; exact propext (by omega)
      rw [if_neg (by decide), this]; simp
    · rw [if_pos (by decide), Bool.eq_iff_iff]; simp; omega
    · rw [if_pos (by decide), Bool.eq_iff_iff]; simp; omega
theorem m1_reg {op d : Int} : (bif hasDB op then decide ((0 : Int) ≤ d) && decide (d ≤ 3) else (d == 0)) = m1B op d := by
  unfold m1B regB
  have : (decide (d ≤ 3)) = decide (d < 4) := by congr 1; exact propext (by omega)
  rw [this]
theorem m3_reg {op b : Int} : (bif hasBB op then decide ((0 : Int) ≤ b) && decide (b ≤ 3) else (b == 0)) = m3B op b := by
  unfold m3B regB
  have : (decide (b ≤ 3)) = decide (b < 4) := by congr 1; exact propext (by omega)
  rw [this]
theorem hasL_kind {op : Int} : hasLB op = decide (kindZ op ≠ 0) := by
  unfold hasLB kindZ
  split
  · rw [decide_eq_true (by omega)]; rfl
  · split
    · rw [decide_eq_true (by omega)]; rfl
    · rw [decide_eq_false (by omega)]; rfl

/-- How the places of an instruction may be: in the document's own turn. -/
def locIs (l locs : Int) (k : Int) (r : Bool) : Prop :=
  (k = 0 ∧ (l == 0) = r) ∨ (0 < k ∧ 0 ≤ l ∧ decide (l < locs) = r) ∨ (0 < k ∧ l < 0 ∧ r = false)
theorem loc_is (op l locs : Int) : locIs l locs (kindZ op) (m4B op l locs) := by
  unfold locIs m4B
  rw [hasL_kind]
  rcases kind_cases op with h | h | h
  · rw [h]; left; simp
  · rw [h]; right
    by_cases hl : 0 ≤ l
    · left; simp [hl]
    · right; simp; omega
  · rw [h]; right
    by_cases hl : 0 ≤ l
    · left; simp [hl]
    · right; simp; omega

set_option maxHeartbeats 4000000 in
theorem refMay_none (op d a b l i behind locs : Int) (w : World) (h : decide (1 ≤ op ∧ op ≤ 14) = false) :
    Calls Tryz.prog 101 #[.agg #[.int .i64 op, .int .i64 d, .int .i64 a, .int .i64 b, .int .i64 l, .int .i64 i], .int .i64 behind, .int .i64 locs] w fun e w' => e = .returned (.bool false) ∧ Below w.heap.size w w' := by
  have hn : (nameS op).toList.isEmpty = true := by rw [name_empty, h]; rfl
  have hk : kindZ op = 0 := by
    have := of_decide_eq_false h
    unfold kindZ; repeat rw [if_neg (by omega)]
  have HK : Hid _ := hk
  clear hk h
  go_enter Tryz.func101, Tryz.ntmps101
  go_wp2_with fail
  refine (refKind_any _ _ _ _ _ _ _).mono ?_
  rintro e w1 ⟨rfl, hb⟩
  rw [HK.out]
  obtain ⟨hc, hf⟩ := bcell hb
  have hz : w.heap.size < w1.heap.size := by have := hb.size; simp at this; omega
  have B1 : Below w.heap.size w w1 := ((Below.refl _ _).alloc (Nat.le_refl _) _).trans (hb.mono (by simp))
  go_wp2
  have hne : ∀ w, Nonempty (Ext w) := ext_some
  refine wp_region_ext (by kernel_rfl) (by kernel_rfl) ?_
  repeat (go_big_quiet_step ((go_at_call 115; exact calls_ext (refName_any _ _))))
  refine wpQuiet_nil ?_
  rintro _ ⟨p, rfl⟩
  go_wp2
  go_ret
  exact ⟨rfl, B1.trans (p.ok.mono B1.size)⟩

/-- The arguments of the three calls of reg, said as they stand there. -/
theorem refMay_regs {op d a b k : Int} (hk : kindZ op = k) :
    ((bif hasDB op then decide ((0 : Int) ≤ d) && decide (d ≤ 3) else (d == 0)) = m1B op d) ∧ (k = 0 → (bif hasAB op then decide ((0 : Int) ≤ a) && decide (a ≤ 3) else (a == 0)) = m2B op a) ∧
    (0 < k → (bif hasAB op then decide ((-1 : Int) ≤ a) && decide (a ≤ 3) else (a == 0)) = m2B op a) ∧ ((bif hasBB op then decide ((0 : Int) ≤ b) && decide (b ≤ 3) else (b == 0)) = m3B op b) := by
  have hc : k = 0 ∨ k = 1 ∨ k = 2 := by rw [← hk]; exact kind_cases op
  have h2 := m2_least (a := a) k hk hc
  refine ⟨m1_reg, fun h0 => ?_, fun h0 => ?_, m3_reg⟩
  · rw [if_neg (by omega)] at h2; exact h2
  · rw [if_pos h0] at h2; exact h2

set_option maxHeartbeats 8000000 in
theorem refMay_no (op d a b l i behind locs : Int) (w : World) (hr : decide (1 ≤ op ∧ op ≤ 14) = true) (k : Int) (hk : kindZ op = k) (r4 : Bool) (hloc : locIs l locs k r4)
    (HS : r4 = false ∨ (r4 = true ∧ m1B op d = false) ∨ (r4 = true ∧ m1B op d = true ∧ m2B op a = false) ∨ (r4 = true ∧ m1B op d = true ∧ m2B op a = true ∧ m3B op b = false)) :
    Calls Tryz.prog 101 #[.agg #[.int .i64 op, .int .i64 d, .int .i64 a, .int .i64 b, .int .i64 l, .int .i64 i], .int .i64 behind, .int .i64 locs] w fun e w' => e = .returned (.bool false) ∧ Below w.heap.size w w' := by
  have hn : (nameS op).toList.isEmpty = false := by rw [name_empty, hr]; rfl
  obtain ⟨g1, g2, g2', g3⟩ := refMay_regs (d := d) (a := a) (b := b) hk
  have HK : Hid _ := hk
  clear hk hr
  have G2 : Hid (k = 0 → _) := g2
  have G2' : Hid (0 < k → _) := g2'
  have G1 : Hid _ := g1
  have G3 : Hid _ := g3
  clear g1 g2 g2' g3
  rcases hloc with ⟨rfl, hl⟩ | ⟨hk0, hl0, hl⟩ | ⟨hk0, hl0, rfl⟩
  all_goals
    rcases HS with h4 | ⟨h4, h1⟩ | ⟨h4, h1, h2⟩ | ⟨h4, h1, h2, h3⟩
  all_goals first | (cases h4; done) | skip
  all_goals
    try subst h4
    try (have hld : decide (0 ≤ l) = false := decide_eq_false (by omega))
    try (have H1 : Hid _ := G1.out.trans h1; clear h1)
    try (have H2 : Hid _ := (G2.out rfl).trans h2; clear h2)
    try (have H2 : Hid _ := (G2'.out hk0).trans h2; clear h2)
    try (have H3 : Hid _ := G3.out.trans h3; clear h3)
    clear G1 G2 G2' G3
    go_enter Tryz.func101, Tryz.ntmps101
    go_wp2_with fail
    refine (refKind_any _ _ _ _ _ _ _).mono ?_
    rintro e w1 ⟨rfl, hb⟩
    rw [HK.out]
    obtain ⟨hc, hf⟩ := bcell hb
    have hz : w.heap.size < w1.heap.size := by have := hb.size; simp at this; omega
    have B1 : Below w.heap.size w w1 := ((Below.refl _ _).alloc (Nat.le_refl _) _).trans (hb.mono (by simp))
    go_wp2
    have hne : ∀ w, Nonempty (Ext w) := ext_some
    refine wp_region_ext (by kernel_rfl) (by kernel_rfl) ?_
    repeat (go_big_quiet_step (first
      | (go_at_call 115; exact calls_ext (refName_any _ _))
      | (go_at_call 117; exact calls_ext (refHasD_any _ _ _ _ _ _ _))
      | (go_at_call 118; exact calls_ext (refHasA_any _ _ _ _ _ _ _))
      | (go_at_call 119; exact calls_ext (refHasB_any _ _ _ _ _ _ _))
      | (go_at_call 116; first | (with_reducible exact calls_ext_same (refreg_is _ _ _ _ _ H1.out)) | (with_reducible exact calls_ext_same (refreg_is _ _ _ _ _ H2.out)) | (with_reducible exact calls_ext_same (refreg_is _ _ _ _ _ H3.out)))))
    refine wpQuiet_nil ?_
    rintro _ ⟨p, rfl⟩
    go_wp2
    go_ret
    exact ⟨rfl, B1.trans (p.ok.mono B1.size)⟩

theorem m5_is (op i behind : Int) (h : 1 ≤ op ∧ op ≤ 14) : (op = 1 ∧ m5B op i behind = (decide (-1000 ≤ i) && decide (i ≤ 1000))) ∨ (op = 11 ∧ m5B op i behind = (decide (0 ≤ i) && decide (i ≤ 2))) ∨
    (op = 13 ∧ m5B op i behind = (decide (0 ≤ i) && decide (i ≤ behind))) ∨ (op = 14 ∧ m5B op i behind = (decide (0 ≤ i) && decide (i ≤ behind))) ∨ ((op ≠ 1 ∧ op ≠ 11 ∧ op ≠ 13 ∧ op ≠ 14) ∧ m5B op i behind = (i == 0)) := by
  by_cases h1 : op = 1
  · left; subst h1; exact ⟨rfl, rfl⟩
  by_cases h2 : op = 11
  · right; left; subst h2; exact ⟨rfl, rfl⟩
  by_cases h3 : op = 13
  · right; right; left; subst h3; exact ⟨rfl, rfl⟩
  by_cases h4 : op = 14
  · right; right; right; left; subst h4; exact ⟨rfl, rfl⟩
  right; right; right; right
  refine ⟨⟨h1, h2, h3, h4⟩, ?_⟩
  have : hasIB op = false := by unfold hasIB; exact decide_eq_false (by omega)
  unfold m5B
  rw [this]; rfl

set_option maxHeartbeats 8000000 in
theorem refMay_yes (op d a b l i behind locs : Int) (w : World) (hr : 1 ≤ op ∧ op ≤ 14) (k : Int) (hk : kindZ op = k) (hloc : locIs l locs k true)
    (h1 : m1B op d = true) (h2 : m2B op a = true) (h3 : m3B op b = true) :
    Calls Tryz.prog 101 #[.agg #[.int .i64 op, .int .i64 d, .int .i64 a, .int .i64 b, .int .i64 l, .int .i64 i], .int .i64 behind, .int .i64 locs] w fun e w' => e = .returned (.bool (m5B op i behind)) ∧ Below w.heap.size w w' := by
  have hn : (nameS op).toList.isEmpty = false := by rw [name_empty, decide_eq_true hr]; rfl
  obtain ⟨g1, g2, g2', g3⟩ := refMay_regs (d := d) (a := a) (b := b) hk
  have HK : Hid _ := hk
  have G2 : Hid (k = 0 → _) := g2
  have G2' : Hid (0 < k → _) := g2'
  have H1 : Hid _ := g1.trans h1
  have H3 : Hid _ := g3.trans h3
  clear g1 g2 g2' g3 hk h1 h3
  rcases m5_is op i behind hr with ⟨ho, hm⟩ | ⟨ho, hm⟩ | ⟨ho, hm⟩ | ⟨ho, hm⟩ | ⟨⟨o1, o2, o3, o4⟩, hm⟩
  all_goals
    rw [hm]
    clear hm hr
    try subst ho
    try (have o1' : (op == 1) = false := (by simpa using o1))
    try (have o2' : (op == 11) = false := (by simpa using o2))
    try (have o3' : (op == 13) = false := (by simpa using o3))
    try (have o4' : (op == 14) = false := (by simpa using o4))
  all_goals
    rcases hloc with ⟨rfl, hl⟩ | ⟨hk0, hl0, hl⟩ | ⟨hk0, hl0, hl⟩
  all_goals first | (cases hl; done) | skip
  all_goals
    try (have H2 : Hid _ := (G2.out rfl).trans h2; clear h2)
    try (have H2 : Hid _ := (G2'.out hk0).trans h2; clear h2)
    clear G2 G2'
    go_enter Tryz.func101, Tryz.ntmps101
    go_wp2_with fail
    refine (refKind_any _ _ _ _ _ _ _).mono ?_
    rintro e w1 ⟨rfl, hb⟩
    rw [HK.out]
    obtain ⟨hc, hf⟩ := bcell hb
    have hz : w.heap.size < w1.heap.size := by have := hb.size; simp at this; omega
    have B1 : Below w.heap.size w w1 := ((Below.refl _ _).alloc (Nat.le_refl _) _).trans (hb.mono (by simp))
    go_wp2
    have hne : ∀ w, Nonempty (Ext w) := ext_some
    refine wp_region_ext (by kernel_rfl) (by kernel_rfl) ?_
    repeat (go_big_quiet_step (first
      | (go_at_call 115; exact calls_ext (refName_any _ _))
      | (go_at_call 117; exact calls_ext (refHasD_any _ _ _ _ _ _ _))
      | (go_at_call 118; exact calls_ext (refHasA_any _ _ _ _ _ _ _))
      | (go_at_call 119; exact calls_ext (refHasB_any _ _ _ _ _ _ _))
      | (go_at_call 116; first | (with_reducible exact calls_ext_same (refreg_is _ _ _ _ _ H1.out)) | (with_reducible exact calls_ext_same (refreg_is _ _ _ _ _ H2.out)) | (with_reducible exact calls_ext_same (refreg_is _ _ _ _ _ H3.out)))))
    refine wpQuiet_nil ?_
    rintro _ ⟨p, rfl⟩
    go_wp2
    all_goals
      go_ret
      refine ⟨?_, B1.trans (p.ok.mono B1.size)⟩
      first
        | rfl
        | (simp; done)
        | (simp; omega)
        | (simp [*]; done)
        | (simp [*]; omega)

theorem refMay_any (op d a b l i behind locs : Int) (w : World) :
    Calls Tryz.prog 101 #[.agg #[.int .i64 op, .int .i64 d, .int .i64 a, .int .i64 b, .int .i64 l, .int .i64 i], .int .i64 behind, .int .i64 locs] w fun e w' => e = .returned (.bool (mayB op d a b l i behind locs)) ∧ Below w.heap.size w w' := by
  by_cases hr : 1 ≤ op ∧ op ≤ 14
  · have hloc := loc_is op l locs
    by_cases hall : m4B op l locs = true ∧ m1B op d = true ∧ m2B op a = true ∧ m3B op b = true
    · obtain ⟨h4, h1, h2, h3⟩ := hall
      have e : mayB op d a b l i behind locs = m5B op i behind := by unfold mayB; rw [decide_eq_true hr, h1, h2, h3, h4]; simp
      rw [e]
      rw [h4] at hloc
      exact refMay_yes op d a b l i behind locs w hr _ rfl hloc h1 h2 h3
    · have e : mayB op d a b l i behind locs = false := by
        unfold mayB
        rw [decide_eq_true hr]
        revert hall
        cases m1B op d <;> cases m2B op a <;> cases m3B op b <;> cases m4B op l locs <;> simp
      rw [e]
      refine refMay_no op d a b l i behind locs w (decide_eq_true hr) _ rfl _ hloc ?_
      revert hall
      cases m1B op d <;> cases m2B op a <;> cases m3B op b <;> cases m4B op l locs <;> simp
  · have e : mayB op d a b l i behind locs = false := by unfold mayB; rw [decide_eq_false hr]; rfl
    rw [e]
    exact refMay_none op d a b l i behind locs w (decide_eq_false hr)
end Go.Proofs.YtpmaifmokhnboaaGreatDoor
