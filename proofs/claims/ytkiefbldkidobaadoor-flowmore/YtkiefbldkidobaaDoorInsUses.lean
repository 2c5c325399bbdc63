/- The contract of ins.Uses: the registers that an instruction reads, in a slice of the call's own. -/
import Derived.Test.YtkiefbldkidobaaDoorInsCalls
import Derived.Deep.AppendLies
namespace Go.Proofs.YtkiefbldkidobaaDoor
open Go.RowKit

theorem info_int : (Tryd.prog.info? 3).map (fun i => (i.zero, i.size, i.bytes)) = some (some (.int .i64 0), 1, 8) := by kernel_rfl

theorem one_news {w : World} {b : Nat} {v : Value} (h : w.cell? ⟨b, 0, none⟩ = some v) : ∀ (j : Nat) (u : Value), [v][j]? = some u → w.cell? ((⟨b, 0, none⟩ : Addr).add j) = some u := by
  intro j u hj
  match j, hj with
  | 0, hj => simp at hj; subst hj; simpa [Addr.add] using h
theorem one_cell {k : IntKind} {n : Int} : ∀ u ∈ [Value.int k n], u.oneCell' = true := by
  intro u hu; simp at hu; subst hu; rfl

set_option maxHeartbeats 4000000 in
theorem Uses_noA (op d a b l i : Int) (w : World) (T : Tab w) (ys : List Int)
    (HA : hasAB op = false ∨ (hasAB op = true ∧ a < 0))
    (HB : (hasBB op = false ∧ ys = []) ∨ (hasBB op = true ∧ b < 0 ∧ ys = []) ∨ (hasBB op = true ∧ 0 ≤ b ∧ ys = [b])) :
    Calls Tryd.prog 67 #[.agg #[.int .i64 op, .int .i64 d, .int .i64 a, .int .i64 b, .int .i64 l, .int .i64 i]] w fun e w' =>
      ∃ v, e = .returned v ∧ w'.ownsRow w.heap.size 3 1 v ys.length (ys.map (Value.int .i64)) ∧ Below w.heap.size w w' := by
  obtain ⟨i0, hi, hz0, hz1, hz2⟩ := info_parts info_int
  have hA : Hid _ := bit_A op
  have hB : Hid _ := bit_B op
  rcases HA with h1 | ⟨h1, ha⟩
  all_goals
    rcases HB with ⟨h2, rfl⟩ | ⟨h2, hb', rfl⟩ | ⟨h2, hb', rfl⟩
  all_goals
    have hA' : Hid _ := hA.out.trans h1
    have hB' : Hid _ := hB.out.trans h2
    clear hA hB h1 h2
    try (have had : decide (0 ≤ a) = false := decide_eq_false (by omega))
    try (have hbd : decide (0 ≤ b) = false := decide_eq_false (by omega))
    go_enter Tryd.func67, Tryd.ntmps67
    go_wp2_with fail
    refine (shapeOf_any _ _ (T.alloc _)).mono ?_
    rintro e w1 ⟨rfl, hb⟩
    obtain ⟨hc, hf⟩ := bcell hb
    have hz : w.heap.size < w1.heap.size := by have := hb.size; simp at this; omega
    go_wp2_with fail
    refine (has_is _ _ _ _ _ _ hA'.out).mono ?_
    rintro e w2 ⟨rfl, hb2⟩
    obtain ⟨hc2, hf2⟩ := bcell hb2
    have hz2' : w1.heap.size < w2.heap.size := by have := hb2.size; simp at this; omega
    have B2 : Below w.heap.size w w2 := ((((Below.refl _ _).alloc (Nat.le_refl _) _).trans (hb.mono (by simp))).alloc (by omega) _).trans (hb2.mono (by simp; omega))
    go_wp2_with fail
    refine (has_is _ _ _ _ _ _ hB'.out).mono ?_
    rintro e w3 ⟨rfl, hb3⟩
    obtain ⟨hc3, hf3⟩ := bcell hb3
    have hz3' : w2.heap.size ≤ w3.heap.size := hb3.size
    have hz4' : w.heap.size < w2.heap.size := by omega
    have hz5' : w.heap.size < w3.heap.size := by omega
    have B3 : Below w.heap.size w w3 := B2.trans (hb3.mono (by omega))
    go_wp2_with (at_builtin; refine wpList_append_lies _ (by rfl) (.tmp 27) (.tmp 30) 29 (by rfl) w.heap.size 3 i0 (.int .i64 0) 1 8 Tryd.underlying29 hi hz0 hz1 hz2 rfl (by decide) (.slice none 0 0) 0 [] (by rfl) (World.ownsRow_nil _ _ _ _) ⟨w3.heap.size, 0, none⟩ 1 1 [.int .i64 b] (by rfl) rfl (one_news (by simp)) one_cell (by decide) (by unfold maxLen; omega) (by omega) (by simp; omega) (w3.heap.size + 1) (by simp) ?_; intro g cap w4 hown hgrow hat hlt)
    go_ret
    first
      | exact ⟨_, rfl, World.ownsRow_nil _ _ _ _, B3⟩
      | exact ⟨_, rfl, hown, (B3.alloc (by omega) _).grown hgrow (by simp; omega) (by simp [Value.ownBlock])⟩

set_option maxHeartbeats 4000000 in
theorem Uses_A (op d a b l i : Int) (w : World) (T : Tab w) (ys : List Int)
    (h1 : hasAB op = true) (ha : 0 ≤ a)
    (HB : (hasBB op = false ∧ ys = []) ∨ (hasBB op = true ∧ b < 0 ∧ ys = []) ∨ (hasBB op = true ∧ 0 ≤ b ∧ ys = [b])) :
    Calls Tryd.prog 67 #[.agg #[.int .i64 op, .int .i64 d, .int .i64 a, .int .i64 b, .int .i64 l, .int .i64 i]] w fun e w' =>
      ∃ v, e = .returned v ∧ w'.ownsRow w.heap.size 3 1 v (1 + ys.length) (Value.int .i64 a :: ys.map (Value.int .i64)) ∧ Below w.heap.size w w' := by
  obtain ⟨i0, hi, hz0, hz1, hz2⟩ := info_parts info_int
  have hA : Hid _ := bit_A op
  have hB : Hid _ := bit_B op
  rcases HB with ⟨h2, rfl⟩ | ⟨h2, hb', rfl⟩ | ⟨h2, hb', rfl⟩
  all_goals
    have hA' : Hid _ := hA.out.trans h1
    have hB' : Hid _ := hB.out.trans h2
    clear hA hB h1 h2
    try (have hbd : decide (0 ≤ b) = false := decide_eq_false (by omega))
    go_enter Tryd.func67, Tryd.ntmps67
    go_wp2_with fail
    refine (shapeOf_any _ _ (T.alloc _)).mono ?_
    rintro e w1 ⟨rfl, hb⟩
    obtain ⟨hc, hf⟩ := bcell hb
    have hz : w.heap.size < w1.heap.size := by have := hb.size; simp at this; omega
    go_wp2_with fail
    refine (has_is _ _ _ _ _ _ hA'.out).mono ?_
    rintro e w2 ⟨rfl, hb2⟩
    obtain ⟨hc2, hf2⟩ := bcell hb2
    have hz2' : w1.heap.size < w2.heap.size := by have := hb2.size; simp at this; omega
    have hz4' : w.heap.size < w2.heap.size := by omega
    have B2 : Below w.heap.size w w2 := ((((Below.refl _ _).alloc (Nat.le_refl _) _).trans (hb.mono (by simp))).alloc (by omega) _).trans (hb2.mono (by simp; omega))
    go_wp2_with (at_builtin; refine wpList_append_lies _ (by rfl) (.tmp 15) (.tmp 18) 29 (by rfl) w.heap.size 3 i0 (.int .i64 0) 1 8 Tryd.underlying29 hi hz0 hz1 hz2 rfl (by decide) (.slice none 0 0) 0 [] (by rfl) (World.ownsRow_nil _ _ _ _) ⟨w2.heap.size, 0, none⟩ 1 1 [.int .i64 a] (by rfl) rfl (one_news (by simp)) one_cell (by decide) (by unfold maxLen; omega) (by omega) (by simp; omega) (w2.heap.size + 1) (by simp) ?_; intro g cap w3 hown hgrow hat hlt; have hc3 := gcell hgrow; have hz3' : w2.heap.size < w3.heap.size := (by have := hgrow.size; simp at this; omega); have hz5' : w.heap.size < w3.heap.size := (by omega); have hz6' : w1.heap.size < w3.heap.size := (by omega); have B3 : Below w.heap.size w w3 := (B2.alloc (by omega) _).grown hgrow (by simp; omega) (by simp [Value.ownBlock]))
    refine (has_is _ _ _ _ _ _ hB'.out).mono ?_
    rintro e w4 ⟨rfl, hb4⟩
    obtain ⟨hc4, hf4⟩ := bcell hb4
    have hz7' : w3.heap.size ≤ w4.heap.size := hb4.size
    have hown' := ownsRow_below hown hb4
    have B4 : Below w.heap.size w w4 := B3.trans (hb4.mono (by omega))
    go_wp2_with (at_builtin; refine wpList_append_lies _ (by rfl) (.tmp 27) (.tmp 30) 29 (by rfl) w.heap.size 3 i0 (.int .i64 0) 1 8 Tryd.underlying29 hi hz0 hz1 hz2 rfl (by decide) _ _ _ (by rfl) (hown'.alloc _) ⟨w4.heap.size, 0, none⟩ 1 1 [.int .i64 b] (by rfl) rfl (one_news (by simp)) one_cell (by decide) (by unfold maxLen; omega) (by omega) (by simp; omega) (w4.heap.size + 1) (by simp) ?_; intro g2 cap2 w5 hown2 hgrow2 hat2 hlt2)
    go_ret
    first
      | exact ⟨_, rfl, hown', B4⟩
      | exact ⟨_, rfl, hown2, (B4.alloc (by omega) _).grown hgrow2 (by simp; omega) (fun k hk => (hown.lt k hk).1)⟩

theorem Uses_any (op d a b l i : Int) (w : World) (T : Tab w) :
    Calls Tryd.prog 67 #[.agg #[.int .i64 op, .int .i64 d, .int .i64 a, .int .i64 b, .int .i64 l, .int .i64 i]] w fun e w' =>
      ∃ v, e = .returned v ∧ w'.ownsRow w.heap.size 3 1 v (usesL op a b).length ((usesL op a b).map (Value.int .i64)) ∧ Below w.heap.size w w' := by
  obtain ⟨ys, hy, HB⟩ : ∃ ys, (if hasBB op = true ∧ 0 ≤ b then [b] else []) = ys ∧ ((hasBB op = false ∧ ys = []) ∨ (hasBB op = true ∧ b < 0 ∧ ys = []) ∨ (hasBB op = true ∧ 0 ≤ b ∧ ys = [b])) := by
    refine ⟨_, rfl, ?_⟩
    cases hasBB op
    · simp
    · by_cases h : 0 ≤ b
      · simp [h]
      · simp [h]; omega
  unfold usesL
  rw [hy]
  by_cases h : hasAB op = true ∧ 0 ≤ a
  · rw [if_pos h]
    refine (Uses_A op d a b l i w T ys h.1 h.2 HB).mono ?_
    rintro e w' ⟨v, h1, h2, h3⟩
    refine ⟨v, h1, ?_, h3⟩
    rw [show ([a] ++ ys).length = 1 + ys.length from by simp; omega]
    exact h2
  · rw [if_neg h]
    refine Uses_noA op d a b l i w T ys ?_ HB
    cases h' : hasAB op
    · exact .inl rfl
    · exact .inr ⟨rfl, by rw [h'] at h; simp at h; omega⟩
end Go.Proofs.YtkiefbldkidobaaDoor
