/- The contract of the document's Text. -/
import Derived.Test.YtdealgleehbhlaaDoorCondRefText
namespace Go.Proofs.YtdealgleehbhlaaDoor
open Go.RowKit

set_option maxHeartbeats 4000000 in
set_option maxRecDepth 100000 in
theorem refText_any (all : Bool) (p : Option Addr) (c : Nat) (ls : List (List Atm)) (w : World) (hl : Sl (SlE AtmE) w (.slice p ls.length c) ls) (ha : ∀ l ∈ ls, ∀ a ∈ l, Asz a) (hz : ls.length ≤ 100) (hzl : ∀ l ∈ ls, l.length ≤ 100) :
    Calls Tryd.prog 17 #[.agg #[.bool all, .slice p ls.length c]] w fun e w' => e = .returned (.string ⟨(condL all ls).toArray⟩) ∧ Below w.heap.size w w' := by
  have hb1 := (Below.refl w.heap.size w).alloc (Nat.le_refl _) (.cells #[.bool all, .slice p ls.length c] 24)
  have k1 : Blk (w.alloc (.cells #[.bool all, .slice p ls.length c] 24)) w.heap.size #[.bool all, .slice p ls.length c] 24 := Blk.new
  have hl1 := hl.keep hb1
  have HT := headL all ls
  obtain ⟨T, hT⟩ : ∃ T, condL all ls = T := ⟨_, rfl⟩
  rw [hT] at HT ⊢
  have HT : Hid _ := HT
  clear hT
  cases all
  all_goals
    have HT : Hid _ := HT.out
    go_enter Tryd.func17, Tryd.ntmps17
    go_wp2
    generalize w.alloc _ = w1 at *
    go_loopw [3, 4] (fun f i wr => ∃ (k : Nat) (m : List UInt8) (s : ByteArray), k ≤ ls.length ∧ s = ⟨m.toArray⟩ ∧ f = .string s ∧ i = .int .i64 k ∧ m ++ orL (decide (k = 0)) (ls.drop k) = T ∧ m.length ≤ 6 + 6810 * k ∧ Below w1.heap.size w1 wr) (fun _ i _ => ls.length - (intOf i).toNat)
    case atStart => exact ⟨0, _, _, Nat.zero_le _, rfl, rfl, rfl, by rw [HT.out]; rfl, by simp, Below.refl _ _⟩
    case round =>
      obtain ⟨k, m, s, hk, hs, rfl, rfl, hF, hm, hbr⟩ := hrel
      have hsz : s.size ≤ 700000 := by rw [hs, size_l]; omega
      have HS : Hid _ := hs
      clear hs
      have HF : Hid _ := hF
      clear hF
      have hbw : Below w.heap.size w wr := Below.thru hb1 hbr (Nat.le_refl _)
      have e1 : wr.cell? ⟨w.heap.size, 1, none⟩ = some (.slice p ls.length c) := (k1.keep hbr).cell 1
      have hmm : m.length ≤ 700000 := by omega
      by_cases hlt : k < ls.length
      · obtain ⟨b, oo, rfl, u, hu, hU⟩ := (sl_at (hl1.keep hbr)).2 k hlt
        have haa := ha _ (List.getElem_mem hlt)
        have hzz := hzl _ (List.getElem_mem hlt)
        generalize hx : ls[k] = x at hU haa hzz
        have HX : Hid (ls.drop k = x :: ls.drop (k + 1)) := by rw [← hx]; exact drop_at hlt
        clear hx
        obtain ⟨pu, cu, rfl⟩ := hU.len
        have hlt' : (k : Int) < (ls.length : Int) := by omega
        have hgt : (Hid (k = 0) ∧ ¬ (0 : Int) < (k : Int)) ∨ (Hid (k ≠ 0) ∧ 0 < k) := by unfold Hid; omega
        obtain ⟨m1, hm1⟩ : ∃ m1, m ++ (if k = 0 then [] else [32, 124]) ++ [32] = m1 := ⟨_, rfl⟩
        have HM1 : Hid _ := hm1
        have hl9 : m1.length ≤ 9 + 6810 * k := by rw [← hm1]; split <;> simp <;> omega
        have HG := HF.out
        rw [orL_more HX.out, hm1] at HG
        have HG : Hid _ := HG
        clear hm1
        obtain ⟨w2, rfl⟩ : ∃ x : World, x = wr := ⟨_, rfl⟩
        rcases hgt with ⟨hk0, hgt⟩ | ⟨hk0, hgt⟩
        all_goals
          go_wp2
          generalize hg1 : s ++ (⟨#[32, 124]⟩ : ByteArray) = g1
          generalize hg2 : g1 ++ (⟨#[32]⟩ : ByteArray) = g2
          generalize hg3 : s ++ (⟨#[32]⟩ : ByteArray) = g3
          have HG1 : Hid _ := hg1
          have HG2 : Hid _ := hg2
          have HG3 : Hid _ := hg3
          clear hg1 hg2 hg3
          go_loopw [3, 5] (fun f i wr => ∃ (j : Nat) (m' : List UInt8) (s' : ByteArray), j ≤ x.length ∧ s' = ⟨m'.toArray⟩ ∧ f = .string s' ∧ i = .int .i64 j ∧ m' ++ andL (decide (j = 0)) (x.drop j) = m1 ++ andL true x ∧ m'.length ≤ m1.length + 68 * j ∧ Below w2.heap.size w2 wr) (fun _ i _ => x.length - (intOf i).toNat)
          case atStart =>
            refine ⟨0, m1, _, Nat.zero_le _, ?_, rfl, rfl, rfl, by omega, Below.refl _ _⟩
            rw [← HM1.out]
            have hk0' := hk0.out
            first
              | (rw [if_pos hk0', List.append_nil, ← HG3.out, HS.out, app_l])
              | (rw [if_neg hk0', ← HG2.out, ← HG1.out, HS.out, app_l, app_l])
          case round =>
            obtain ⟨j, m', s', hj, hs', rfl, rfl, hF2, hm', hbs⟩ := hrel
            have hsz' : s'.size ≤ 700000 := by rw [hs', size_l]; omega
            have HS' : Hid _ := hs'
            clear hs'
            have HF2 : Hid _ := hF2
            clear hF2
            have hbs1 : Below w1.heap.size w1 wr := Below.thru hbr hbs (Nat.le_refl _)
            have f1 : wr.cell? ⟨w.heap.size, 1, none⟩ = some (.slice (some ⟨b, oo, none⟩) ls.length c) := (k1.keep hbs1).cell 1
            have f2 := cell_keep hu hbs
            have hmm' : m'.length ≤ 700000 := by omega
            by_cases hjl : j < x.length
            · obtain ⟨b2, o2, rfl, g1, g2, g3, g4⟩ := (atm_at (hU.keep hbs)).2 j hjl
              have hay := haa _ (List.getElem_mem hjl)
              generalize hy : x[j] = y at g1 g2 g3 g4 hay
              have HY : Hid (x.drop j = y :: x.drop (j + 1)) := by rw [← hy]; exact drop_at hjl
              clear hy
              obtain ⟨t, ps, v, n⟩ := y
              have hwl := wordL_len hay
              have hjl' : (j : Int) < (x.length : Int) := by omega
              have hjg : (Hid (j = 0) ∧ ¬ (0 : Int) < (j : Int)) ∨ (Hid (j ≠ 0) ∧ 0 < j) := by unfold Hid; omega
              have HG2 := HF2.out
              rw [andL_more HY.out] at HG2
              have HG2 : Hid _ := HG2
              have HW : Hid (∀ w', Calls Tryd.prog 30 #[.agg #[.int .i64 t, .int .i64 ps, .int .i64 v, .bool n]] w' fun e w'' => e = .returned (.string ⟨(wordL ⟨t, ps, v, n⟩).toArray⟩) ∧ Below w'.heap.size w' w'') := fun w' => word_any ⟨t, ps, v, n⟩ w' hay
              obtain ⟨W, hW⟩ : ∃ W, wordL ⟨t, ps, v, n⟩ = W := ⟨_, rfl⟩
              rw [hW] at HW HG2 hwl
              obtain ⟨sW, hsW⟩ : ∃ s : ByteArray, s = ⟨W.toArray⟩ := ⟨_, rfl⟩
              rw [← hsW] at HW
              have hszW : sW.size ≤ 67 := by rw [hsW, size_l]; exact hwl
              have HSW : Hid _ := hsW
              clear hW hsW
              rcases hjg with ⟨hj0, hjg⟩ | ⟨hj0, hjg⟩
              · go_wp2_with (go_at_call 30; refine Calls.mono (HW.out _) ?_; rintro e w4 ⟨rfl, hb4⟩)
                go_roundw
                case rel => exact ⟨j + 1, m' ++ W, _, by omega, by rw [HS'.out, HSW.out, app_l], rfl, by go_num, by have := HG2.out; rw [if_pos hj0.out, List.append_nil] at this; exact this, by simp; omega, Below.thru hbs hb4 (Nat.le_refl _)⟩
                case measure => simp [intOf]; omega
              · go_wp2_with (go_at_call 30; refine Calls.mono (HW.out _) ?_; rintro e w4 ⟨rfl, hb4⟩)
                go_roundw
                case rel => exact ⟨j + 1, m' ++ [38] ++ W, _, by omega, by rw [HS'.out, HSW.out, app_l, app_l], rfl, by go_num, by have := HG2.out; rw [if_neg hj0.out] at this; exact this, by simp; omega, Below.thru hbs hb4 (Nat.le_refl _)⟩
                case measure => simp [intOf]; omega
            · have HE2 : Hid (m' = m1 ++ andL true x) := by have := HF2.out; rw [List.drop_of_length_le (by omega), andL, List.append_nil] at this; exact this
              by_cases h0 : x.length = 0
              · have h0' : ((x.length : Int) == 0) = true := by simp only [beq_iff_eq]; omega
                have HE3 : Hid (m1 ++ listL x = m' ++ [116, 114, 117, 101]) := by
                  have := List.length_eq_zero_iff.1 h0
                  rw [HE2.out, this]
                  show m1 ++ ([116, 114, 117, 101] ++ []) = m1 ++ [] ++ [116, 114, 117, 101]
                  simp
                go_wp2
                go_roundw
                case rel => exact ⟨k + 1, m' ++ [116, 114, 117, 101], _, by omega, by rw [HS'.out, app_l], rfl, by go_num, by rw [← HE3.out]; exact HG.out, by simp; omega, hbs1⟩
                case measure => simp [intOf]; omega
              · have h0' : ((x.length : Int) == 0) = false := by simp only [beq_eq_false_iff_ne, ne_eq]; omega
                have HE3 : Hid (m1 ++ listL x = m') := by
                  rw [HE2.out, listL, if_neg (fun e => h0 (by rw [e]; rfl))]
                  rfl
                have HQ : Hid (m' ++ orL (decide (k + 1 = 0)) (ls.drop (k + 1)) = T) := by
                  have h1 := HG.out
                  rw [HE3.out] at h1
                  exact h1
                go_wp2
                go_roundw
                case rel => exact ⟨k + 1, m', _, by omega, HS'.out, rfl, by go_num, HQ.out, by omega, hbs1⟩
                case measure => simp [intOf]; omega
      · have HG : Hid (m = T) := by have := HF.out; rw [List.drop_of_length_le (by omega), orL, List.append_nil] at this; exact this
        go_wp2
        go_ret
        exact ⟨by rw [← HG.out, ← HS.out]; rfl, hbw⟩
end Go.Proofs.YtdealgleehbhlaaDoor
