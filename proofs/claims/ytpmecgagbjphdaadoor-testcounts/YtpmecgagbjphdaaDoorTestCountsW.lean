/- TestCounts: for every test the law answers true. -/
import Derived.Test.YtpmecgagbjphdaaDoorTestChecksW
import Derived.Test.YtpmecgagbjphdaaDoorTestMath2
import Derived.Test.YtpmecgagbjphdaaDoorRepO
namespace Go.Proofs.YtpmecgagbjphdaaDoor
open Go.RowKit
attribute [local go_sem] Ext.cell Ext.frozen

theorem last_step {ts : List (List Ins)} {k : Nat} {l : List Ins} (h : k < ts.length) (hl : ts[ts.length - 1 - k] = l) : ts.drop (ts.length - (k + 1)) = l :: ts.drop (ts.length - k) := by
  have e : ts.length - (k + 1) = ts.length - 1 - k := by omega
  rw [e, drop_at (by omega), hl, show ts.length - 1 - k + 1 = ts.length - k by omega]
theorem size_drop (ts : List (List Ins)) (k : Nat) : sizeTs (ts.drop k) ≤ sizeTs ts := by
  have := size_append (ts.take k) (ts.drop k)
  rw [List.take_append_drop] at this
  omega

set_option maxRecDepth 20000 in
set_option maxHeartbeats 4000000 in
theorem TestCounts_true (pi pt : Option Addr) (ci ct : Nat) (xs : List Int) (ts : List (List Ins)) (w : World) (T : Tab w) (hi : Sl IntE w (.slice pi xs.length ci) xs) (ht : Sl ThrE w (.slice pt ts.length ct) ts) :
    Calls Tryd.prog 7 #[.agg #[.slice pi xs.length ci, .slice pt ts.length ct]] w fun e w' => e = .returned (.bool true) ∧ Below w.heap.size w w' := by
  have hb1 := ((Below.refl w.heap.size w).alloc (Nat.le_refl _) (.cells #[.slice pi xs.length ci, .slice pt ts.length ct] 25))
  have hK : Blk (w.alloc (.cells #[.slice pi xs.length ci, .slice pt ts.length ct] 25)) w.heap.size #[.slice pi xs.length ci, .slice pt ts.length ct] 25 := Blk.new
  go_enter Tryd.func7, Tryd.ntmps7
  go_wp2_with fail
  refine (shown2_any _ (T.below hb1)).mono ?_
  rintro e w1 ⟨rfl, hb1'⟩
  have hB1 := hb1.trans (hb1'.mono hb1.size)
  have hK1 := hK.keep hb1'
  have k0 := hK1.cell 0
  have k1 := hK1.cell 1
  simp at k0 k1
  go_wp2_with fail
  refine (Few_any _ _ _ _ xs ts _ (ht.keep hB1)).mono ?_
  rintro e w2 ⟨rfl, hb2⟩
  have hB2 := hB1.trans (hb2.mono hB1.size)
  have hK2 := hK1.keep hb2
  cases hfew : fewB xs ts
  · go_wp2
    go_ret
    exact ⟨rfl, hB2⟩
  · have hS : sizeTs ts ≤ 400 := size_few' hfew
    have hT : ts.length ≤ 10 := (few_parts hfew).2.1
    have hX : xs.length ≤ 10 := (few_parts hfew).1
    have HFew : Hid _ := (few_parts hfew).2.2
    clear hfew k0 k1
    have k0 := hK2.cell 0
    have k1 := hK2.cell 1
    have kl := hK2.lt
    simp at k0 k1
    have hBa : Below w2.heap.size w2 (w2.alloc (.cells #[.slice pi xs.length ci, .slice none 0 0] 25)) := (Below.refl _ _).alloc (Nat.le_refl _) _
    obtain ⟨i0, z0, j1, j2, j3, j4, j5⟩ := info_get info_thr
    have J1 : Hid _ := j1
    have J2 : Hid _ := j2
    have J3 : Hid _ := j3
    have J4 : Hid _ := j4
    have J5 : Hid _ := j5
    clear j1 j2 j3 j4 j5
    have hcap := ht.cap
    have hN0 : Blk (w2.alloc (.cells #[.slice pi xs.length ci, .slice none 0 0] 25)) w2.heap.size #[.slice pi xs.length ci, .slice none 0 0] 25 := Blk.new
    have hT0 := hK2.keep hBa
    go_wp2
    generalize hw3 : w2.alloc (.cells #[.slice pi xs.length ci, .slice none 0 0] 25) = w3 at hBa hN0 hT0 ⊢
    generalize hn2 : w2.heap.size = n2 at hN0 hBa kl ⊢
    have HN2 : Hid _ := hn2
    clear hw3 hn2 k0 k1
    go_loopw [4, 5, 7] (fun r s i wr => ∃ (k : Nat) (a : Value), k ≤ ts.length ∧ r = .int .i64 (cRs (ts.drop (ts.length - k))) ∧ s = .int .i64 (cWs (ts.drop (ts.length - k))) ∧ i = .int .i64 ((ts.length : Int) - 1 - k) ∧
      Blk wr w.heap.size #[.slice pi xs.length ci, .slice pt ts.length ct] 25 ∧ Blk wr n2 #[.slice pi xs.length ci, a] 25 ∧ Own (fun b => b < w.heap.size) ThrE wr (n2 + 1) 37 a (ts.drop (ts.length - k)).reverse ∧ Below n2 w2 wr) (fun _ _ i _ => (intOf i + 1).toNat)
    case atStart => exact ⟨0, _, Nat.zero_le _, by simp [cRs], by simp [cWs], by simp, hT0, hN0, by simpa using Own.nil, hBa⟩
    case round =>
      obtain ⟨k, a, hk, rfl, rfl, rfl, hBt, hBu, hO, hB⟩ := hrel
      obtain ⟨pa, ca, rfl⟩ := hO.len
      have ht1 := hBt.cell 1
      have ht0 := hBt.cell 0
      have hu0 := hBu.cell 0
      have hu1 := hBu.cell 1
      have htl := hBt.lt
      have hul := hBu.lt
      simp only [List.getElem?_toArray, List.getElem?_cons_zero, List.getElem?_cons_succ] at ht0 ht1 hu0 hu1
      have hBw : Below w.heap.size w wr := hB2.trans (hB.mono (by omega))
      have bd1 := cRs_bd (ts.drop (ts.length - k))
      have bd2 := size_drop ts (ts.length - k)
      have hOl : (ts.drop (ts.length - k)).reverse.length = k := by rw [List.length_reverse, List.length_drop]; omega
      by_cases hlt : k < ts.length
      · rw [show (ts.length : Int) - 1 - k = ((ts.length - 1 - k : Nat) : Int) by omega]
        obtain ⟨tb, to, he, v, hv, hV⟩ := (thr_at (SlA.keep ht.old hBw)).2 (ts.length - 1 - k) (by omega)
        subst he
        have hpart := ((ht.keep hBw).part (i := ts.length - 1 - k) (k := 1) (c' := ct - (ts.length - 1 - k)) (by omega) (by decide) (by omega))
        obtain ⟨b', o', he', hpart⟩ := hpart
        simp only [Option.some.injEq, Addr.mk.injEq, and_true] at he'
        obtain ⟨rfl, rfl⟩ := he'
        rw [drop_at (by omega), List.take_succ_cons, List.take_zero] at hpart
        generalize hl : ts[ts.length - 1 - k] = l at hV hpart
        have HL : Hid _ := last_step hlt hl
        have hl40 := HFew.out l (by rw [← hl]; exact List.getElem_mem _)
        clear hl
        have bd3 := cR_bd l
        have HR1 : Hid (cRs (ts.drop (ts.length - (k + 1))) = cR l + cRs (ts.drop (ts.length - k))) := by unfold Hid; rw [HL.out, cRs]
        have HW1 : Hid (cWs (ts.drop (ts.length - (k + 1))) = cW l + cWs (ts.drop (ts.length - k))) := by unfold Hid; rw [HL.out, cWs]
        have hm1 : ts.length - 1 - k < ts.length := by omega
        have hm2 : ct ≠ ts.length - 1 - k := by omega
        have HRV : Hid ((ts.drop (ts.length - (k + 1))).reverse = (ts.drop (ts.length - k)).reverse ++ [l]) := by unfold Hid; rw [HL.out, List.reverse_cons]
        generalize hcr : cRs (ts.drop (ts.length - k)) = cr at *
        generalize hcw : cWs (ts.drop (ts.length - k)) = cw at *
        generalize hout : (ts.drop (ts.length - k)).reverse = out at *
        have hm3 : (((ts.length - 1 - k : Nat) : Int)) = (ts.length : Int) - 1 - k := by omega
        have HM3 : Hid _ := hm3
        clear hm3
        generalize hm : ts.length - 1 - k = m at *
        have hpart1 : Sl ThrE wr (.slice (some ⟨tb, to + m, none⟩) 1 (ct - m)) [l] := by have := hpart; rw [show ThrE.size = 1 from rfl, Nat.mul_one] at this; exact this
        have HO : Hid _ := hout
        have HOL : Hid _ := hOl
        have hOl2 : out.length ≤ 10 := by omega
        have hmm : m < 10 := by omega
        have HMM : Hid _ := hm
        clear hcr hcw hout hm hOl hpart
        have hnn := hBu.lt
        go_wp2_with fail
        refine (Count_any none (some ⟨tb, to + m, none⟩) 0 0 (ct - m) [l] _ (T.below hBw) hpart1 (by simp [sizeTs]; omega) (by simp)).mono ?_
        rintro e w4 ⟨rfl, hb4⟩
        rw [cntTs_add]
        simp only [cRs, cWs, Int.zero_add, Int.add_zero]
        have hBt4 := hBt.keep hb4
        have hBu4 := hBu.keep hb4
        clear ht0 ht1 hu0 hu1 htl hul
        have ht1 := hBt4.cell 1
        have hu1 := hBu4.cell 1
        have htl := hBt4.lt
        have hul := hBu4.lt
        have hv4 := cell_keep hv hb4
        have hvl := cell_lt hv4
        simp only [List.getElem?_toArray, List.getElem?_cons_zero, List.getElem?_cons_succ] at ht1 hu1
        obtain ⟨pv, cv, rfl⟩ := hV.len
        go_wp2
        have hne : ∀ w, Nonempty (Ext w) := ext_some
        have hne2 : Nonempty AnyW := anyW_some
        refine wp_region_mixL [([0, 1, 2, 3, 4, 5, 6], 7, false), ([], 8, true), ([9], 10, true)] [] [8, 10] (by kernel_rfl) (by kernel_rfl) (fun _ _ d _ _ h => by cases d <;> exact h) ?_
        dsimp only [List.map, mapL, opAt]
        have hD : Below w4.heap.size w4 w4.drew := (Below.refl _ _).drew
        refine wpMixL_stage ?_
        repeat (go_big_quiet_step (fail))
        refine wpQuiet_nil ?_
        go_wp2
        have hB5 := ((Below.refl w4.heap.size w4).alloc (Nat.le_refl _) (.cells #[.slice pv l.length cv] 37)).drew
        have hN5 := (Blk.new (w := w4) (cs := #[.slice pv l.length cv]) (t := 37)).drew
        refine ⟨.inr hB5, ?_⟩
        refine wpMixL_stage ?_
        refine wpQuiet_nil ?_
        have hOw := hO.keep (hb4.trans (hB5.mono hb4.size))
        have hown := fun q (hq : (Value.slice pa out.length ca).ownBlock = some q) => (hO.lt q hq)
        have hVk := ((SlA.keep hV hb4).keep hB5)
        have hsrc : SlO (fun b => b < w.heap.size ∧ some b ≠ (Value.slice pa out.length ca).ownBlock) ThrE ((w4.alloc (.cells #[.slice pv l.length cv] 37)).drew) (.slice (some ⟨w4.heap.size, 0, none⟩) 1 1) [l] :=
          slO_one (hN5.cell 0) (SlA.mono (fun b hb => ⟨hb, fun e => by have := (hown b e.symm).1; omega⟩) hVk) (Nat.le_refl _)
        go_wp2_with (at_builtin; refine wpList_appO (R := ThrE) (A := fun b => b < w.heap.size) (xs := out) (ys := [l]) (by rfl) (.tmp 54) (.tmp 60) 23 37 i0 z0 24 (by rfl) Tryd.underlying23 J1.out J2.out J4.out J5.out J3.out (n2 + 1) (.slice pa out.length ca) (.slice (some ⟨w4.heap.size, 0, none⟩) 1 1) (by rfl) (by rfl) hOw hsrc (by simp; omega) (by decide) (by have := hB5.size; omega) ?_; intro p6 c6 w6 hO6 hg6 hat6)
        refine ⟨.inl trivial, ?_⟩
        have hB6u : Blk w6 n2 #[.slice pi xs.length ci, .slice pa out.length ca] 25 := (hBu4.keep hB5).grown hg6 (fun e => by have := hown n2 e.symm; omega)
        have hB6t : Blk w6 w.heap.size #[.slice pi xs.length ci, .slice (some ⟨tb, to, none⟩) ts.length ct] 25 := (hBt4.keep hB5).grown hg6 (fun e => by have := hown _ e.symm; omega)
        have hu61 := hB6u.cell 1
        have hu6r := hB6u.frozen 1
        simp at hu61
        refine wpMixL_stage_late ?_
        simp only [Act.put, List.setIfInBounds_toArray, List.set]
        repeat (go_big_quiet_step (fail))
        refine wpQuiet_nil ?_
        go_wp2
        refine ⟨.inl trivial, ?_⟩
        refine wpMixL_last ?_
        refine wpQuiet_nil ?_
        go_wp2
        go_roundw
        case rel => exact ⟨k + 1, .slice p6 (out ++ [l]).length c6, by omega, by rw [HR1.out]; congr 1; omega, by rw [HW1.out]; congr 1; omega, by congr 1; have := HM3.out; push_cast; omega, hB6t.grown (grownBy_set _ _ _) (by simp; omega), by simpa using hB6u.set (i := 1) (.slice p6 (out ++ [l]).length c6),
          by rw [HRV.out]; exact hO6.agree (grownBy_set _ _ _) (fun q hq => by simp at hq; subst hq; exact ⟨by omega, fun e => by have := (hO6.lt _ e).1; omega⟩),
          ((hB.trans (hb4.mono (by omega))).trans (hB5.mono (by have := hb4.size; omega))).grown hg6 (by have := hB5.size; have := hb4.size; omega) (fun q hq => by have := (hown q hq).1; omega) |>.setCell (Nat.le_refl _) _⟩
        case measure => simp [intOf]
      · rw [show (ts.length : Int) - 1 - k = -1 by omega]
        have e0 : ts.drop (ts.length - k) = ts := by rw [show ts.length - k = 0 by omega]; rfl
        rw [e0] at hO hBu hu1
        rw [e0]
        clear bd1 bd2 hOl e0
        have hB0w := hBw
        have hRv : Sl ThrE wr (.slice pa ts.reverse.length ca) ts.reverse := hO.sl.any
        generalize hrev : ts.reverse = rs at hRv hO hu1 hBu ⊢
        have hrl : ts.length = rs.length := by rw [← hrev, List.length_reverse]
        have HRev : Hid _ := hrev
        have HRL : Hid _ := hrl
        have hSr : sizeTs rs ≤ 400 := by rw [← hrev, size_reverse]; exact hS
        have hTr : rs.length ≤ 10 := by omega
        clear hrev hrl
        go_wp2_with fail
        refine (Count_any _ _ _ _ _ ts _ (T.below hBw) (ht.keep hBw) (by omega) (by omega)).mono ?_
        rintro e w4 ⟨rfl, hb4⟩
        have hB4 := hBw.trans (hb4.mono hBw.size)
        have k2 := (hBu.keep hb4).cell 0
        have k3 := (hBu.keep hb4).cell 1
        simp only [List.getElem?_toArray, List.getElem?_cons_zero, List.getElem?_cons_succ] at k2 k3
        have eT : cntTs ts 0 0 = (cRs ts, cWs ts) := by rw [cntTs_add]; simp
        have eR : cntTs rs 0 0 = (cRs ts, cWs ts) := by rw [cntTs_add, ← HRev.out, (cRs_reverse ts).1, (cRs_reverse ts).2]; simp
        have ER : Hid _ := eR
        rw [eT]
        clear eT eR
        have EC : Hid _ := check_rev xs ts
        rw [HRev.out] at EC
        generalize cRs ts = c1 at *
        generalize cWs ts = c2 at *
        go_wp2_with fail
        have C := Count_any pi pa xs.length ci ca rs _ (T.below hB4) (hRv.keep hb4) (by omega) (by omega)
        rw [ER.out] at C
        refine C.mono ?_
        clear C
        rintro e w5 ⟨rfl, hb5⟩
        have hB5 := hB4.trans (hb5.mono hB4.size)
        have k4 := ((hBt.keep hb4).keep hb5).cell 0
        have k5 := ((hBt.keep hb4).keep hb5).cell 1
        simp only [List.getElem?_toArray, List.getElem?_cons_zero, List.getElem?_cons_succ] at k4 k5
        go_wp2_with fail
        refine (Check_any _ _ _ _ xs ts _ (T.below hB5) (hi.keep hB5) (ht.keep hB5) (by omega)).mono ?_
        rintro e w6 ⟨rfl, hb6⟩
        have hB6 := hB5.trans (hb6.mono hB5.size)
        have k6 := (((hBu.keep hb4).keep hb5).keep hb6).cell 0
        have k7 := (((hBu.keep hb4).keep hb5).keep hb6).cell 1
        simp only [List.getElem?_toArray, List.getElem?_cons_zero, List.getElem?_cons_succ] at k6 k7
        generalize (checkZ xs ts).1 = d1 at *
        generalize (checkZ xs ts).2.1 = d2 at *
        generalize (checkZ xs ts).2.2 = d3 at *
        go_wp2_with fail
        refine (Check_any _ _ _ _ xs rs _ (T.below hB6) (hi.keep hB6) (((hRv.keep hb4).keep hb5).keep hb6) (by omega)).mono ?_
        rintro e w7 ⟨rfl, hb7⟩
        have hB7 := hB6.trans (hb7.mono hB6.size)
        generalize (checkZ xs rs).1 = d4 at *
        generalize (checkZ xs rs).2.1 = d5 at *
        generalize (checkZ xs rs).2.2 = d6 at *
        cases hd : (d6 == 0)
        all_goals
          have hd' := EC.out
          rw [hd] at hd'
          go_wp2
          go_ret
          exact ⟨rfl, hB7⟩
end Go.Proofs.YtpmecgagbjphdaaDoor
