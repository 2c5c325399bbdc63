/- TestAgain: for every test the law answers true. -/
import Derived.Test.YtpmecgagbjphdaaDoorTestTurnsW
import Derived.Test.YtpmecgagbjphdaaDoorTestMath4
namespace Go.Proofs.YtpmecgagbjphdaaDoor
open Go.RowKit Classical
attribute [local go_sem] Ext.cell Ext.frozen

theorem size_map2 {ts : List (List Ins)} {g : List Ins → List Ins} (h : ∀ l ∈ ts, (g l).length ≤ 2 * l.length) : sizeTs (ts.map g) ≤ 2 * sizeTs ts := by
  induction ts with
  | nil => simp [sizeTs]
  | cons t ts ih =>
    simp only [List.map_cons, sizeTs]
    have h1 := h t (by simp)
    have h2 := ih (fun l hl => h l (by simp [hl]))
    omega

set_option maxRecDepth 20000 in
set_option maxHeartbeats 4000000 in
theorem TestAgain_true (pi pt : Option Addr) (ci ct : Nat) (xs : List Int) (ts : List (List Ins)) (w : World) (T : Tab w) (hi : Sl IntE w (.slice pi xs.length ci) xs) (ht : Sl ThrE w (.slice pt ts.length ct) ts) :
    Calls Tryd.prog 6 #[.agg #[.slice pi xs.length ci, .slice pt ts.length ct]] w fun e w' => e = .returned (.bool true) ∧ Below w.heap.size w w' := by
  have hb1 := ((Below.refl w.heap.size w).alloc (Nat.le_refl _) (.cells #[.slice pi xs.length ci, .slice pt ts.length ct] 25))
  have hK : Blk (w.alloc (.cells #[.slice pi xs.length ci, .slice pt ts.length ct] 25)) w.heap.size #[.slice pi xs.length ci, .slice pt ts.length ct] 25 := Blk.new
  go_enter Tryd.func6, Tryd.ntmps6
  go_wp2_with fail
  refine (shown2_any _ (T.below hb1)).mono ?_
  rintro e w1 ⟨rfl, hb1'⟩
  have hB1 := hb1.trans (hb1'.mono hb1.size)
  have hK1 := hK.keep hb1'
  have k0 := hK1.cell 0
  have k1 := hK1.cell 1
  simp at k0 k1
  go_wp2_with fail
  refine (Few_any _ _ _ _ xs ts _ (ht.keep hB1)).mono ?_
  rintro e w2 ⟨rfl, hb2⟩
  have hB2 := hB1.trans (hb2.mono hB1.size)
  have hK2 := hK1.keep hb2
  cases hfew : fewB xs ts
  · go_wp2
    go_ret
    exact ⟨rfl, hB2⟩
  · have hS : sizeTs ts ≤ 400 := size_few' hfew
    have hT : ts.length ≤ 10 := (few_parts hfew).2.1
    have hX : xs.length ≤ 10 := (few_parts hfew).1
    have HFew : Hid _ := (few_parts hfew).2.2
    clear hfew k0 k1
    have k0 := hK2.cell 0
    have k1 := hK2.cell 1
    have kl := hK2.lt
    simp at k0 k1
    go_wp2_with fail
    refine (Check_any _ _ _ _ xs ts _ (T.below hB2) (hi.keep hB2) (ht.keep hB2) (by omega)).mono ?_
    rintro e w3 ⟨rfl, hb3⟩
    have hB3 := hB2.trans (hb3.mono hB2.size)
    have hK3 := hK2.keep hb3
    clear k0 k1 kl
    have k0 := hK3.cell 0
    have k1 := hK3.cell 1
    have kl := hK3.lt
    simp at k0 k1
    by_cases hok : (checkZ xs ts).2.2 ≠ 0
    · have hok' : ((checkZ xs ts).2.2 != 0) = true := by simpa using hok
      generalize (checkZ xs ts).2.2 = c3 at hok' ⊢
      go_wp2
      go_ret
      exact ⟨rfl, hB3⟩
    · replace hok : (checkZ xs ts).2.2 = 0 := Decidable.not_not.1 hok
      have HOK : Hid _ := hok
      generalize (checkZ xs ts).1 = c1
      generalize (checkZ xs ts).2.1 = c2
      rw [hok]
      have eBT : bareT xs ts = ts.map bareL := by unfold bareT; rw [if_pos hok]
      have eFT : fencedT xs ts = ts.map fencedL := by unfold fencedT; rw [if_pos hok]
      have EBT : Hid _ := eBT
      have EFT : Hid _ := eFT
      have HIN : Hid _ := check_inside hok
      clear hok eBT eFT
      have hbl : (ts.map bareL).length ≤ 10 := by simp; omega
      have hfl : (ts.map fencedL).length ≤ 10 := by simp; omega
      have hsb : sizeTs (ts.map bareL) ≤ 400 := Nat.le_trans (size_map_le fun l _ => bareL_len l) hS
      have hsf : sizeTs (ts.map fencedL) ≤ 800 := Nat.le_trans (size_map2 fun l _ => fencedL_len l) (by omega)
      have hcb := check_bare HOK.out
      have hag : (ts.map bareL).map bareL = ts.map bareL := by rw [List.map_map]; exact List.map_congr_left fun l _ => bare_again l
      have hfg : (ts.map fencedL).map fencedL = ts.map fencedL := by rw [List.map_map]; exact List.map_congr_left fun l _ => fenced_again l
      have C := Bare_any _ _ _ _ xs ts _ (T.below hB3) (hi.keep hB3) (ht.keep hB3) (by omega) (by omega) (by omega)
      rw [EBT.out] at C
      have C2 := fun (w : World) (T : Tab w) (hi : Sl IntE w (.slice pi xs.length ci) xs) (ht : Sl ThrE w (.slice pt ts.length ct) ts) => Fenced_any _ _ _ _ xs ts _ T hi ht (by omega) (by omega) (by omega)
      rw [EFT.out] at C2
      generalize hbs : ts.map bareL = bs at *
      generalize hfs : ts.map fencedL = fs at *
      have HBS : Hid _ := hbs
      have HFS : Hid _ := hfs
      have HC2 : Hid _ := C2
      have HCB : Hid _ := hcb
      have HAG : Hid _ := hag
      have HFG : Hid _ := hfg
      clear hbs hfs C2 hcb hag hfg
      go_wp2_with fail
      refine C.mono ?_
      clear C
      rintro e w4 ⟨qi, di, qt, dt, rfl, s1, s2, hb4⟩
      have hB4 := hB3.trans (hb4.mono hB3.size)
      have hK4 := hK3.keep hb4
      have hbA : Below w4.heap.size w4 (w4.alloc (.cells #[.slice qi xs.length di, .slice qt bs.length dt] 25)) := (Below.refl _ _).alloc (Nat.le_refl _) _
      have hKa : Blk (w4.alloc (.cells #[.slice qi xs.length di, .slice qt bs.length dt] 25)) w4.heap.size #[.slice qi xs.length di, .slice qt bs.length dt] 25 := Blk.new
      clear k0 k1 kl
      go_wp2_with fail
      generalize hw5 : w4.alloc (.cells #[.slice qi xs.length di, .slice qt bs.length dt] 25) = w5 at hbA hKa ⊢
      generalize hn4 : w4.heap.size = n4 at hKa ⊢
      clear hw5 hn4
      have hB5 := hB4.trans (hbA.mono hB4.size)
      have hK5 := hK4.keep hbA
      have S1 := s1.any.keep hbA
      have S2 := s2.any.keep hbA
      refine (Check_any _ _ _ _ xs bs _ (T.below hB5) S1 S2 (by omega)).mono ?_
      rintro e w6 ⟨rfl, hb6⟩
      have hB6 := hB5.trans (hb6.mono hB5.size)
      have hK6 := hK5.keep hb6
      have hKa6 := hKa.keep hb6
      have k1 := hKa6.cell 1
      have hFB : Hid _ := HCB.out
      generalize (checkZ xs bs).1 = f1 at *
      generalize (checkZ xs bs).2.1 = f2 at *
      generalize hf3 : (checkZ xs bs).2.2 = f3 at *
      have HF3 : Hid _ := hf3
      clear hf3
      simp only [List.getElem?_toArray, List.getElem?_cons_zero, List.getElem?_cons_succ] at k1
      go_wp2
      go_loop [11, 12] (fun e i => ∃ (j : Nat) (b : Bool), j ≤ bs.length ∧ i = .int .i64 j ∧ e = .bool b ∧ (b || emptyB (bs.drop j)) = emptyB bs) (fun _ i => bs.length - (intOf i).toNat)
      case atStart => exact ⟨0, false, Nat.zero_le _, rfl, rfl, by simp⟩
      case round =>
        obtain ⟨j, b, hj, rfl, rfl, hE⟩ := hrel
        have HE : Hid _ := hE
        clear hE
        by_cases hjl : j < bs.length
        · obtain ⟨ab, ao, rfl, va, hva, hVa⟩ := (thr_at (S2.keep hb6)).2 j hjl
          generalize hl : bs[j] = l at hVa
          have HL : Hid (emptyB (bs.drop j) = (decide (l.length = 0) || emptyB (bs.drop (j + 1)))) := by unfold Hid emptyB; rw [drop_at hjl, List.any_cons, hl]
          clear hl
          obtain ⟨pva, cva, rfl⟩ := hVa.len
          cases b
          · by_cases hl0 : l.length = 0
            · have hl0' : ((l.length : Int) == 0) = true := len_eq0 hl0
              have HD : Hid _ := hl0
              clear hl0
              go_wp2
              go_round
              case rel => exact ⟨j + 1, true, by omega, by go_num, rfl, by have := HE.out; rw [HL.out, decide_eq_true HD.out] at this; simpa using this⟩
              case measure => simp [intOf]; omega
            · have hl0' : ((l.length : Int) == 0) = false := len_ne0 hl0
              go_wp2
              go_round
              case rel => exact ⟨j + 1, false, by omega, by go_num, rfl, by have := HE.out; rw [HL.out, decide_eq_false hl0] at this; simpa using this⟩
              case measure => simp [intOf]; omega
          · go_wp2
            go_round
            case rel => exact ⟨j + 1, true, by omega, by go_num, rfl, by have := HE.out; simpa using this⟩
            case measure => simp [intOf]; omega
        · have hb : emptyB bs = b := by have := HE.out; rw [List.drop_of_length_le (by omega), show emptyB ([] : List (List Ins)) = false from rfl, Bool.or_false] at this; exact this.symm
          rw [hb] at hFB
          have HB : Hid _ := hb
          clear hb k1
          have k1 := hK6.cell 1
          have k0 := hK6.cell 0
          have ka := hKa6.cell 1
          simp only [List.getElem?_toArray, List.getElem?_cons_zero, List.getElem?_cons_succ] at k1 k0 ka
          go_wp2_with fail
          have C := HC2.out _ (T.below hB6) (hi.keep hB6) (ht.keep hB6)
          refine C.mono ?_
          clear C k0 k1 ka
          rintro e w7 ⟨ri, ei, rt, et, rfl, u1, u2, hb7⟩
          have hB7 := hB6.trans (hb7.mono hB6.size)
          have hbC : Below w7.heap.size w7 (w7.alloc (.cells #[.slice ri xs.length ei, .slice rt fs.length et] 25)) := (Below.refl _ _).alloc (Nat.le_refl _) _
          have hKb : Blk (w7.alloc (.cells #[.slice ri xs.length ei, .slice rt fs.length et] 25)) w7.heap.size #[.slice ri xs.length ei, .slice rt fs.length et] 25 := Blk.new
          go_wp2_with fail
          generalize hw8 : w7.alloc (.cells #[.slice ri xs.length ei, .slice rt fs.length et] 25) = w8 at hbC hKb ⊢
          generalize hn7 : w7.heap.size = n7 at hKb ⊢
          clear hw8 hn7
          have hB8 := hB7.trans (hbC.mono hB7.size)
          have U1 := u1.any.keep hbC
          have U2 := u2.any.keep hbC
          refine (Check_any _ _ _ _ xs fs _ (T.below hB8) U1 U2 (by omega)).mono ?_
          rintro e w9 ⟨rfl, hb9⟩
          have hB9 := hB8.trans (hb9.mono hB8.size)
          have hKa9 := ((hKa6.keep hb7).keep hbC).keep hb9
          have hKb9 := hKb.keep hb9
          have a0 := hKa9.cell 0
          have a1 := hKa9.cell 1
          have a2 := hKa9.lt
          have b0 := hKb9.cell 0
          have b1 := hKb9.cell 1
          have b2 := hKb9.lt
          simp only [List.getElem?_toArray, List.getElem?_cons_zero, List.getElem?_cons_succ] at a0 a1 b0 b1
          generalize (checkZ xs fs).1 = g1 at *
          generalize (checkZ xs fs).2.1 = g2 at *
          generalize hg3 : (checkZ xs fs).2.2 = g3 at *
          have HG3 : Hid _ := hg3
          clear hg3
          have V1 := ((S1.keep hb6).keep hb7).keep (hbC.trans (hb9.mono hbC.size))
          have V2 := ((S2.keep hb6).keep hb7).keep (hbC.trans (hb9.mono hbC.size))
          have W1 := U1.keep hb9
          have W2 := U2.keep hb9
          have hlb : ∀ l ∈ bs, l.length ≤ 1000000 := fun l hl => by have := size_len l hl; omega
          have hlf : ∀ l ∈ fs, l.length ≤ 1000000 := fun l hl => by have := size_len l hl; omega
          have HLB : Hid _ := hlb
          have HLF : Hid _ := hlf
          clear hlb hlf
          have hD : Below w9.heap.size w9 w9.drew := (Below.refl _ _).drew
          have hne : ∀ w, Nonempty (Ext w) := ext_some
          cases b
          · have hf0 : (f3 == 0) = true := hFB.out
            have eB : bareT xs bs = bs := by unfold bareT; rw [HF3.out, if_pos (by simpa using hf0), HAG.out]
            have EB : Hid _ := eB
            clear eB
            cases hg : (g3 != 0)
            · have eF : fencedT xs fs = fs := by unfold fencedT; rw [HG3.out, if_pos (by simpa using hg), HFG.out]
              have EF : Hid _ := eF
              clear eF
              go_wp2
              refine wp_region_mix [([0, 1, 2, 3, 4, 5, 6, 7, 8, 9, 10, 11, 13], 12), ([], 14), ([15, 16, 17, 18, 19, 20, 21, 23], 22), ([], 24)] [25, 26, 27] (by kernel_rfl) (by kernel_rfl) (fun _ _ d _ _ h => by cases d <;> exact h) ?_
              dsimp only [List.map, opAt]
              refine wpMix_stage ?_
              repeat (go_big_quiet_step (fail))
              refine wpQuiet_nil ?_
              have C := Bare_any _ _ _ _ xs bs _ (T.below (hB9.trans (hD.mono hB9.size))) (V1.keep hD) (V2.keep hD) (by omega) (by omega) (by omega)
              rw [EB.out] at C
              go_wp2_with (go_at_call 15; refine C.mono ?_; rintro e w10 ⟨ai, bi, at1, bt, rfl, t1, t2, hb10⟩)
              clear C
              have hC10 : Below w9.heap.size w9 w10 := hD.trans hb10
              refine ⟨hC10, ?_⟩
              refine wpMix_stage ?_
              refine wpQuiet_nil ?_
              go_wp2_with (go_at_call 17; refine (Same_any _ _ _ _ _ _ _ _ xs xs bs bs _ t1.any (V1.keep hC10) t2.any (V2.keep hC10) (by omega) (by omega) HLB.out).mono ?_; rintro e w11 ⟨rfl, hb11⟩; simp only [decide_true, Bool.and_self])
              have hC11 : Below w9.heap.size w9 w11 := Below.thru hC10 hb11 (Nat.le_refl _)
              refine ⟨hC11, ?_⟩
              refine wpMix_stage ?_
              repeat (go_big_quiet_step (fail))
              refine wpQuiet_nil ?_
              have C := Fenced_any _ _ _ _ xs fs _ (T.below (hB9.trans (hC11.mono hB9.size))) (W1.keep hC11) (W2.keep hC11) (by omega) (by omega) (by omega)
              rw [EF.out] at C
              go_wp2_with (go_at_call 16; refine C.mono ?_; rintro e w12 ⟨ai2, bi2, at2, bt2, rfl, t3, t4, hb12⟩)
              clear C
              have hC12 : Below w9.heap.size w9 w12 := Below.thru hC11 hb12 (Nat.le_refl _)
              refine ⟨hC12, ?_⟩
              refine wpMix_stage ?_
              refine wpQuiet_nil ?_
              go_wp2_with (go_at_call 17; refine (Same_any _ _ _ _ _ _ _ _ xs xs fs fs _ t3.any (W1.keep hC12) t4.any (W2.keep hC12) (by omega) (by omega) HLF.out).mono ?_; rintro e w13 ⟨rfl, hb13⟩; simp only [decide_true, Bool.and_self])
              have hC13 : Below w9.heap.size w9 w13 := Below.thru hC12 hb13 (Nat.le_refl _)
              refine ⟨hC13, ?_⟩
              refine wpMix_last ?_
              repeat (go_big_quiet_step (fail))
              refine wpQuiet_nil ?_
              go_wp2
              go_ret
              exact ⟨rfl, hB9.trans (hC13.mono hB9.size)⟩
            · go_wp2
              refine wp_region_mix [([0, 1, 2, 3, 4, 5, 6, 7, 8, 9, 10, 11, 13], 12), ([], 14), ([15, 16, 17, 18, 19, 20, 21, 23], 22), ([], 24)] [25, 26, 27] (by kernel_rfl) (by kernel_rfl) (fun _ _ d _ _ h => by cases d <;> exact h) ?_
              dsimp only [List.map, opAt]
              refine wpMix_stage ?_
              repeat (go_big_quiet_step (fail))
              refine wpQuiet_nil ?_
              have C := Bare_any _ _ _ _ xs bs _ (T.below (hB9.trans (hD.mono hB9.size))) (V1.keep hD) (V2.keep hD) (by omega) (by omega) (by omega)
              rw [EB.out] at C
              go_wp2_with (go_at_call 15; refine C.mono ?_; rintro e w10 ⟨ai, bi, at1, bt, rfl, t1, t2, hb10⟩)
              clear C
              have hC10 : Below w9.heap.size w9 w10 := hD.trans hb10
              refine ⟨hC10, ?_⟩
              refine wpMix_stage ?_
              refine wpQuiet_nil ?_
              go_wp2_with (go_at_call 17; refine (Same_any _ _ _ _ _ _ _ _ xs xs bs bs _ t1.any (V1.keep hC10) t2.any (V2.keep hC10) (by omega) (by omega) HLB.out).mono ?_; rintro e w11 ⟨rfl, hb11⟩; simp only [decide_true, Bool.and_self])
              have hC11 : Below w9.heap.size w9 w11 := Below.thru hC10 hb11 (Nat.le_refl _)
              refine ⟨hC11, ?_⟩
              refine wpMix_stage ?_
              repeat (go_big_quiet_step (fail))
              refine wpQuiet_nil ?_
              go_wp2
              refine ⟨hC11, ?_⟩
              refine wpMix_stage ?_
              refine wpQuiet_nil ?_
              go_wp2
              refine ⟨hC11, ?_⟩
              have hC13 := hC11
              refine wpMix_last ?_
              repeat (go_big_quiet_step (fail))
              refine wpQuiet_nil ?_
              go_wp2
              go_ret
              exact ⟨rfl, hB9.trans (hC13.mono hB9.size)⟩
          · have hf0 : (f3 == 0) = false := hFB.out
            cases hg : (g3 != 0)
            · have eF : fencedT xs fs = fs := by unfold fencedT; rw [HG3.out, if_pos (by simpa using hg), HFG.out]
              have EF : Hid _ := eF
              clear eF
              go_wp2
              refine wp_region_mix [([0, 1, 2, 3, 4, 5, 6, 7, 8, 9, 10, 11, 13], 12), ([], 14), ([15, 16, 17, 18, 19, 20, 21, 23], 22), ([], 24)] [25, 26, 27] (by kernel_rfl) (by kernel_rfl) (fun _ _ d _ _ h => by cases d <;> exact h) ?_
              dsimp only [List.map, opAt]
              refine wpMix_stage ?_
              repeat (go_big_quiet_step (fail))
              refine wpQuiet_nil ?_
              go_wp2
              refine ⟨hD, ?_⟩
              refine wpMix_stage ?_
              refine wpQuiet_nil ?_
              go_wp2
              refine ⟨hD, ?_⟩
              have hC11 : Below w9.heap.size w9 w9.drew := hD
              refine wpMix_stage ?_
              repeat (go_big_quiet_step (fail))
              refine wpQuiet_nil ?_
              have C := Fenced_any _ _ _ _ xs fs _ (T.below (hB9.trans (hC11.mono hB9.size))) (W1.keep hC11) (W2.keep hC11) (by omega) (by omega) (by omega)
              rw [EF.out] at C
              go_wp2_with (go_at_call 16; refine C.mono ?_; rintro e w12 ⟨ai2, bi2, at2, bt2, rfl, t3, t4, hb12⟩)
              clear C
              have hC12 : Below w9.heap.size w9 w12 := Below.thru hC11 hb12 (Nat.le_refl _)
              refine ⟨hC12, ?_⟩
              refine wpMix_stage ?_
              refine wpQuiet_nil ?_
              go_wp2_with (go_at_call 17; refine (Same_any _ _ _ _ _ _ _ _ xs xs fs fs _ t3.any (W1.keep hC12) t4.any (W2.keep hC12) (by omega) (by omega) HLF.out).mono ?_; rintro e w13 ⟨rfl, hb13⟩; simp only [decide_true, Bool.and_self])
              have hC13 : Below w9.heap.size w9 w13 := Below.thru hC12 hb13 (Nat.le_refl _)
              refine ⟨hC13, ?_⟩
              refine wpMix_last ?_
              repeat (go_big_quiet_step (fail))
              refine wpQuiet_nil ?_
              go_wp2
              go_ret
              exact ⟨rfl, hB9.trans (hC13.mono hB9.size)⟩
            · go_wp2
              refine wp_region_mix [([0, 1, 2, 3, 4, 5, 6, 7, 8, 9, 10, 11, 13], 12), ([], 14), ([15, 16, 17, 18, 19, 20, 21, 23], 22), ([], 24)] [25, 26, 27] (by kernel_rfl) (by kernel_rfl) (fun _ _ d _ _ h => by cases d <;> exact h) ?_
              dsimp only [List.map, opAt]
              refine wpMix_stage ?_
              repeat (go_big_quiet_step (fail))
              refine wpQuiet_nil ?_
              go_wp2
              refine ⟨hD, ?_⟩
              refine wpMix_stage ?_
              refine wpQuiet_nil ?_
              go_wp2
              refine ⟨hD, ?_⟩
              have hC11 : Below w9.heap.size w9 w9.drew := hD
              refine wpMix_stage ?_
              repeat (go_big_quiet_step (fail))
              refine wpQuiet_nil ?_
              go_wp2
              refine ⟨hC11, ?_⟩
              refine wpMix_stage ?_
              refine wpQuiet_nil ?_
              go_wp2
              refine ⟨hC11, ?_⟩
              have hC13 := hC11
              refine wpMix_last ?_
              repeat (go_big_quiet_step (fail))
              refine wpQuiet_nil ?_
              go_wp2
              go_ret
              exact ⟨rfl, hB9.trans (hC13.mono hB9.size)⟩
end Go.Proofs.YtpmecgagbjphdaaDoor
