/- TestTurns: for every test the law answers true. -/
import Derived.Test.YtpmecgagbjphdaaDoorTestChecksW
import Derived.Test.YtpmecgagbjphdaaDoorTestSame
import Derived.Test.YtpmecgagbjphdaaDoorTestRefFenced
namespace Go.Proofs.YtpmecgagbjphdaaDoor
open Go.RowKit Classical
attribute [local go_sem] Ext.cell Ext.frozen

theorem len_pos_few {xs : List Int} {ts : List (List Ins)} : (bareT xs ts).length = ts.length ∧ (fencedT xs ts).length = ts.length := by
  unfold bareT fencedT
  split <;> simp
theorem fencedL_len (l : List Ins) : (fencedL l).length ≤ 2 * l.length := by
  have h1 := relay_len lay1_len (bareL l)
  have h2 := bareL_len l
  unfold fencedL; omega
theorem bareT_lens {xs : List Int} {ts : List (List Ins)} (h : ∀ l ∈ ts, l.length ≤ 40) : (∀ l ∈ bareT xs ts, l.length ≤ 1000000) ∧ ∀ l ∈ fencedT xs ts, l.length ≤ 1000000 := by
  unfold bareT fencedT
  split
  · constructor
    · intro l hl
      obtain ⟨l', hl', rfl⟩ := List.mem_map.1 hl
      have := bareL_len l'
      have := h l' hl'
      omega
    · intro l hl
      obtain ⟨l', hl', rfl⟩ := List.mem_map.1 hl
      have := fencedL_len l'
      have := h l' hl'
      omega
  · exact ⟨fun l hl => by have := h l hl; omega, fun l hl => by have := h l hl; omega⟩

set_option maxRecDepth 20000 in
set_option maxHeartbeats 4000000 in
theorem TestTurns_true (pi pt : Option Addr) (ci ct : Nat) (xs : List Int) (ts : List (List Ins)) (w : World) (T : Tab w) (hi : Sl IntE w (.slice pi xs.length ci) xs) (ht : Sl ThrE w (.slice pt ts.length ct) ts) :
    Calls Tryd.prog 4 #[.agg #[.slice pi xs.length ci, .slice pt ts.length ct]] w fun e w' => e = .returned (.bool true) ∧ Below w.heap.size w w' := by
  have hb1 := ((Below.refl w.heap.size w).alloc (Nat.le_refl _) (.cells #[.slice pi xs.length ci, .slice pt ts.length ct] 25))
  have hK : Blk (w.alloc (.cells #[.slice pi xs.length ci, .slice pt ts.length ct] 25)) w.heap.size #[.slice pi xs.length ci, .slice pt ts.length ct] 25 := Blk.new
  go_enter Tryd.func4, Tryd.ntmps4
  go_wp2_with fail
  refine (shown2_any _ (T.below hb1)).mono ?_
  rintro e w1 ⟨rfl, hb1'⟩
  have hB1 := hb1.trans (hb1'.mono hb1.size)
  have hK1 := hK.keep hb1'
  have k0 := hK1.cell 0
  have k1 := hK1.cell 1
  simp at k0 k1
  go_wp2_with fail
  refine (Few_any _ _ _ _ xs ts _ (ht.keep hB1)).mono ?_
  rintro e w2 ⟨rfl, hb2⟩
  have hB2 := hB1.trans (hb2.mono hB1.size)
  have hK2 := hK1.keep hb2
  cases hfew : fewB xs ts
  · go_wp2
    go_ret
    exact ⟨rfl, hB2⟩
  · have hS : sizeTs ts ≤ 400 := size_few' hfew
    have hT : ts.length ≤ 10 := (few_parts hfew).2.1
    have hX : xs.length ≤ 10 := (few_parts hfew).1
    obtain ⟨hl1, hl2⟩ := bareT_lens (xs := xs) (few_parts hfew).2.2
    obtain ⟨hn1, hn2⟩ := len_pos_few (xs := xs) (ts := ts)
    clear hfew k0 k1
    have k0 := hK2.cell 0
    have k1 := hK2.cell 1
    simp at k0 k1
    have HB : Hid _ := (rfl : bareT xs ts = bareT xs ts)
    generalize hbs : bareT xs ts = bs at hl1 hn1
    generalize hfs : fencedT xs ts = fs at hl2 hn2
    have HBS : Hid _ := hbs
    have HFS : Hid _ := hfs
    have hbl : bs.length ≤ 10 := by omega
    have hfl : fs.length ≤ 10 := by omega
    have HL1 : Hid _ := hl1
    have HL2 : Hid _ := hl2
    clear hbs hfs hn1 hn2 hl1 hl2 HB
    have C := Bare_any _ _ _ _ xs ts _ (T.below hB2) (hi.keep hB2) (ht.keep hB2) (by omega) (by omega) (by omega)
    rw [HBS.out] at C
    go_wp2_with fail
    refine C.mono ?_
    clear C
    rintro e w3 ⟨qi, di, qt, dt, rfl, s1, s2, hb3⟩
    have hB3 := hB2.trans (hb3.mono hB2.size)
    have hK3 := hK2.keep hb3
    clear k0 k1
    have k0 := hK3.cell 0
    have k1 := hK3.cell 1
    have k2 := hK3.lt
    simp at k0 k1
    go_wp2_with fail
    have hbA : Below w3.heap.size w3 (w3.alloc (.cells #[.slice qi xs.length di, .slice qt bs.length dt] 25)) := (Below.refl _ _).alloc (Nat.le_refl _) _
    have hK4a : Blk (w3.alloc (.cells #[.slice qi xs.length di, .slice qt bs.length dt] 25)) w3.heap.size #[.slice qi xs.length di, .slice qt bs.length dt] 25 := Blk.new
    generalize hw4 : w3.alloc (.cells #[.slice qi xs.length di, .slice qt bs.length dt] 25) = w4 at hbA hK4a ⊢
    generalize hn3 : w3.heap.size = n3 at hK4a ⊢
    have HN3 : Hid _ := hn3
    clear hw4 hn3
    have hB4 := hB3.trans (hbA.mono hB3.size)
    have hK4 := hK3.keep hbA
    have C := Fenced_any _ _ _ _ xs ts _ (T.below hB4) (hi.keep hB4) (ht.keep hB4) (by omega) (by omega) (by omega)
    rw [HFS.out] at C
    refine C.mono ?_
    clear C k0 k1 k2
    rintro e w5 ⟨ri, ei, rt, et, rfl, u1, u2, hb5⟩
    have hB5 := hB4.trans (hb5.mono hB4.size)
    have hK5 := hK4.keep hb5
    have hK5a := hK4a.keep hb5
    have k0 := hK5.cell 0
    have k1 := hK5.cell 1
    have k2 := hK5.lt
    simp at k0 k1
    go_wp2_with fail
    have hbC : Below w5.heap.size w5 (w5.alloc (.cells #[.slice ri xs.length ei, .slice rt fs.length et] 25)) := (Below.refl _ _).alloc (Nat.le_refl _) _
    have hK6b : Blk (w5.alloc (.cells #[.slice ri xs.length ei, .slice rt fs.length et] 25)) w5.heap.size #[.slice ri xs.length ei, .slice rt fs.length et] 25 := Blk.new
    generalize hw6 : w5.alloc (.cells #[.slice ri xs.length ei, .slice rt fs.length et] 25) = w6 at hbC hK6b ⊢
    generalize hn5 : w5.heap.size = n5 at hK6b ⊢
    have HN5 : Hid _ := hn5
    clear hw6 hn5
    have hB6 := hB5.trans (hbC.mono hB5.size)
    have hK6 := hK5.keep hbC
    have hK6a := hK5a.keep hbC
    refine (refCheck_any _ _ _ _ xs ts _ (hi.keep hB6) (ht.keep hB6) (by omega)).mono ?_
    rintro e w7 ⟨rfl, hb7⟩
    have hB7 := hB6.trans (hb7.mono hB6.size)
    have hK7 := hK6.keep hb7
    have hK7a := hK6a.keep hb7
    have hK7b := hK6b.keep hb7
    clear k0 k1 k2
    have k0 := hK7.cell 0
    have k1 := hK7.cell 1
    have k2 := hK7a.cell 0
    have k3 := hK7a.cell 1
    have k4 := hK7b.cell 0
    have k5 := hK7b.cell 1
    simp at k0 k1 k2 k3 k4 k5
    have A1 : Sl IntE w7 (.slice qi xs.length di) xs := (((s1.any.keep hbA).keep hb5).keep hbC).keep hb7
    have A2 : Sl ThrE w7 (.slice qt bs.length dt) bs := (((s2.any.keep hbA).keep hb5).keep hbC).keep hb7
    have A3 : Sl IntE w7 (.slice ri xs.length ei) xs := (u1.any.keep hbC).keep hb7
    have A4 : Sl ThrE w7 (.slice rt fs.length et) fs := (u2.any.keep hbC).keep hb7
    have A5 := hi.keep hB7
    have A6 := ht.keep hB7
    by_cases hok : (checkZ xs ts).2.2 = 0
    · have hin := check_inside hok
      have eB : Hid (bs = ts.map bareL) := by unfold Hid; rw [← HBS.out]; unfold bareT; rw [if_pos hok]
      have eF : Hid (fs = ts.map fencedL) := by unfold Hid; rw [← HFS.out]; unfold fencedT; rw [if_pos hok]
      have HOK : Hid _ := hok
      generalize (checkZ xs ts).1 = c1
      generalize (checkZ xs ts).2.1 = c2
      rw [hok]
      clear hok
      have m0 := hK7.lt
      have m1 := hK7a.lt
      have m2 := hK7b.lt
      go_wp2
      have hne : ∀ w, Nonempty (Ext w) := ext_some
      refine wp_region_mix [([0, 1, 2, 3], 4), ([], 5), ([6, 7, 8, 9], 10), ([], 11)] [12, 13] (by kernel_rfl) (by kernel_rfl) (fun _ _ d _ _ h => by cases d <;> exact h) ?_
      dsimp only [List.map, opAt]
      have hD : Below w7.heap.size w7 w7.drew := (Below.refl _ _).drew
      refine wpMix_stage ?_
      repeat (go_big_quiet_step (fail))
      refine wpQuiet_nil ?_
      have C := refBare_any pi pt ci ct xs ts _ (A6.keep hD) (by omega) hin
      rw [← eB.out] at C
      go_wp2_with (go_at_call 18; refine C.mono ?_; rintro e w8 ⟨qt8, dt8, rfl, s8, hb8⟩)
      clear C
      have hC8 : Below w7.heap.size w7 w8 := hD.trans hb8
      refine ⟨hC8, ?_⟩
      refine wpMix_stage ?_
      refine wpQuiet_nil ?_
      go_wp2_with (go_at_call 17; refine (Same_any _ _ _ _ _ _ _ _ xs xs bs bs _ (A1.keep hC8) (A5.keep hC8) (A2.keep hC8) s8.any (by omega) (by omega) HL1.out).mono ?_; rintro e w9 ⟨rfl, hb9⟩; simp only [decide_true, Bool.and_self])
      have hC9 : Below w7.heap.size w7 w9 := Below.thru hC8 hb9 (Nat.le_refl _)
      refine ⟨hC9, ?_⟩
      refine wpMix_stage ?_
      repeat (go_big_quiet_step (fail))
      refine wpQuiet_nil ?_
      have C := refFenced_any pi pt ci ct xs ts _ (A6.keep hC9) (by omega) hin
      rw [← eF.out] at C
      go_wp2_with (go_at_call 19; refine C.mono ?_; rintro e w10 ⟨qt10, dt10, rfl, s10, hb10⟩)
      clear C
      have hC10 : Below w7.heap.size w7 w10 := Below.thru hC9 hb10 (Nat.le_refl _)
      refine ⟨hC10, ?_⟩
      refine wpMix_stage ?_
      refine wpQuiet_nil ?_
      go_wp2_with (go_at_call 17; refine (Same_any _ _ _ _ _ _ _ _ xs xs fs fs _ (A3.keep hC10) (A5.keep hC10) (A4.keep hC10) s10.any (by omega) (by omega) HL2.out).mono ?_; rintro e w11 ⟨rfl, hb11⟩; simp only [decide_true, Bool.and_self])
      have hC11 : Below w7.heap.size w7 w11 := Below.thru hC10 hb11 (Nat.le_refl _)
      refine ⟨hC11, ?_⟩
      refine wpMix_last ?_
      repeat (go_big_quiet_step (fail))
      refine wpQuiet_nil ?_
      go_wp2
      go_ret
      exact ⟨rfl, hB7.trans (hC11.mono hB7.size)⟩
    · have hok' : ((checkZ xs ts).2.2 != 0) = true := by simpa using hok
      have eB : Hid (bs = ts) := by unfold Hid; rw [← HBS.out]; unfold bareT; rw [if_neg hok]
      have eF : Hid (fs = ts) := by unfold Hid; rw [← HFS.out]; unfold fencedT; rw [if_neg hok]
      generalize (checkZ xs ts).2.2 = c3 at hok' ⊢
      clear hok
      go_wp2_with fail
      refine (Same_any _ _ _ _ _ _ _ _ xs xs bs ts _ A1 A5 A2 A6 (by omega) (by omega) HL1.out).mono ?_
      rintro e w8 ⟨rfl, hb8⟩
      rw [eB.out]
      simp only [decide_true, Bool.and_self]
      have hB8 := hB7.trans (hb8.mono hB7.size)
      obtain ⟨hc8, hf8⟩ := bcell hb8
      have m0 := hK7.lt
      have m1 := hK7b.lt
      go_wp2_with fail
      refine (Same_any _ _ _ _ _ _ _ _ xs xs fs ts _ (A3.keep hb8) (A5.keep hb8) (A4.keep hb8) (A6.keep hb8) (by omega) (by omega) HL2.out).mono ?_
      rintro e w9 ⟨rfl, hb9⟩
      rw [eF.out]
      simp only [decide_true, Bool.and_self]
      go_wp2
      go_ret
      exact ⟨rfl, hB8.trans (hb9.mono hB8.size)⟩
end Go.Proofs.YtpmecgagbjphdaaDoor
