/- The contract of test.turned: each thread turned by itself. -/
import Derived.Test.YtpmecgagbjphdaaDoorTestTurned
import Derived.Test.YtpmecgagbjphdaaDoorMixL
namespace Go.Proofs.YtpmecgagbjphdaaDoor
open Go.RowKit
attribute [local go_sem] Ext.cell Ext.frozen

set_option maxHeartbeats 4000000 in
theorem turned_any (f : FuncId) (hff : f = 29 ∨ f = 32 ∨ f = 44) (ok : List Ins → Bool) (g : List Ins → List Ins) (hf : TurnOk f ok g) (pi pt : Option Addr) (ci ct : Nat) (xs : List Int) (ts : List (List Ins)) (w : World) (T : Tab w)
    (hi : Sl IntE w (.slice pi xs.length ci) xs) (ht : Sl ThrE w (.slice pt ts.length ct) ts) (hL : xs.length ≤ 1000000) (hM : ts.length ≤ 1000000) (hN : ∀ l ∈ ts, l.length ≤ 1000000 ∧ ok l = true) :
    Calls Tryd.prog 28 #[.agg #[.slice pi xs.length ci, .slice pt ts.length ct], .func (.func f) #[] #[]] w fun e w' => ∃ qi di qt dt, e = .returned (.agg #[.slice qi xs.length di, .slice qt (ts.map g).length dt]) ∧
      SlA (fun b => w.heap.size ≤ b) IntE w' (.slice qi xs.length di) xs ∧ SlA (fun b => w.heap.size ≤ b) ThrE w' (.slice qt (ts.map g).length dt) (ts.map g) ∧ Below w.heap.size w w' := by
  have HF : Hid _ := hf
  have HN : Hid _ := hN
  clear hf hN
  obtain ⟨i0, z0, j1, j2, j3, j4, j5⟩ := info_get info_thr
  have J1 : Hid _ := j1
  have J2 : Hid _ := j2
  have J3 : Hid _ := j3
  have J4 : Hid _ := j4
  have J5 : Hid _ := j5
  clear j1 j2 j3 j4 j5
  have hb1 := (((Below.refl w.heap.size w).alloc (Nat.le_refl _) (.cells #[.slice pi xs.length ci, .slice pt ts.length ct] 25)).alloc (by simp) (.cells #[.slice none 0 0, .slice none 0 0] 25))
  have hi1 := hi.keep hb1
  rcases hff with rfl | rfl | rfl
  all_goals
    go_enter Tryd.func28, Tryd.ntmps28
    go_wp2_with (go_at_call 46; refine (cloneInt_any _ _ _ _ hi1 hL).mono ?_; rintro e w3 ⟨p3, c3, rfl, hs3, hb3⟩; obtain ⟨hc3, hf3⟩ := bcell hb3; have hz3 : w.heap.size + 1 < w3.heap.size := (by have := hb3.size; simp at this; omega); have hz4 : w.heap.size < w3.heap.size := (by omega))
    have hB3 := hb1.trans (hb3.mono (by simp; omega))
    have hR3 : Blk w3 (w.heap.size + 1) #[.slice none 0 0, .slice none 0 0] 25 := Blk.keep (by have := Blk.new (w := w.alloc (.cells #[.slice pi xs.length ci, .slice pt ts.length ct] 25)) (cs := #[.slice none 0 0, .slice none 0 0]) (t := 25); simpa using this) hb3
    generalize hu : w3.heap.size = u at *
    have hN3 : Blk (w3.alloc (.cells #[.slice p3 xs.length c3, .slice none 0 0] 25)) u #[.slice p3 xs.length c3, .slice none 0 0] 25 := by rw [← hu]; exact Blk.new
    have HU : Hid _ := hu
    clear hu
    go_loopw [15] (fun i wr => ∃ (k : Nat) (a : Value) (out : List (List Ins)), k ≤ ts.length ∧ i = .int .i64 k ∧ Blk wr u #[.slice p3 xs.length c3, a] 25 ∧ Blk wr (w.heap.size + 1) #[.slice none 0 0, .slice none 0 0] 25 ∧
      Own (fun b => u + 1 ≤ b) ThrE wr (u + 1) 37 a out ∧ out ++ (ts.drop k).map g = ts.map g ∧ out.length = k ∧ Below u w3 wr) (fun i _ => ts.length - (intOf i).toNat)
    case atStart => exact ⟨0, _, [], Nat.zero_le _, rfl, hN3, Blk.keep hR3 ((Below.refl _ _).alloc (Nat.le_refl _) _), Own.nil, by simp, rfl, (Below.refl _ _).alloc (by rw [HU.out]; exact Nat.le_refl _) _⟩
    case round =>
      obtain ⟨k, a, out, hk, rfl, hBu, hBr, hO, hS, hlen, hB⟩ := hrel
      have HS : Hid _ := hS
      have HLen : Hid _ := hlen
      clear hS hlen
      have hBw : Below w.heap.size w wr := hB3.trans (hB.mono (by omega))
      obtain ⟨pa, ca, rfl⟩ := hO.len
      have hu0 := hBu.cell 0
      have hu1 := hBu.cell 1
      have hur := hBu.frozen 1
      have hul := hBu.lt
      by_cases hlt : k < ts.length
      · obtain ⟨tb, to, rfl, v, hv, hV⟩ := (thr_at (ht.keep hBw)).2 k hlt
        generalize hl : ts[k] = l at hV
        have HL : Hid (ts.drop k = l :: ts.drop (k + 1)) := by rw [← hl]; exact drop_at hlt
        have hNl := HN.out l (by rw [← hl]; exact List.getElem_mem hlt)
        have HNl : Hid _ := hNl
        clear hl hNl
        obtain ⟨pv, cv, rfl⟩ := hV.len
        simp at hu0 hu1
        go_wp2
        have hne : ∀ w, Nonempty (Ext w) := ext_some
        have hne2 : Nonempty AnyW := anyW_some
        refine wp_region_mixL [([0, 1, 2, 3], 4, false), ([], 5, false), ([], 6, true), ([7], 8, true)] [] [6, 8] (by kernel_rfl) (by kernel_rfl) (fun _ _ d _ _ h => by cases d <;> exact h) ?_
        dsimp only [List.map, mapL, opAt]
        refine wpMixL_stage ?_
        repeat (go_big_quiet_step (fail))
        refine wpQuiet_nil ?_
        have hD : Below wr.heap.size wr wr.drew := (Below.refl _ _).drew
        go_wp2_with (refine (HF.out _ _ l _ (T.below (hBw.trans (hD.mono hBw.size))) (hV.keep hD) HNl.out.1 HNl.out.2).mono ?_; rintro e w4 ⟨p4, c4, rfl, hs4, hb4⟩)
        have hB4 : Below wr.heap.size wr w4 := hD.trans hb4
        refine ⟨.inr hB4, ?_⟩
        refine wpMixL_stage ?_
        refine wpQuiet_nil ?_
        go_wp2
        have hB5 := hB4.alloc hB4.size (.cells #[.slice p4 (g l).length c4] 37)
        refine ⟨.inr hB5, ?_⟩
        refine wpMixL_stage ?_
        refine wpQuiet_nil ?_
        have hsrc : SlA (fun b => wr.heap.size ≤ b) ThrE (w4.alloc (.cells #[.slice p4 (g l).length c4] 37)) (.slice (some ⟨w4.heap.size, 0, none⟩) 1 1) [g l] :=
          sl_one hB4.size (by simp) ((SlA.mono (fun b hb => hb) hs4).keep ((Below.refl _ _).alloc (Nat.le_refl _) _)) (Nat.le_refl _)
        have hown := fun q (hq : (Value.slice pa out.length ca).ownBlock = some q) => (hO.lt q hq)
        have hOl : out.length ≤ 1000000 := by have := HLen.out; omega
        go_wp2_with (at_builtin; refine wpList_app (R := ThrE) (A := fun b => u + 1 ≤ b) (xs := out) (ys := [g l]) (by rfl) (.tmp 20) (.tmp 24) 23 37 i0 z0 24 (by rfl) Tryd.underlying23 J1.out J2.out J4.out J5.out J3.out (u + 1) (.slice pa out.length ca) (.slice (some ⟨w4.heap.size, 0, none⟩) 1 1) (by rfl) (by rfl) (hO.keep hB5) hsrc (fun y _ c hc => ThrE.mono (fun b hb => ⟨by omega, fun e => by have := hown b e.symm; omega⟩) hc) (by simp; omega) (by decide) (by have := hB5.size; omega) ?_; intro p6 c6 w6 hO6 hg6 hat6)
        refine ⟨.inl trivial, ?_⟩
        have hB6u : Blk w6 u #[.slice p3 xs.length c3, .slice pa out.length ca] 25 := (hBu.keep hB5).grown hg6 (fun e => by have := hown u e.symm; omega)
        have hB6r : Blk w6 (w.heap.size + 1) #[.slice none 0 0, .slice none 0 0] 25 := (hBr.keep hB5).grown hg6 (fun e => by have := hown _ e.symm; omega)
        have hu61 := hB6u.cell 1
        have hu6r := hB6u.frozen 1
        simp at hu61
        refine wpMixL_stage_late ?_
        simp only [Act.put, List.setIfInBounds_toArray, List.set]
        repeat (go_big_quiet_step (fail))
        refine wpQuiet_nil ?_
        go_wp2
        refine ⟨.inl trivial, ?_⟩
        refine wpMixL_last ?_
        refine wpQuiet_nil ?_
        go_wp2
        go_roundw
        case rel => exact ⟨k + 1, .slice p6 (out ++ [g l]).length c6, out ++ [g l], by omega, by go_num, by simpa using hB6u.set (i := 1) (.slice p6 (out ++ [g l]).length c6), hB6r.grown (grownBy_set _ _ _) (by simp; omega),
          hO6.agree (grownBy_set _ _ _) (fun q hq => by simp at hq; subst hq; exact ⟨by omega, fun e => by have := (hO6.lt _ e).1; omega⟩), by rw [HL.out] at HS; rw [List.append_assoc]; exact HS.out, by simp [HLen.out],
          ((hB.trans (hB5.mono (by omega))).grown hg6 (by have := hB5.size; omega) (fun q hq => by have := (hown q hq).1; omega)).setCell (Nat.le_refl _) _⟩
        case measure => simp [intOf]; omega
      · have hr0 := hBr.cell 0
        have hr1 := hBr.cell 1
        have hrf0 := hBr.frozen 0
        have hrf1 := hBr.frozen 1
        have hrl := hBr.lt
        simp at hu0 hu1 hr0 hr1
        have e : out = ts.map g := by have := HS.out; rw [List.drop_of_length_le (by omega)] at this; simpa using this
        have HE : Hid _ := e
        clear e
        go_wp2
        have hBf := ((hBw.setCell (p := ⟨w.heap.size + 1, 0, none⟩) (by simp) (.slice p3 xs.length c3)).setCell (p := ⟨w.heap.size + 1, 1, none⟩) (by simp) (.slice pa out.length ca))
        have hne : w.heap.size + 1 ≠ u := by omega
        have g1 := grownBy_set wr ⟨w.heap.size + 1, 0, none⟩ (.slice p3 xs.length c3)
        have g2 := grownBy_set (wr.setCell ⟨w.heap.size + 1, 0, none⟩ (.slice p3 xs.length c3)) ⟨w.heap.size + 1, 1, none⟩ (.slice pa out.length ca)
        have hOf := (hO.agree g1 (fun q hq => by simp at hq; subst hq; exact ⟨by omega, fun e => by have := (hO.lt _ e).1; omega⟩))
        have hOg := (hOf.agree g2 (fun q hq => by simp at hq; subst hq; exact ⟨by omega, fun e => by have := (hO.lt _ e).1; omega⟩))
        have hOs := SlA.mono (B := fun b => w.heap.size ≤ b) (fun b hb => by rcases hb with hb | hb <;> omega) hOg.sl
        have hs4 : SlA (fun b => w.heap.size + 2 ≤ b ∧ b < u) IntE w3 (.slice p3 xs.length c3) xs := SlA.mono (fun b hb => ⟨by have := hb.1; simp at this; omega, by rw [← HU.out]; exact hb.2⟩) hs3.lt
        have hs5 := hs4.agree (Below.agreeAt hB (fun b hb => hb.2))
        have hs6 := (hs5.agree (grownBy_agree g1 (fun b hb e => by simp at e; omega))).agree (grownBy_agree g2 (fun b hb e => by simp at e; omega))
        have hs7 := SlA.mono (B := fun b => w.heap.size ≤ b) (fun b hb => by omega) hs6
        have hBb := (hBr.set (i := 0) (.slice p3 xs.length c3)).set (i := 1) (.slice pa out.length ca)
        have hb0 := hBb.cell 0
        have hb1 := hBb.cell 1
        simp at hb0 hb1
        clear hr0 hr1 hu0 hu1
        generalize hwf : (wr.setCell ⟨w.heap.size + 1, 0, none⟩ (.slice p3 xs.length c3)).setCell ⟨w.heap.size + 1, 1, none⟩ (.slice pa out.length ca) = wf at *
        have hel : out.length = (ts.map g).length := by rw [HE.out]
        rw [HE.out] at hOs
        refine bodyPost_ret (v := .agg #[.slice p3 xs.length c3, .slice pa out.length ca]) (by simp [results, Tryd.results28, go_sem, hb0, hb1]) rfl ⟨p3, c3, pa, ca, by rw [hel], hs7, hOs, hBf⟩
end Go.Proofs.YtpmecgagbjphdaaDoor
