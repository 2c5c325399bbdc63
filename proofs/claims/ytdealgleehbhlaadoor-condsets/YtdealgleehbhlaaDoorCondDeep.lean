/- The contract of cond.deepCopy. -/
import Derived.Test.YtdealgleehbhlaaDoorCondClone
import Derived.Test.YtdealgleehbhlaaDoorCondOpen
namespace Go.Proofs.YtdealgleehbhlaaDoor
open Go.RowKit
attribute [local go_sem] Ext.cell Ext.frozen

theorem ret_two {w w3 : World} {r : Nat} {cs : Array Value} {t : TypeId} {v1 v2 : Value} {α β : Type} {R1 : Elem α} {R2 : Elem β} {xs : List α} {ys : List β} (hR : Blk w3 r cs t) (hcs : cs.size = 2) (hr : w.heap.size ≤ r)
    (s1 : SlA (fun b => r + 1 ≤ b) R1 w3 v1 xs) (s2 : SlA (fun b => r + 1 ≤ b) R2 w3 v2 ys) (hB : Below w.heap.size w w3) :
    ((w3.setCell ⟨r, 0, none⟩ v1).setCell ⟨r, 1, none⟩ v2).cell? ⟨r, 0, none⟩ = some v1 ∧ ((w3.setCell ⟨r, 0, none⟩ v1).setCell ⟨r, 1, none⟩ v2).cell? ⟨r, 1, none⟩ = some v2 ∧
    SlA (fun b => w.heap.size ≤ b) R1 ((w3.setCell ⟨r, 0, none⟩ v1).setCell ⟨r, 1, none⟩ v2) v1 xs ∧ SlA (fun b => w.heap.size ≤ b) R2 ((w3.setCell ⟨r, 0, none⟩ v1).setCell ⟨r, 1, none⟩ v2) v2 ys ∧ Below w.heap.size w ((w3.setCell ⟨r, 0, none⟩ v1).setCell ⟨r, 1, none⟩ v2) := by
  have hRs := (hR.set (i := 0) v1).set (i := 1) v2
  have hb0 := hRs.cell 0
  have hb1 := hRs.cell 1
  have g1 := grownBy_set w3 ⟨r, 0, none⟩ v1
  have g2 := grownBy_set (w3.setCell ⟨r, 0, none⟩ v1) ⟨r, 1, none⟩ v2
  have t1 := (s1.agree (grownBy_agree g1 (fun b hb e => by simp at e; omega))).agree (grownBy_agree g2 (fun b hb e => by simp at e; omega))
  have t2 := (s2.agree (grownBy_agree g1 (fun b hb e => by simp at e; omega))).agree (grownBy_agree g2 (fun b hb e => by simp at e; omega))
  refine ⟨?_, ?_, SlA.mono (fun b hb => by omega) t1, SlA.mono (fun b hb => by omega) t2, (hB.setCell (p := ⟨r, 0, none⟩) hr v1).setCell (p := ⟨r, 1, none⟩) hr v2⟩
  · rw [hb0, Array.getElem?_setIfInBounds_ne (by decide), Array.getElem?_setIfInBounds_self_of_lt (by omega)]
  · rw [hb1, Array.getElem?_setIfInBounds_self_of_lt (by simp [hcs])]

set_option maxRecDepth 20000 in
set_option maxHeartbeats 4000000 in
theorem deepCopy_any (v1 v2 : Value) (o : Out) (w : World) (ho : OutV w v1 v2 o) (hz : Ozb o) :
    Calls Tryd.prog 36 #[.agg #[v1, v2]] w fun e w' => ∃ u1 u2, e = .returned (.agg #[u1, u2]) ∧ SlA (fun b => w.heap.size ≤ b) (SlE IntE) w' u1 o.regs ∧ SlA (fun b => w.heap.size ≤ b) IntE w' u2 o.mem ∧ Below w.heap.size w w' := by
  obtain ⟨rs, ms⟩ := o
  have er : reachBytes = 140737488351232 := rfl
  obtain ⟨z1, z2, z3⟩ : rs.length * 24 ≤ reachBytes ∧ (∀ l ∈ rs, l.length * 8 ≤ reachBytes) ∧ ms.length * 8 ≤ reachBytes := hz
  obtain ⟨s1, s2⟩ : Sl (SlE IntE) w v1 rs ∧ Sl IntE w v2 ms := ho
  obtain ⟨p1, c1, rfl⟩ := s1.len
  obtain ⟨p2, c2, rfl⟩ := s2.len
  try clear hz
  try clear ho
  obtain ⟨i0, z0, j1, j2, j3, j4, j5⟩ := info_get info_nums
  have J1 : Hid _ := j1
  have J2 : Hid _ := j2
  have J3 : Hid _ := j3
  have J4 : Hid _ := j4
  have J5 : Hid _ := j5
  have Z2 : Hid _ := z2
  have ER : Hid _ := er
  have z1' : rs.length * 24 ≤ 140737488351232 := z1
  clear j1 j2 j3 j4 j5 z2 er z1
  go_enter Tryd.func36, Tryd.ntmps36
  go_wp2
  go_loopw [9] (fun i wr => ∃ (k : Nat) (a : Value) (out : List (List Int)), k ≤ rs.length ∧ i = .int .i64 k ∧ Blk wr w.heap.size #[.slice p1 rs.length c1, .slice p2 ms.length c2] 36 ∧ Blk wr (w.heap.size + 1) #[.slice none 0 0, .slice none 0 0] 36 ∧ Blk wr (w.heap.size + 2) #[a, .slice none 0 0] 36 ∧
    Own (fun b => w.heap.size + 3 ≤ b) (SlE IntE) wr (w.heap.size + 3) 34 a out ∧ out ++ rs.drop k = rs ∧ out.length = k ∧ Below w.heap.size w wr) (fun i _ => rs.length - (intOf i).toNat)
  case atStart => exact ⟨0, _, [], Nat.zero_le _, rfl, ((Blk.newAt rfl).alloc _).alloc _, (Blk.newAt (by simp)).alloc _, Blk.newAt (by simp), Own.nil, by simp, rfl, by go_grown⟩
  case round =>
    obtain ⟨k, a, out, hk, rfl, hBt, hBr, hBu, hO, hS, hlen, hB⟩ := hrel
    have HS : Hid _ := hS
    have HLen : Hid _ := hlen
    have hol : out.length ≤ rs.length := by omega
    clear hS hlen
    obtain ⟨pa, ca, rfl⟩ := hO.len
    have hu0 := hBu.cell 0
    have hur := hBu.frozen 0
    have hul := hBu.lt
    by_cases hlt : k < rs.length
    · obtain ⟨tb, to, rfl, v, hv, hV⟩ := (sl_at (s1.keep hB)).2 k hlt
      have hzl := Z2.out _ (List.getElem_mem hlt)
      rw [ER.out] at hzl
      generalize hll : rs[k] = l at hV hzl
      have HL : Hid (rs.drop k = l :: rs.drop (k + 1)) := by rw [← hll]; exact drop_at hlt
      clear hll
      obtain ⟨pv, cv, rfl⟩ := hV.len
      simp at hu0
      have hlt' : (k : Int) < (rs.length : Int) := by omega
      have hok : out.length < rs.length := by have := HLen.out; omega
      go_wp2
      have hne : ∀ w, Nonempty (Ext w) := ext_some
      have hne2 : Nonempty AnyW := anyW_some
      refine wp_region_mixL [([0, 1, 2], 3, false), ([], 4, false), ([], 5, true), ([6], 7, true)] [] [5, 7] (by kernel_rfl) (by kernel_rfl) (fun _ _ d _ _ h => by cases d <;> exact h) ?_
      dsimp only [List.map, mapL, opAt]
      refine wpMixL_stage ?_
      repeat (go_big_quiet_step (fail))
      refine wpQuiet_nil ?_
      have hD : Below wr.heap.size wr wr.drew := (Below.refl _ _).drew
      go_wp2_with (go_at_call 48; refine (cloneI_any pv cv l _ (SlA.keep hV hD) (by omega)).mono ?_; rintro e w4 ⟨u4, rfl, hs4, hb4⟩)
      have hB4 : Below wr.heap.size wr w4 := hD.trans hb4
      obtain ⟨p4, c4, rfl⟩ := hs4.len
      refine ⟨.inr hB4, ?_⟩
      refine wpMixL_stage ?_
      refine wpQuiet_nil ?_
      go_wp2
      have hB5 := hB4.alloc hB4.size (.cells #[.slice p4 l.length c4] 34)
      refine ⟨.inr hB5, ?_⟩
      refine wpMixL_stage ?_
      refine wpQuiet_nil ?_
      have hsrc : SlA (fun b => wr.heap.size ≤ b) (SlE IntE) (w4.alloc (.cells #[.slice p4 l.length c4] 34)) (.slice (some ⟨w4.heap.size, 0, none⟩) 1 1) [l] :=
        sl_one hB4.size (by simp) ((SlA.mono (fun b hb => hb) hs4).keep ((Below.refl _ _).alloc (Nat.le_refl _) _)) (Nat.le_refl _)
      have hown := fun q (hq : (Value.slice pa out.length ca).ownBlock = some q) => (hO.lt q hq)
      go_wp2_with (at_builtin; refine wpList_appB (R := SlE IntE) (A := fun b => w.heap.size + 3 ≤ b) (xs := out) (ys := [l]) (by rfl) (.tmp 14) (.tmp 17) 33 34 i0 z0 24 (by rfl) Tryd.underlying33 J1.out J2.out J4.out J5.out J3.out (w.heap.size + 3) (.slice pa out.length ca) (.slice (some ⟨w4.heap.size, 0, none⟩) 1 1) (by rfl) (by rfl) (hO.keep hB5) hsrc (fun y _ c hc => (SlE IntE).mono (fun b hb => ⟨by omega, fun e => by have := hown b e.symm; omega⟩) hc) (by simp only [List.length_cons, List.length_nil]; unfold maxLen; omega) (by simp only [List.length_cons, List.length_nil]; omega) (by have := hB5.size; omega) ?_; intro p6 c6 w6 hO6 hg6 hat6)
      refine ⟨.inl trivial, ?_⟩
      have hB6u : Blk w6 (w.heap.size + 2) #[.slice pa out.length ca, .slice none 0 0] 36 := (hBu.keep hB5).grown hg6 (fun e => by have := hown _ e.symm; omega)
      have hB6r : Blk w6 (w.heap.size + 1) #[.slice none 0 0, .slice none 0 0] 36 := (hBr.keep hB5).grown hg6 (fun e => by have := hown _ e.symm; omega)
      have hB6t : Blk w6 w.heap.size #[.slice (some ⟨tb, to, none⟩) rs.length c1, .slice p2 ms.length c2] 36 := (hBt.keep hB5).grown hg6 (fun e => by have := hown _ e.symm; omega)
      have hu61 := hB6u.cell 0
      have hu6r := hB6u.frozen 0
      simp at hu61
      refine wpMixL_stage_late ?_
      simp only [Act.put, List.setIfInBounds_toArray, List.set]
      repeat (go_big_quiet_step (fail))
      refine wpQuiet_nil ?_
      go_wp2
      refine ⟨.inl trivial, ?_⟩
      refine wpMixL_last ?_
      refine wpQuiet_nil ?_
      go_wp2
      go_roundw
      case rel => exact ⟨k + 1, .slice p6 (out ++ [l]).length c6, out ++ [l], by omega, by go_num, hB6t.grown (grownBy_set _ _ _) (by simp; omega), hB6r.grown (grownBy_set _ _ _) (by simp), by simpa using hB6u.set (i := 0) (.slice p6 (out ++ [l]).length c6),
        by simpa using hO6.agree (grownBy_set _ ⟨w.heap.size + 2, 0, none⟩ (.slice p6 (out ++ [l]).length c6)) (fun q hq => by simp at hq; subst hq; exact ⟨by omega, fun e => by have := (hO6.lt _ e).1; omega⟩), by rw [HL.out] at HS; rw [List.append_assoc]; exact HS.out, by simp [HLen.out],
        ((hB.trans (hB5.mono hB.size)).grown hg6 (by have := hB5.size; have := hB.size; omega) (fun q hq => by have := (hown q hq).1; omega)).setCell (by simp; omega) _⟩
      case measure => simp [intOf]; omega
    · have e : out = rs := by have := HS.out; rw [List.drop_of_length_le (by omega)] at this; simpa using this
      subst e
      have z3' : ms.length * 8 ≤ 140737488355328 := by have := z3; rw [ER.out] at this; omega
      have ht1 := hBt.cell 1
      simp at ht1 hu0
      go_wp2_with (go_at_call 48; refine (cloneI_any p2 c2 ms _ (s2.keep hB) z3').mono ?_; rintro e w4 ⟨u4, rfl, hs4, hb4⟩; obtain ⟨p4, c4, rfl⟩ := hs4.len; have hc0 := (hBu.keep hb4).cell 0; have hc1 := (hBu.keep hb4).cell 1; have hcf := (hBu.keep hb4).frozen 1; have hcl := (hBu.keep hb4).lt; have hr0 := (hBr.keep hb4).cell 0; have hr1 := (hBr.keep hb4).cell 1; have hrf := (hBr.keep hb4).frozen 0; have hrf1 := (hBr.keep hb4).frozen 1; have hrl := (hBr.keep hb4).lt; simp only [List.getElem?_toArray, List.getElem?_cons_zero, List.getElem?_cons_succ] at hc0 hc1 hr0 hr1)
      have g0 := grownBy_set w4 ⟨w.heap.size + 2, 1, none⟩ (.slice p4 ms.length c4)
      have t1 : SlA (fun b => w.heap.size + 2 ≤ b) (SlE IntE) _ (.slice pa out.length ca) out := SlA.mono (fun b hb => by rcases hb with hb | hb <;> omega) ((hO.keep hb4).agree g0 (fun q hq => by simp at hq; subst hq; exact ⟨by omega, fun e => by have := (hO.lt _ e).1; omega⟩)).sl
      have hbz := hB.size
      have hul' := hBu.lt
      have t2 : SlA (fun b => w.heap.size + 2 ≤ b) IntE _ (.slice p4 ms.length c4) ms := SlA.mono (fun b hb => by omega) (hs4.agree (grownBy_agree g0 (fun b hb e => by simp at e; omega)))
      have hR := (hBr.keep hb4).grown g0 (by simp)
      have hBf := (hB.trans (hb4.mono hbz)).setCell (p := ⟨w.heap.size + 2, 1, none⟩) (by simp) (.slice p4 ms.length c4)
      obtain ⟨d0, d1, r1, r2, hBe⟩ := ret_two (w := w) hR rfl (by omega) t1 t2 hBf
      exact bodyPost_ret (v := .agg #[.slice pa out.length ca, .slice p4 ms.length c4]) (by simp [results, Tryd.results36, go_sem, d0, d1]) rfl ⟨_, _, rfl, r1, r2, hBe⟩
end Go.Proofs.YtdealgleehbhlaaDoor
