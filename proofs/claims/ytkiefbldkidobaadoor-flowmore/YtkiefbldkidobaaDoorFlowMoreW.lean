/- FlowMore, walked: it answers true. -/
import Derived.Test.YtkiefbldkidobaaDoorFlowTold
import Derived.Test.YtkiefbldkidobaaDoorFlowBeginsW
import Derived.Test.YtkiefbldkidobaaDoorBase
namespace Go.Proofs.YtkiefbldkidobaaDoor
open Go.RowKit
attribute [local go_sem] Ext.cell Ext.frozen

/-- What the operations of a region give: one a trace, one a block of its own, the others values that are known ahead. -/
def phiT (base : Nat) (A : St) (vs : List (Option Value)) (ic ia : Nat) (i : Nat) (v : Value) (w : World) : Prop :=
  if i = ic then ∃ r n, v = .agg (trC r A) ∧ TrO w n r A
  else if i = ia then ∃ b, v = .pointer (some ⟨b, 0, none⟩) ∧ base ≤ b ∧ Blk w b zeroTr 40
  else match vs[i]? with
    | some (some u) => v = u
    | _ => True
theorem phiT_stab (base : Nat) (A : St) (vs : List (Option Value)) (ic ia : Nat) (i : Nat) (v : Value) (w w' : World) : phiT base A vs ic ia i v w → Below w.heap.size w w' → phiT base A vs ic ia i v w' := by
  unfold phiT
  intro h hb
  split
  · rename_i e
    rw [if_pos e] at h
    obtain ⟨r, n, h1, h2⟩ := h
    exact ⟨r, n, h1, h2.keep hb⟩
  · rename_i e
    rw [if_neg e] at h
    split
    · rename_i e'
      rw [if_pos e'] at h
      obtain ⟨b, h1, h2, h3⟩ := h
      exact ⟨b, h1, h2, h3.keep hb⟩
    · rename_i e'
      rw [if_neg e'] at h
      exact h
theorem elemI64 : Tryd.prog.elem 23 = 2 := by kernel_rfl
theorem elemBool : Tryd.prog.elem 24 = 4 := by kernel_rfl

set_option maxRecDepth 20000 in
set_option maxHeartbeats 8000000 in
theorem FlowMore_true (p pv pl : Option Addr) (c cv cl : Nat) (th : List Ins) (vals : List Int) (lucks : List Bool) (cut : Nat) (w : World) (T : FEnv w) (ht : Sl InsE w (.slice p th.length c) th) (hv : Sl IntE w (.slice pv vals.length cv) vals) (hl : Sl BoolE w (.slice pl lucks.length cl) lucks) (hcut : cut < 256) :
    Calls Tryd.prog 4 #[.slice p th.length c, .slice pv vals.length cv, .slice pl lucks.length cl, .int .u8 (cut : Int)] w fun e w' => e = .returned (.bool true) ∧ Below w.heap.size w w' := by
  have hne : ∀ w, Nonempty (Ext w) := ext_some
  by_cases hn : th.length ≤ 8 ∧ vals.length ≤ 40 ∧ lucks.length ≤ 40
  · obtain ⟨n1, n2, n3⟩ := hn
    have n1' : (th.length : Int) ≤ 8 := by omega
    have n2' : (vals.length : Int) ≤ 40 := by omega
    have n3' : (lucks.length : Int) ≤ 40 := by omega
    have hO := (runT_ok th 2 vals lucks).1
    have lenD := (runT_ok th 2 vals lucks).2
    have hvs := hO.vs
    have hls := hO.ls
    have hEn := runT_enough hvs hls
    have hlens := runT_lens th 2 vals lucks
    have hcut := fun k (hk : k ≤ (runT th 2 vals lucks).vals) => runT_cut hk hvs
    have hlenB := fun k => (runT_ok th 2 (vals.take k) lucks).2
    have hD := fun W (hb : Below w.heap.size w W) => Run_any p pv pl c cv cl th 2 vals lucks W (T.below hb).tab (T.below hb).bar (ht.keep hb) (hv.keep hb) (hl.keep hb) (by omega) (by omega)
    generalize runT th 2 vals lucks = D at *
    clear hO
    obtain ⟨cV, sV⟩ := cut_first elemI64 Tryd.underlying23 Tryd.sizeOf2 hv hvs
    obtain ⟨cL, sL⟩ := cut_first elemBool Tryd.underlying24 Tryd.sizeOf4 hl hls
    obtain ⟨j, hj⟩ : ∃ j, cut % (D.vals + 1) = j := ⟨_, rfl⟩
    have hjl : j ≤ D.vals := by rw [← hj]; exact Nat.le_of_lt_succ (Nat.mod_lt _ (Nat.succ_pos _))
    have hjt : (cut : Int).tmod ((D.vals : Int) + 1) = (j : Int) := by rw [← hj]; rfl
    clear hj
    obtain ⟨cJ, sJ⟩ := cut_first (k := j) elemI64 Tryd.underlying23 Tryd.sizeOf2 hv (by omega)
    have lva : (vals.take D.vals).length ≤ 40 := by rw [List.length_take]; omega
    have lla : (lucks.take D.lucks).length ≤ 40 := by rw [List.length_take]; omega
    have lvj : (vals.take j).length ≤ 40 := by rw [List.length_take]; omega
    have hA := fun W (hb : Below w.heap.size w W) => Run_own p pv pl c cv cl th 2 (vals.take D.vals) (lucks.take D.lucks) W (T.below hb).tab (T.below hb).bar (ht.keep hb) (sV.keep hb) (sL.keep hb) (by omega) (by omega)
    have hB := fun W (hb : Below w.heap.size w W) => Run_any p pv pl c cv cl th 2 (vals.take j) lucks W (T.below hb).tab (T.below hb).bar (ht.keep hb) (sJ.keep hb) (hl.keep hb) (by omega) (by omega)
    obtain ⟨k1, k2, k3⟩ := hcut j hjl
    have lenB := hlenB j
    clear hcut hlenB
    generalize runT th 2 (vals.take D.vals) (lucks.take D.lucks) = A at *
    generalize runT th 2 (vals.take j) lucks = B at *
    generalize vals.take D.vals = va at *
    generalize lucks.take D.lucks = la at *
    generalize vals.take j = vj at *
    have HA : Hid _ := hA
    have HB : Hid _ := hB
    have HD : Hid _ := hD
    have HEn : Hid _ := hEn
    have HK3 : Hid _ := k3
    have HLen : Hid _ := hlens
    have hpre := pre_take k1
    have hple := k1.length_le
    clear hA hB hD hEn k1 k3 lva lla lvj hlens
    have z1 : ¬ ((D.vals : Int) < 0) := by omega
    have z2 : ¬ ((D.lucks : Int) < 0) := by omega
    have z3 : (D.vals : Int) ≤ (vals.length : Int) := by omega
    have z4 : (D.lucks : Int) ≤ (lucks.length : Int) := by omega
    have F1 := trivial
    go_enter Tryd.func4, Tryd.ntmps4
    go_wp2_with (first
      | (go_at_call 9; clear F1; refine (shown8_any _ T).mono ?_; rintro e w1 ⟨rfl, hb1⟩; have F2 := trivial)
      | (go_at_call 12; clear F2; refine (HD.out _ hb1).mono ?_; rintro e w2 ⟨rd, rfl, hTd, hb2⟩; have B2 := Below.thru hb1 hb2 (Nat.le_refl _); have F3 := trivial)
      | (clear F3; refine wpList_told (w := w2) (by rfl) (.tmp 10) (.tmp 32) (by rfl) hTd (by rfl) (by rfl) ?_; intro w4 kL hTD B24; simp only [Act.put]; have B4 := Below.thru B2 B24 (Nat.le_refl _); obtain ⟨y1, y2, y3⟩ := kL.more; have lL := kL.lt))
    have u1 : decide (vals.length < D.vals) = false := decide_eq_false (by omega)
    have u2 : decide (lucks.length < D.lucks) = false := decide_eq_false (by omega)
    simp only [u1, u2, Bool.or_false]
    clear u1 u2 z1 z2 z3 z4
    refine wp_region_par [11] [(55, 0), (56, 1), (57, 2), (58, 3), (59, 4), (60, 5), (61, 6), (62, 7), (63, 8), (64, 9), (11, 10)] (phiT w4.heap.size A [some (.slice p th.length c), some (.slice pv vals.length cv), some (.pointer (some ⟨w2.heap.size, 13, none⟩)), some (.int .i64 (D.vals : Nat)), some (.slice pv va.length cv), some (.slice pl lucks.length cl), some (.pointer (some ⟨w2.heap.size, 14, none⟩)), some (.int .i64 (D.lucks : Nat)), some (.slice pl la.length cl), none, none] 9 10) (by kernel_rfl) (by kernel_rfl) (phiT_stab _ _ _ _ _) ?_ ?_
    · intro vs v5 hB5
      have k5 := TrB.keep kL hB5
      obtain ⟨y0, y1, y2⟩ := k5.more
      have l5 := k5.lt
      have Bv := Below.thru B4 hB5 (Nat.le_refl _)
      dsimp only [EachOp, Nat.zero_add, Nat.reduceAdd]
      refine ⟨fun _ hd => ?_, fun _ hd => ?_, fun _ hd => ?_, fun _ hd => ?_, fun _ hd => ?_, fun _ hd => ?_, fun _ hd => ?_, fun _ hd => ?_, fun _ hd => ?_, fun _ hd => ?_, fun _ hd => ?_, fun h => absurd h (by decide), trivial⟩
      · simp only [laidF, List.foldl, Act.put, List.setIfInBounds_toArray, List.set]
        go_wp2
        exact ⟨_, rfl, rfl, Below.refl _ _⟩
      · simp only [laidF, List.foldl, Act.put, List.setIfInBounds_toArray, List.set]
        go_wp2
        exact ⟨_, rfl, rfl, Below.refl _ _⟩
      · simp only [laidF, List.foldl, Act.put, List.setIfInBounds_toArray, List.set]
        go_wp2
        exact ⟨_, rfl, rfl, Below.refl _ _⟩
      · have q2 : vs 2 = _ := hd ⟨2, .data⟩ (by simp) rfl
        simp only [laidF, List.foldl, Act.put, List.setIfInBounds_toArray, List.set, q2]
        go_wp2
        exact ⟨_, rfl, rfl, Below.refl _ _⟩
      · have q1 : vs 1 = _ := hd ⟨1, .data⟩ (by simp) rfl
        have q3 : vs 3 = _ := hd ⟨3, .data⟩ (by simp) rfl
        simp only [laidF, List.foldl, Act.put, List.setIfInBounds_toArray, List.set, q1, q3]
        go_wp2
        exact ⟨_, rfl, rfl, Below.refl _ _⟩
      · simp only [laidF, List.foldl, Act.put, List.setIfInBounds_toArray, List.set]
        go_wp2
        exact ⟨_, rfl, rfl, Below.refl _ _⟩
      · simp only [laidF, List.foldl, Act.put, List.setIfInBounds_toArray, List.set]
        go_wp2
        exact ⟨_, rfl, rfl, Below.refl _ _⟩
      · have q6 : vs 6 = _ := hd ⟨6, .data⟩ (by simp) rfl
        simp only [laidF, List.foldl, Act.put, List.setIfInBounds_toArray, List.set, q6]
        go_wp2
        exact ⟨_, rfl, rfl, Below.refl _ _⟩
      · have q5 : vs 5 = _ := hd ⟨5, .data⟩ (by simp) rfl
        have q7 : vs 7 = _ := hd ⟨7, .data⟩ (by simp) rfl
        simp only [laidF, List.foldl, Act.put, List.setIfInBounds_toArray, List.set, q5, q7]
        go_wp2
        exact ⟨_, rfl, rfl, Below.refl _ _⟩
      · have q0 : vs 0 = _ := hd ⟨0, .data⟩ (by simp) rfl
        have q4 : vs 4 = _ := hd ⟨4, .data⟩ (by simp) rfl
        have q8 : vs 8 = _ := hd ⟨8, .data⟩ (by simp) rfl
        simp only [laidF, List.foldl, Act.put, List.setIfInBounds_toArray, List.set, q0, q4, q8]
        go_wp2_with (go_at_call 12; refine (HA.out _ Bv).mono ?_; rintro e w6 ⟨ra, rfl, hTa, hb6⟩)
        exact ⟨_, rfl, ⟨ra, _, rfl, hTa⟩, hb6⟩
      · simp only [laidF, List.foldl, Act.put, List.setIfInBounds_toArray, List.set]
        go_wp2
        exact ⟨_, rfl, ⟨_, rfl, hB5.size, Blk.new⟩, by go_grown⟩
    · intro vs v5 hB5 hd
      have q0 : vs 0 = _ := hd 0 (by decide) (by decide)
      have q1 : vs 1 = _ := hd 1 (by decide) (by decide)
      have q2 : vs 2 = _ := hd 2 (by decide) (by decide)
      have q3 : vs 3 = _ := hd 3 (by decide) (by decide)
      have q4 : vs 4 = _ := hd 4 (by decide) (by decide)
      have q5 : vs 5 = _ := hd 5 (by decide) (by decide)
      have q6 : vs 6 = _ := hd 6 (by decide) (by decide)
      have q7 : vs 7 = _ := hd 7 (by decide) (by decide)
      have q8 : vs 8 = _ := hd 8 (by decide) (by decide)
      obtain ⟨ra, na, q9, hTa⟩ := hd 9 (by decide) (by decide)
      obtain ⟨bn, q10, hbn, hRn⟩ := hd 10 (by decide) (by decide)
      clear hd
      dsimp only [List.map, opAt]
      simp only [laidF, List.foldl, Act.put, List.setIfInBounds_toArray, List.set, q0, q1, q2, q3, q4, q5, q6, q7, q8, q9, q10]
      clear q0 q1 q2 q3 q4 q5 q6 q7 q8 q9 q10
      refine wpList_storeB (by rfl) 40 (.tmp 11) (.tmp 64) (by rfl) bn (trC ra A) zeroTr 40 (by rfl) (by rfl) hRn (by kernel_rfl) (by rfl) (one16T hTa.tr) ?_
      intro w6 kA6 oA zA
      simp only [Act.put]
      have B46 : Below w4.heap.size w4 w6 := hB5.trans (oA.below hB5.size (fun k hk => by omega))
      have kD6 := TrB.keep kL B46
      have hTD6 := hTD.keep B46
      have hTa6 := (hTa.only hRn oA).tr
      have B6 := Below.thru B4 B46 (Nat.le_refl _)
      refine wpList_nil ?_
      clear hTa hRn oA zA hbn
      obtain ⟨y1, y2, y3⟩ := kD6.more
      have lD6 := kD6.lt
      by_cases hz : D.more = 0
      · have hAD : D = A := (HEn.out hz).symm
        subst hAD
        have hR1 := fun (q : Ext w6) => real_is ra D q.wd (hTa6.keep q.ok)
        have hR2 := fun (q : Ext w6) => real_is rd D q.wd (hTD6.keep q.ok)
        have hSm := fun (q : Ext w6) => Same_is ra rd D q.wd (hTa6.keep q.ok) (hTD6.keep q.ok) HLen.out
        unfold trV trC at hR1 hR2 hSm
        have HR1 : Hid _ := hR1
        have HR2 : Hid _ := hR2
        have HSm : Hid _ := hSm
        clear hR1 hR2 hSm
        have kA : TrB w6 bn ra D 40 := kA6
        have lA6 := kA.lt
        obtain ⟨x0, x1, x2, x3, x4⟩ := kA.rows
        obtain ⟨⟨x5, x6, x7, x8⟩, x9, xa, xb, xc⟩ := kA.regs
        obtain ⟨xd, xe, xf⟩ := kA.more
        obtain ⟨u0, u1, u2, u3, u4⟩ := kD6.rows
        obtain ⟨⟨u5, u6, u7, u8⟩, u9, ua, ub, uc⟩ := kD6.regs
        obtain ⟨ud, ue, uf⟩ := kD6.more
        have gz : (D.more == 0) = true := by simpa using hz
        clear y1 y2 y3 hz
        go_wp2
        refine wp_region_ext (by kernel_rfl) (by kernel_rfl) ?_
        repeat (go_big_quiet_step (first
          | (go_at_call 11; with_reducible exact calls_ext (HR1.out _))
          | (go_at_call 11; with_reducible exact calls_ext (HR2.out _))
          | (go_at_call 10; with_reducible exact calls_ext (HSm.out _))))
        refine wpQuiet_nil ?_
        rintro _ ⟨rr, rfl⟩
        have r7 := rr.ok
        clear u0 u1 u2 u3 u4 u5 u6 u7 u8 u9 ua ub uc ud ue uf x0 x1 x2 x3 x4 x5 x6 x7 x8 x9 xa xb xc xd xe xf
        generalize rr.wd = w7 at *
        clear rr
        have kD7 := TrB.keep kD6 r7
        have hTD7 := hTD6.keep r7
        have B7 := Below.thru B6 r7 (Nat.le_refl _)
        clear kD6 hTD6
        obtain ⟨y1, y2, y3⟩ := kD7.more
        have lD := kD7.lt
        have F5 := trivial
        go_wp2_with (first
          | (go_at_call 12; clear F5; refine (HB.out _ B7).mono ?_; rintro e w8 ⟨rb, rfl, hTb, hb8⟩; have B8 := Below.thru B7 hb8 (Nat.le_refl _); have F6 := trivial)
          | (clear F6; refine wpList_told (w := w8) (by rfl) (.tmp 13) (.tmp 87) (by rfl) hTb (by rfl) (by rfl) ?_; intro w9 kB hTB B89; simp only [Act.put]; have B9 := Below.thru B8 B89 (Nat.le_refl _); have B79 := Below.thru hb8 B89 (Nat.le_refl _); have kD9 := TrB.keep kD7 B79; have hTD9 := hTD7.keep B79; obtain ⟨pb, cb, eb⟩ := hTB.e0.len; obtain ⟨pd, cd, ed⟩ := hTD9.e0.len; have sB := hTB.e0; have sD := hTD9.e0; rw [eb] at sB; rw [ed] at sD; obtain ⟨b0, -⟩ := kB.rows; obtain ⟨b1, b2, b3⟩ := kB.more; obtain ⟨d0, -⟩ := kD9.rows; obtain ⟨d1, d2, d3⟩ := kD9.more; rw [eb] at b0; rw [ed] at d0; have lB := kB.lt; have lD9 := kD9.lt; obtain ⟨cE, cT⟩ := cut_first elemEv8 Tryd.underlying27 Tryd.sizeOf47 sD hple; rw [hpre] at cE cT; have HE : Hid _ := fun (q : Ext w9) => Events_is _ _ B.evs q.wd (sB.keep q.ok) (cT.keep q.ok) (by omega); clear cT sB sD))
        by_cases hk : j = D.vals
        · subst hk
          refine wp_region_ext (by kernel_rfl) (by kernel_rfl) ?_
          repeat (go_big_quiet_step (first | (go_at_call 14; with_reducible exact calls_ext (HE.out _))))
          refine wpQuiet_nil ?_
          rintro _ ⟨re, rfl⟩
          go_wp2
          go_returns
          exact ⟨rfl, Below.thru B9 re.ok (Nat.le_refl _)⟩
        · obtain ⟨m1, m2⟩ := HK3.out.resolve_left hk
          rw [m1] at b3
          rw [m2] at b1
          have gk : ((j : Int) == (D.vals : Int)) = false := by simp; omega
          clear hk m1
          refine wp_region_ext (by kernel_rfl) (by kernel_rfl) ?_
          repeat (go_big_quiet_step (first | (go_at_call 14; with_reducible exact calls_ext (HE.out _))))
          refine wpQuiet_nil ?_
          rintro _ ⟨re, rfl⟩
          go_wp2
          go_returns
          exact ⟨rfl, Below.thru B9 re.ok (Nat.le_refl _)⟩
      · have gz : (D.more == 0) = false := by simpa using hz
        clear hz
        go_wp2
        refine wp_region_ext (by kernel_rfl) (by kernel_rfl) ?_
        repeat (go_big_quiet_step (fail))
        refine wpQuiet_nil ?_
        rintro _ ⟨rr, rfl⟩
        have r7 := rr.ok
        generalize rr.wd = w7 at *
        clear rr
        have kD7 := TrB.keep kD6 r7
        have hTD7 := hTD6.keep r7
        have B7 := Below.thru B6 r7 (Nat.le_refl _)
        clear kD6 hTD6
        obtain ⟨y1, y2, y3⟩ := kD7.more
        have lD := kD7.lt
        have F5 := trivial
        go_wp2_with (first
          | (go_at_call 12; clear F5; refine (HB.out _ B7).mono ?_; rintro e w8 ⟨rb, rfl, hTb, hb8⟩; have B8 := Below.thru B7 hb8 (Nat.le_refl _); have F6 := trivial)
          | (clear F6; refine wpList_told (w := w8) (by rfl) (.tmp 13) (.tmp 87) (by rfl) hTb (by rfl) (by rfl) ?_; intro w9 kB hTB B89; simp only [Act.put]; have B9 := Below.thru B8 B89 (Nat.le_refl _); have B79 := Below.thru hb8 B89 (Nat.le_refl _); have kD9 := TrB.keep kD7 B79; have hTD9 := hTD7.keep B79; obtain ⟨pb, cb, eb⟩ := hTB.e0.len; obtain ⟨pd, cd, ed⟩ := hTD9.e0.len; have sB := hTB.e0; have sD := hTD9.e0; rw [eb] at sB; rw [ed] at sD; obtain ⟨b0, -⟩ := kB.rows; obtain ⟨b1, b2, b3⟩ := kB.more; obtain ⟨d0, -⟩ := kD9.rows; obtain ⟨d1, d2, d3⟩ := kD9.more; rw [eb] at b0; rw [ed] at d0; have lB := kB.lt; have lD9 := kD9.lt; obtain ⟨cE, cT⟩ := cut_first elemEv8 Tryd.underlying27 Tryd.sizeOf47 sD hple; rw [hpre] at cE cT; have HE : Hid _ := fun (q : Ext w9) => Events_is _ _ B.evs q.wd (sB.keep q.ok) (cT.keep q.ok) (by omega); clear cT sB sD))
        by_cases hk : j = D.vals
        · subst hk
          refine wp_region_ext (by kernel_rfl) (by kernel_rfl) ?_
          repeat (go_big_quiet_step (first | (go_at_call 14; with_reducible exact calls_ext (HE.out _))))
          refine wpQuiet_nil ?_
          rintro _ ⟨re, rfl⟩
          go_wp2
          go_returns
          exact ⟨rfl, Below.thru B9 re.ok (Nat.le_refl _)⟩
        · obtain ⟨m1, m2⟩ := HK3.out.resolve_left hk
          rw [m1] at b3
          rw [m2] at b1
          have gk : ((j : Int) == (D.vals : Int)) = false := by simp; omega
          clear hk m1
          refine wp_region_ext (by kernel_rfl) (by kernel_rfl) ?_
          repeat (go_big_quiet_step (first | (go_at_call 14; with_reducible exact calls_ext (HE.out _))))
          refine wpQuiet_nil ?_
          rintro _ ⟨re, rfl⟩
          go_wp2
          go_returns
          exact ⟨rfl, Below.thru B9 re.ok (Nat.le_refl _)⟩
  · have hcase : 8 < th.length ∨ (th.length ≤ 8 ∧ 40 < vals.length) ∨ (th.length ≤ 8 ∧ vals.length ≤ 40 ∧ 40 < lucks.length) := by omega
    rcases hcase with h | ⟨h1, h⟩ | ⟨h1, h2, h⟩
    · have n1' : ¬ (th.length : Int) ≤ 8 := by omega
      go_enter Tryd.func4, Tryd.ntmps4
      go_wp2_with (go_at_call 9; refine (shown8_any _ T).mono ?_; rintro e w1 ⟨rfl, hb1⟩)
      go_returns
      exact ⟨rfl, hb1⟩
    · have n1' : (th.length : Int) ≤ 8 := by omega
      have n2' : ¬ (vals.length : Int) ≤ 40 := by omega
      go_enter Tryd.func4, Tryd.ntmps4
      go_wp2_with (go_at_call 9; refine (shown8_any _ T).mono ?_; rintro e w1 ⟨rfl, hb1⟩)
      go_returns
      exact ⟨rfl, hb1⟩
    · have n1' : (th.length : Int) ≤ 8 := by omega
      have n2' : (vals.length : Int) ≤ 40 := by omega
      have n3' : ¬ (lucks.length : Int) ≤ 40 := by omega
      go_enter Tryd.func4, Tryd.ntmps4
      go_wp2_with (go_at_call 9; refine (shown8_any _ T).mono ?_; rintro e w1 ⟨rfl, hb1⟩)
      go_returns
      exact ⟨rfl, hb1⟩
end Go.Proofs.YtkiefbldkidobaaDoor
