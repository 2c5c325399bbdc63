/- The walk of RegsHang. -/
import Derived.Test.YtckaniemilmphaaDoorRegsShown
import Derived.Test.YtckaniemilmphaaDoorRegsFile
import Derived.Test.YtckaniemilmphaaDoorRegsDo
import Derived.Test.YtckaniemilmphaaDoorRegsBits
import Derived.Test.YtckaniemilmphaaDoorMix
import Derived.Test.YtckaniemilmphaaDoorParV
namespace Go.Proofs.YtckaniemilmphaaDoor
open Go.RowKit
attribute [local go_sem] Ext.cell Ext.frozen four_same' fourD_same'


set_option maxHeartbeats 8000000 in
theorem RegsHang_true (v d : Nat → Int) (xd xa xb xo : Nat) (w : World) (T : Tab w) (ok : FileOk v d) : Calls Tryd.prog 3 #[fileV v d, .int .u8 xd, .int .u8 xa, .int .u8 xb, .int .u8 xo] w fun e w' => e = .returned (.bool true) ∧ Below w.heap.size w w' := by
  obtain ⟨op, hop, hop3⟩ : ∃ op : Int, 2 + (xo : Int) % 3 = op ∧ (op = 2 ∨ op = 3 ∨ op = 4) := ⟨_, rfl, by omega⟩
  obtain ⟨D, hD, hD4⟩ : ∃ D : Nat, (xd : Int) % 4 = D ∧ D < 4 := ⟨xd % 4, by omega, Nat.mod_lt _ (by decide)⟩
  obtain ⟨A, hA, hA4⟩ : ∃ D : Nat, (xa : Int) % 4 = D ∧ D < 4 := ⟨xa % 4, by omega, Nat.mod_lt _ (by decide)⟩
  obtain ⟨B, hB, hB4⟩ : ∃ D : Nat, (xb : Int) % 4 = D ∧ D < 4 := ⟨xb % 4, by omega, Nat.mod_lt _ (by decide)⟩
  have hM := fun w => made_any v d w
  have hX := fun w T => Do_in v d op D A B 0 0 w T (by omega) (by omega)
  have hY := fun w T => Do_in v d 3 D A A 0 0 w T (by decide) (by decide)
  have hZ := fun w T => Do_in v d 1 D 0 0 0 7 w T (by decide) (by decide)
  have g1 : doD d op D A B D = bits .or .u32 (d A) (d B) := by unfold doD; rw [upd_same, hang_two ok hop3 hA4 hB4]
  have g2 : ∀ k : Nat, (k : Int) ≠ D → doV v op D A B 0 k = v k ∧ doD d op D A B k = d k := fun k hk => ⟨upd_other _ _ hk, upd_other _ _ hk⟩
  have y1 : doV v 3 D A A 0 D = 0 ∧ doD d 3 D A A D = d A := by
    unfold doV doD
    rw [upd_same, upd_same, hang_two ok (.inr (.inl rfl)) hA4 hA4, or_same (ok A hA4).2.1 (ok A hA4).2.2]
    exact ⟨xor_same _, rfl⟩
  have z1 : doV v 1 D 0 0 7 D = 7 ∧ doD d 1 D 0 0 D = 0 := by
    unfold doV doD
    rw [upd_same, upd_same, uses_mov]
    exact ⟨rfl, rfl⟩
  obtain ⟨gv, hgv⟩ : ∃ g, doV v op D A B 0 = g := ⟨_, rfl⟩
  obtain ⟨gd, hgd⟩ : ∃ g, doD d op D A B = g := ⟨_, rfl⟩
  obtain ⟨yv, hyv⟩ : ∃ g, doV v 3 D A A 0 = g := ⟨_, rfl⟩
  obtain ⟨yd, hyd⟩ : ∃ g, doD d 3 D A A = g := ⟨_, rfl⟩
  obtain ⟨zv, hzv⟩ : ∃ g, doV v 1 D 0 0 7 = g := ⟨_, rfl⟩
  obtain ⟨zd, hzd⟩ : ∃ g, doD d 1 D 0 0 = g := ⟨_, rfl⟩
  rw [hgv, hgd] at hX g2
  rw [hgd] at g1
  rw [hyv, hyd] at hY y1
  rw [hzv, hzd] at hZ z1
  unfold fileV at hM hX hY hZ ⊢
  have HM : Hid _ := hM
  have HX : Hid _ := hX
  have HY : Hid _ := hY
  have HZ : Hid _ := hZ
  have FG : Hid _ := g1
  have FO : Hid _ := g2
  have FY : Hid _ := y1
  have FZ : Hid _ := z1
  have hop1 : 2 ≤ op ∧ op ≤ 4 := by omega
  clear hM hX hY hZ g1 g2 y1 z1 hgv hgd hyv hyd hzv hzd hop3 ok
  have hA0 : (0 : Int) ≤ (A : Int) := by omega
  have hA4' : (A : Int) < 4 := by omega
  have hB0 : (0 : Int) ≤ (B : Int) := by omega
  have hB4' : (B : Int) < 4 := by omega
  have hD0 : (0 : Int) ≤ (D : Int) := by omega
  have hD4' : (D : Int) < 4 := by omega
  go_enter Tryd.func3, Tryd.ntmps3
  go_wp2_with fail
  have kf0 : FileAt _ _ v d 26 := FileAt.new (w := w)
  have B0 := below_new w (Obj.cells #[.int .i64 (v 0), .int .i64 (v 1), .int .i64 (v 2), .int .i64 (v 3), .int .u32 (d 0), .int .u32 (d 1), .int .u32 (d 2), .int .u32 (d 3)] 26)
  have T0 := T.below B0
  refine (shown_any _ T0).mono ?_
  rintro e w1 ⟨rfl, hb1⟩
  have kf1 := kf0.keep hb1
  have B1 : Below w.heap.size w w1 := Below.thru B0 hb1 (Nat.le_refl _)
  have T1 := T0.below hb1
  clear kf0 B0 T0 hb1
  generalize hbf : w.heap.size = bf at *
  go_wp2_with fail
  obtain ⟨w2, hw2, B12, kx2⟩ : ∃ w2, w2 = w1.alloc (Obj.cells #[.int .i64 op, .int .i64 D, .int .i64 A, .int .i64 B, .int .i64 0, .int .i64 0] 29) ∧ Below w1.heap.size w1 w2 ∧ InsB w2 w1.heap.size op D A B 0 0 :=
    ⟨_, rfl, by go_grown, Blk.new⟩
  rw [← hw2, hD, hA, hB]
  clear hw2 hD hA hB hop
  have kf2 := kf1.keep B12
  have T2 := T1.below B12
  have B2 : Below bf w w2 := Below.thru B1 B12 (by omega)
  clear kf1 T1 B1 B12
  generalize w1.heap.size = bx at *
  refine wp_region_par [5] [(32, 0), (33, 1), (34, 2), (35, 3), (13, 4)] (phiV w2.heap.size (fun w b => FileAt w b (fun _ => 0) (fun _ => 0) 30) [some (.agg #[.int .i64 (v 0), .int .i64 (v 1), .int .i64 (v 2), .int .i64 (v 3), .int .u32 (d 0), .int .u32 (d 1), .int .u32 (d 2), .int .u32 (d 3)]), some (.agg #[.int .i64 (v 0), .int .i64 (v 1), .int .i64 (v 2), .int .i64 (v 3), .int .u32 (d 0), .int .u32 (d 1), .int .u32 (d 2), .int .u32 (d 3)]), some (.agg #[.int .i64 op, .int .i64 D, .int .i64 A, .int .i64 B, .int .i64 0, .int .i64 0]), some (.agg #[.int .i64 (gv 0), .int .i64 (gv 1), .int .i64 (gv 2), .int .i64 (gv 3), .int .u32 (gd 0), .int .u32 (gd 1), .int .u32 (gd 2), .int .u32 (gd 3)]), none]) (by kernel_rfl) (by kernel_rfl) (phiV_stab _ _ _ (fun _ _ _ h hb => FileAt.keep h hb)) ?_ ?_
  · intro vals v5 hB5
    have kf5' := kf2.keep hB5
    have kx5' := kx2.keep hB5
    obtain ⟨⟨f0, f1, f2, f3⟩, f4, f5, f6, f7⟩ := kf5'.cells
    obtain ⟨x0, x1, x2, x3, x4, x5⟩ := kx5'.cells
    have lf := kf5'.lt
    have lx := kx5'.lt
    dsimp only [EachOp, Nat.zero_add, Nat.reduceAdd]
    refine ⟨fun _ hd => ?_, fun _ hd => ?_, fun _ hd => ?_, fun _ hd => ?_, fun _ hd => ?_, fun h => absurd h (by decide), trivial⟩
    · simp only [laidF, List.foldl, Act.put, List.setIfInBounds_toArray, List.set]
      go_wp2
      exact ⟨_, rfl, rfl, Below.refl _ _⟩
    · have q0 : vals 0 = _ := hd ⟨0, .data⟩ (by simp) rfl
      simp only [laidF, List.foldl, Act.put, List.setIfInBounds_toArray, List.set, q0]
      go_wp2_with (go_at_call 9; refine (HM.out _).mono ?_; rintro e w6 ⟨rfl, hb6⟩)
      exact ⟨_, rfl, rfl, hb6⟩
    · simp only [laidF, List.foldl, Act.put, List.setIfInBounds_toArray, List.set]
      go_wp2
      exact ⟨_, rfl, rfl, Below.refl _ _⟩
    · have q1 : vals 1 = _ := hd ⟨1, .data⟩ (by simp) rfl
      have q2 : vals 2 = _ := hd ⟨2, .data⟩ (by simp) rfl
      simp only [laidF, List.foldl, Act.put, List.setIfInBounds_toArray, List.set, q1, q2]
      go_wp2_with (go_at_call 8; refine (HX.out _ (T2.below hB5)).mono ?_; rintro e w6 ⟨rfl, hb6⟩)
      exact ⟨_, rfl, rfl, hb6⟩
    · simp only [laidF, List.foldl, Act.put, List.setIfInBounds_toArray, List.set]
      go_wp2
      exact ⟨_, rfl, ⟨_, rfl, hB5.size, (Blk.new : FileAt _ _ (fun _ => 0) (fun _ => 0) 30)⟩, by go_grown⟩
  · intro vals v5 hB5 hd
    have q0 : vals 0 = _ := hd 0 (by decide) (by decide)
    have q1 : vals 1 = _ := hd 1 (by decide) (by decide)
    have q2 : vals 2 = _ := hd 2 (by decide) (by decide)
    have q3 : vals 3 = _ := hd 3 (by decide) (by decide)
    obtain ⟨bg, q4, hbn, hRn⟩ := hd 4 (by decide) (by decide)
    clear hd
    dsimp only [List.map, opAt]
    simp only [laidF, List.foldl, Act.put, List.setIfInBounds_toArray, List.set, q0, q1, q2, q3, q4]
    clear q0 q1 q2 q3 q4
    obtain ⟨⟨r0, r1, r2, r3⟩, r4, r5, r6, r7⟩ := hRn.cells
    obtain ⟨⟨s0, s1, s2, s3⟩, s4, s5, s6, s7⟩ := hRn.frozen
    have lr := hRn.lt
    refine wpList_store (put8 v5 bg gv gd) ?_ ?_
    · go_wp2
      exact rfl
    clear r0 r1 r2 r3 r4 r5 r6 r7 s0 s1 s2 s3 s4 s5 s6 s7 lr
    have Bs : Below w2.heap.size w2 (put8 v5 bg gv gd) := below_put8 hB5 hbn _ _
    have kbg3 : FileAt (put8 v5 bg gv gd) bg gv gd 30 := hRn.put
    clear hRn hB5
    generalize put8 v5 bg gv gd = w3 at *
    have kf3 := kf2.keep Bs
    have kx3 := kx2.keep Bs
    have T3 := T2.below Bs
    have B3 : Below bf w w3 := Below.thru B2 Bs (by omega)
    clear Bs v5 vals kf2 kx2 T2 B2 hbn
    go_wp2_with fail
    go_loopw [14] (fun i wr => ∃ k : Nat, k ≤ 4 ∧ i = .int .i64 k ∧ Below w3.heap.size w3 wr) (fun i _ => 4 - (intOf i).toNat)
    case atStart => exact ⟨0, Nat.zero_le _, rfl, Below.refl _ _⟩
    case round =>
      obtain ⟨k, hk, rfl, hBr⟩ := hrel
      have kf4 := kf3.keep hBr
      have kx4 := kx3.keep hBr
      have kbg4 := kbg3.keep hBr
      have T4 := T3.below hBr
      have B4 : Below bf w wr := Below.thru B3 hBr (by omega)
      obtain ⟨w4, rfl⟩ : ∃ x : World, x = wr := ⟨_, rfl⟩
      by_cases hlt : k < 4
      · have hlt' : (k : Int) < 4 := by omega
        have hk0 : (0 : Int) ≤ (k : Int) := by omega
        obtain ⟨fV, fD⟩ := kf4.at hlt
        obtain ⟨gV, gD⟩ := kbg4.at hlt
        obtain ⟨x0, x1, x2, x3, x4, x5⟩ := kx4.cells
        have lf := kf4.lt
        have lx := kx4.lt
        have lg := kbg4.lt
        have hne : ∀ w, Nonempty (Ext w) := ext_some
        by_cases hkD : (k : Int) = D
        · have hb : ((k : Int) != (D : Int)) = false := by simpa using hkD
          go_wp2
          refine wp_region_mix [] [0, 1, 2, 3, 4, 5, 6, 7, 8, 9, 10, 11, 12, 13, 14, 15, 16, 17, 18, 19, 20, 21, 22, 23, 24, 25] (by kernel_rfl) (by kernel_rfl) (fun _ _ d _ _ h => by cases d <;> exact h) ?_
          dsimp only [List.map, opAt]
          refine wpMix_last ?_
          repeat (go_big_quiet_step (fail))
          refine wpQuiet_nil ?_
          go_wp2
          go_roundw
          case rel => exact ⟨k + 1, by omega, by go_num, hBr.drew⟩
          case measure => simp [intOf]; omega
        · have hb : ((k : Int) != (D : Int)) = true := by simpa using hkD
          obtain ⟨ev, ed⟩ := FO.out k hkD
          rw [ev] at gV
          rw [ed] at gD
          go_wp2
          refine wp_region_mix [] [0, 1, 2, 3, 4, 5, 6, 7, 8, 9, 10, 11, 12, 13, 14, 15, 16, 17, 18, 19, 20, 21, 22, 23, 24, 25] (by kernel_rfl) (by kernel_rfl) (fun _ _ d _ _ h => by cases d <;> exact h) ?_
          dsimp only [List.map, opAt]
          refine wpMix_last ?_
          repeat (go_big_quiet_step (fail))
          refine wpQuiet_nil ?_
          go_wp2
          go_roundw
          case rel => exact ⟨k + 1, by omega, by go_num, hBr.drew⟩
          case measure => simp [intOf]; omega
      · have hlt' : ¬ (k : Int) < 4 := by omega
        clear kf3 kx3 kbg3 T3 B3 hBr
        go_wp2_with fail
        refine wp_region_par [11] [(66, 0), (67, 1), (68, 2), (69, 3), (70, 4), (71, 5), (72, 6), (73, 7), (74, 8), (75, 9), (15, 10)] (phiV w4.heap.size (fun w b => FileAt w b (fun _ => 0) (fun _ => 0) 30) [some (.agg #[.int .i64 (v 0), .int .i64 (v 1), .int .i64 (v 2), .int .i64 (v 3), .int .u32 (d 0), .int .u32 (d 1), .int .u32 (d 2), .int .u32 (d 3)]), some (.agg #[.int .i64 (v 0), .int .i64 (v 1), .int .i64 (v 2), .int .i64 (v 3), .int .u32 (d 0), .int .u32 (d 1), .int .u32 (d 2), .int .u32 (d 3)]), some (.pointer (some ⟨bx, 1, none⟩)), some (.int .i64 D), some (.pointer (some ⟨bx, 2, none⟩)), some (.int .i64 A), some (.pointer (some ⟨bx, 2, none⟩)), some (.int .i64 A), some (.agg #[.int .i64 3, .int .i64 D, .int .i64 A, .int .i64 A, .int .i64 0, .int .i64 0]), some (.agg #[.int .i64 (yv 0), .int .i64 (yv 1), .int .i64 (yv 2), .int .i64 (yv 3), .int .u32 (yd 0), .int .u32 (yd 1), .int .u32 (yd 2), .int .u32 (yd 3)]), none]) (by kernel_rfl) (by kernel_rfl) (phiV_stab _ _ _ (fun _ _ _ h hb => FileAt.keep h hb)) ?_ ?_
        · intro vals v5 hB5
          have kf5' := kf4.keep hB5
          have kx5' := kx4.keep hB5
          obtain ⟨⟨f0, f1, f2, f3⟩, f4, f5, f6, f7⟩ := kf5'.cells
          obtain ⟨x0, x1, x2, x3, x4, x5⟩ := kx5'.cells
          have lf := kf5'.lt
          have lx := kx5'.lt
          dsimp only [EachOp, Nat.zero_add, Nat.reduceAdd]
          refine ⟨fun _ hd => ?_, fun _ hd => ?_, fun _ hd => ?_, fun _ hd => ?_, fun _ hd => ?_, fun _ hd => ?_, fun _ hd => ?_, fun _ hd => ?_, fun _ hd => ?_, fun _ hd => ?_, fun _ hd => ?_, fun h => absurd h (by decide), trivial⟩
          · simp only [laidF, List.foldl, Act.put, List.setIfInBounds_toArray, List.set]
            go_wp2
            exact ⟨_, rfl, rfl, Below.refl _ _⟩
          · have q0 : vals 0 = _ := hd ⟨0, .data⟩ (by simp) rfl
            simp only [laidF, List.foldl, Act.put, List.setIfInBounds_toArray, List.set, q0]
            go_wp2_with (go_at_call 9; refine (HM.out _).mono ?_; rintro e w6 ⟨rfl, hb6⟩)
            exact ⟨_, rfl, rfl, hb6⟩
          · simp only [laidF, List.foldl, Act.put, List.setIfInBounds_toArray, List.set]
            go_wp2
            exact ⟨_, rfl, rfl, Below.refl _ _⟩
          · have q2 : vals 2 = _ := hd ⟨2, .data⟩ (by simp) rfl
            simp only [laidF, List.foldl, Act.put, List.setIfInBounds_toArray, List.set, q2]
            go_wp2
            exact ⟨_, rfl, rfl, Below.refl _ _⟩
          · simp only [laidF, List.foldl, Act.put, List.setIfInBounds_toArray, List.set]
            go_wp2
            exact ⟨_, rfl, rfl, Below.refl _ _⟩
          · have q4 : vals 4 = _ := hd ⟨4, .data⟩ (by simp) rfl
            simp only [laidF, List.foldl, Act.put, List.setIfInBounds_toArray, List.set, q4]
            go_wp2
            exact ⟨_, rfl, rfl, Below.refl _ _⟩
          · simp only [laidF, List.foldl, Act.put, List.setIfInBounds_toArray, List.set]
            go_wp2
            exact ⟨_, rfl, rfl, Below.refl _ _⟩
          · have q6 : vals 6 = _ := hd ⟨6, .data⟩ (by simp) rfl
            simp only [laidF, List.foldl, Act.put, List.setIfInBounds_toArray, List.set, q6]
            go_wp2
            exact ⟨_, rfl, rfl, Below.refl _ _⟩
          · have q3 : vals 3 = _ := hd ⟨3, .data⟩ (by simp) rfl
            have q5 : vals 5 = _ := hd ⟨5, .data⟩ (by simp) rfl
            have q7 : vals 7 = _ := hd ⟨7, .data⟩ (by simp) rfl
            simp only [laidF, List.foldl, Act.put, List.setIfInBounds_toArray, List.set, q3, q5, q7]
            go_wp2
            exact ⟨_, rfl, rfl, Below.refl _ _⟩
          · have q1 : vals 1 = _ := hd ⟨1, .data⟩ (by simp) rfl
            have q8 : vals 8 = _ := hd ⟨8, .data⟩ (by simp) rfl
            simp only [laidF, List.foldl, Act.put, List.setIfInBounds_toArray, List.set, q1, q8]
            go_wp2_with (go_at_call 8; refine (HY.out _ (T4.below hB5)).mono ?_; rintro e w6 ⟨rfl, hb6⟩)
            exact ⟨_, rfl, rfl, hb6⟩
          · simp only [laidF, List.foldl, Act.put, List.setIfInBounds_toArray, List.set]
            go_wp2
            exact ⟨_, rfl, ⟨_, rfl, hB5.size, (Blk.new : FileAt _ _ (fun _ => 0) (fun _ => 0) 30)⟩, by go_grown⟩
        · intro vals v5 hB5 hd
          have q0 : vals 0 = _ := hd 0 (by decide) (by decide)
          have q1 : vals 1 = _ := hd 1 (by decide) (by decide)
          have q2 : vals 2 = _ := hd 2 (by decide) (by decide)
          have q3 : vals 3 = _ := hd 3 (by decide) (by decide)
          have q4 : vals 4 = _ := hd 4 (by decide) (by decide)
          have q5 : vals 5 = _ := hd 5 (by decide) (by decide)
          have q6 : vals 6 = _ := hd 6 (by decide) (by decide)
          have q7 : vals 7 = _ := hd 7 (by decide) (by decide)
          have q8 : vals 8 = _ := hd 8 (by decide) (by decide)
          have q9 : vals 9 = _ := hd 9 (by decide) (by decide)
          obtain ⟨byy, q10, hbn, hRn⟩ := hd 10 (by decide) (by decide)
          clear hd
          dsimp only [List.map, opAt]
          simp only [laidF, List.foldl, Act.put, List.setIfInBounds_toArray, List.set, q0, q1, q2, q3, q4, q5, q6, q7, q8, q9, q10]
          clear q0 q1 q2 q3 q4 q5 q6 q7 q8 q9 q10
          obtain ⟨⟨r0, r1, r2, r3⟩, r4, r5, r6, r7⟩ := hRn.cells
          obtain ⟨⟨s0, s1, s2, s3⟩, s4, s5, s6, s7⟩ := hRn.frozen
          have lr := hRn.lt
          refine wpList_store (put8 v5 byy yv yd) ?_ ?_
          · go_wp2
            exact rfl
          clear r0 r1 r2 r3 r4 r5 r6 r7 s0 s1 s2 s3 s4 s5 s6 s7 lr
          have Bs : Below w4.heap.size w4 (put8 v5 byy yv yd) := below_put8 hB5 hbn _ _
          have kby6 : FileAt (put8 v5 byy yv yd) byy yv yd 30 := hRn.put
          clear hRn hB5
          generalize put8 v5 byy yv yd = w6 at *
          have kf6 := kf4.keep Bs
          have kx6 := kx4.keep Bs
          have kbg6 := kbg4.keep Bs
          have T6 := T4.below Bs
          have B6 : Below bf w w6 := Below.thru B4 Bs (by omega)
          clear Bs v5 vals kf4 kx4 kbg4 T4 B4 hbn
          go_wp2_with fail
          refine wp_region_par [7] [(76, 0), (77, 1), (78, 2), (79, 3), (80, 4), (81, 5), (16, 6)] (phiV w6.heap.size (fun w b => FileAt w b (fun _ => 0) (fun _ => 0) 30) [some (.agg #[.int .i64 (v 0), .int .i64 (v 1), .int .i64 (v 2), .int .i64 (v 3), .int .u32 (d 0), .int .u32 (d 1), .int .u32 (d 2), .int .u32 (d 3)]), some (.agg #[.int .i64 (v 0), .int .i64 (v 1), .int .i64 (v 2), .int .i64 (v 3), .int .u32 (d 0), .int .u32 (d 1), .int .u32 (d 2), .int .u32 (d 3)]), some (.pointer (some ⟨bx, 1, none⟩)), some (.int .i64 D), some (.agg #[.int .i64 1, .int .i64 D, .int .i64 0, .int .i64 0, .int .i64 0, .int .i64 7]), some (.agg #[.int .i64 (zv 0), .int .i64 (zv 1), .int .i64 (zv 2), .int .i64 (zv 3), .int .u32 (zd 0), .int .u32 (zd 1), .int .u32 (zd 2), .int .u32 (zd 3)]), none]) (by kernel_rfl) (by kernel_rfl) (phiV_stab _ _ _ (fun _ _ _ h hb => FileAt.keep h hb)) ?_ ?_
          · intro vals v5 hB5
            have kf5' := kf6.keep hB5
            have kx5' := kx6.keep hB5
            obtain ⟨⟨f0, f1, f2, f3⟩, f4, f5, f6, f7⟩ := kf5'.cells
            obtain ⟨x0, x1, x2, x3, x4, x5⟩ := kx5'.cells
            have lf := kf5'.lt
            have lx := kx5'.lt
            dsimp only [EachOp, Nat.zero_add, Nat.reduceAdd]
            refine ⟨fun _ hd => ?_, fun _ hd => ?_, fun _ hd => ?_, fun _ hd => ?_, fun _ hd => ?_, fun _ hd => ?_, fun _ hd => ?_, fun h => absurd h (by decide), trivial⟩
            · simp only [laidF, List.foldl, Act.put, List.setIfInBounds_toArray, List.set]
              go_wp2
              exact ⟨_, rfl, rfl, Below.refl _ _⟩
            · have q0 : vals 0 = _ := hd ⟨0, .data⟩ (by simp) rfl
              simp only [laidF, List.foldl, Act.put, List.setIfInBounds_toArray, List.set, q0]
              go_wp2_with (go_at_call 9; refine (HM.out _).mono ?_; rintro e w6 ⟨rfl, hb6⟩)
              exact ⟨_, rfl, rfl, hb6⟩
            · simp only [laidF, List.foldl, Act.put, List.setIfInBounds_toArray, List.set]
              go_wp2
              exact ⟨_, rfl, rfl, Below.refl _ _⟩
            · have q2 : vals 2 = _ := hd ⟨2, .data⟩ (by simp) rfl
              simp only [laidF, List.foldl, Act.put, List.setIfInBounds_toArray, List.set, q2]
              go_wp2
              exact ⟨_, rfl, rfl, Below.refl _ _⟩
            · have q3 : vals 3 = _ := hd ⟨3, .data⟩ (by simp) rfl
              simp only [laidF, List.foldl, Act.put, List.setIfInBounds_toArray, List.set, q3]
              go_wp2
              exact ⟨_, rfl, rfl, Below.refl _ _⟩
            · have q1 : vals 1 = _ := hd ⟨1, .data⟩ (by simp) rfl
              have q4 : vals 4 = _ := hd ⟨4, .data⟩ (by simp) rfl
              simp only [laidF, List.foldl, Act.put, List.setIfInBounds_toArray, List.set, q1, q4]
              go_wp2_with (go_at_call 8; refine (HZ.out _ (T6.below hB5)).mono ?_; rintro e w6 ⟨rfl, hb6⟩)
              exact ⟨_, rfl, rfl, hb6⟩
            · simp only [laidF, List.foldl, Act.put, List.setIfInBounds_toArray, List.set]
              go_wp2
              exact ⟨_, rfl, ⟨_, rfl, hB5.size, (Blk.new : FileAt _ _ (fun _ => 0) (fun _ => 0) 30)⟩, by go_grown⟩
          · intro vals v5 hB5 hd
            have q0 : vals 0 = _ := hd 0 (by decide) (by decide)
            have q1 : vals 1 = _ := hd 1 (by decide) (by decide)
            have q2 : vals 2 = _ := hd 2 (by decide) (by decide)
            have q3 : vals 3 = _ := hd 3 (by decide) (by decide)
            have q4 : vals 4 = _ := hd 4 (by decide) (by decide)
            have q5 : vals 5 = _ := hd 5 (by decide) (by decide)
            obtain ⟨bz, q6, hbn, hRn⟩ := hd 6 (by decide) (by decide)
            clear hd
            dsimp only [List.map, opAt]
            simp only [laidF, List.foldl, Act.put, List.setIfInBounds_toArray, List.set, q0, q1, q2, q3, q4, q5, q6]
            clear q0 q1 q2 q3 q4 q5 q6
            obtain ⟨⟨r0, r1, r2, r3⟩, r4, r5, r6, r7⟩ := hRn.cells
            obtain ⟨⟨s0, s1, s2, s3⟩, s4, s5, s6, s7⟩ := hRn.frozen
            have lr := hRn.lt
            refine wpList_store (put8 v5 bz zv zd) ?_ ?_
            · go_wp2
              exact rfl
            clear r0 r1 r2 r3 r4 r5 r6 r7 s0 s1 s2 s3 s4 s5 s6 s7 lr
            have Bs : Below w6.heap.size w6 (put8 v5 bz zv zd) := below_put8 hB5 hbn _ _
            have kbz7 : FileAt (put8 v5 bz zv zd) bz zv zd 30 := hRn.put
            clear hRn hB5
            generalize put8 v5 bz zv zd = w7 at *
            have kf7 := kf6.keep Bs
            have kx7 := kx6.keep Bs
            have kbg7 := kbg6.keep Bs
            have kby7 := kby6.keep Bs
            have T7 := T6.below Bs
            have B7 : Below bf w w7 := Below.thru B6 Bs (by omega)
            clear Bs v5 vals kf6 kx6 kbg6 kby6 T6 B6 hbn
            obtain ⟨-, fA⟩ := kf7.at hA4
            obtain ⟨-, fB⟩ := kf7.at hB4
            obtain ⟨-, gD⟩ := kbg7.at hD4
            obtain ⟨yD, yE⟩ := kby7.at hD4
            obtain ⟨zD, zE⟩ := kbz7.at hD4
            obtain ⟨x0, x1, x2, x3, x4, x5⟩ := kx7.cells
            have lf := kf7.lt
            have lx := kx7.lt
            have lg := kbg7.lt
            have ly := kby7.lt
            have lz := kbz7.lt
            have hne : ∀ w, Nonempty (Ext w) := ext_some
            rw [FG.out] at gD
            rw [FY.out.1] at yD
            rw [FY.out.2] at yE
            rw [FZ.out.1] at zD
            rw [FZ.out.2] at zE
            go_wp2
            refine wp_region_mix [] [0, 1, 2, 3, 4, 5, 6, 7, 8, 9, 10, 11, 12, 13, 14, 15, 16, 17, 18, 19, 20, 21, 22, 23, 24, 25, 26, 27, 28, 29, 30, 31, 32, 33, 34, 35, 36, 37, 38, 39, 40, 41, 42, 43, 44, 45, 46, 47, 48, 49, 50, 51, 52, 53, 54, 55, 56, 57] (by kernel_rfl) (by kernel_rfl) (fun _ _ d _ _ h => by cases d <;> exact h) ?_
            dsimp only [List.map, opAt]
            refine wpMix_last ?_
            repeat (go_big_quiet_step (fail))
            refine wpQuiet_nil ?_
            go_wp2
            go_ret
            rw [hbf]
            exact ⟨rfl, B7.drew⟩
end Go.Proofs.YtckaniemilmphaaDoor
