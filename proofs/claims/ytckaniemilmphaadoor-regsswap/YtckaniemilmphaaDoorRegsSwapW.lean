/- The walk of RegsSwap. -/
import Derived.Test.YtckaniemilmphaaDoorRegsShown
import Derived.Test.YtckaniemilmphaaDoorRegsFile
import Derived.Test.YtckaniemilmphaaDoorRegsDo
import Derived.Test.YtckaniemilmphaaDoorRegsBits
import Derived.Test.YtckaniemilmphaaDoorMix
import Derived.Test.YtckaniemilmphaaDoorParV
namespace Go.Proofs.YtckaniemilmphaaDoor
open Go.RowKit
attribute [local go_sem] Ext.cell Ext.frozen four_same' fourD_same'


theorem swap_make {op : Int} (h : op = 2 ∨ op = 3 ∨ op = 4) (a b : Int) : makeZ op a b 0 = makeZ op b a 0 := by
  rcases h with rfl | rfl | rfl
  · show wrap64 (a + b) = wrap64 (b + a)
    rw [Int.add_comm]
  · exact xor_swap a b
  · exact and_swap a b

set_option maxHeartbeats 4000000 in
theorem RegsSwap_true (v d : Nat → Int) (xd xa xb xo : Nat) (w : World) (T : Tab w) (ok : FileOk v d) : Calls Tryd.prog 6 #[fileV v d, .int .u8 xd, .int .u8 xa, .int .u8 xb, .int .u8 xo] w fun e w' => e = .returned (.bool true) ∧ Below w.heap.size w w' := by
  obtain ⟨op, hop, hop3⟩ : ∃ op : Int, 2 + (xo : Int) % 3 = op ∧ (op = 2 ∨ op = 3 ∨ op = 4) := ⟨_, rfl, by omega⟩
  obtain ⟨D, hD, hD4⟩ : ∃ D : Nat, (xd : Int) % 4 = D ∧ D < 4 := ⟨xd % 4, by omega, Nat.mod_lt _ (by decide)⟩
  obtain ⟨A, hA, hA4⟩ : ∃ D : Nat, (xa : Int) % 4 = D ∧ D < 4 := ⟨xa % 4, by omega, Nat.mod_lt _ (by decide)⟩
  obtain ⟨B, hB, hB4⟩ : ∃ D : Nat, (xb : Int) % 4 = D ∧ D < 4 := ⟨xb % 4, by omega, Nat.mod_lt _ (by decide)⟩
  have hM := fun w => made_any v d w
  have hX := fun w T => Do_in v d op D A B 0 0 w T (by omega) (by omega)
  have hY := fun w T => Do_in v d op D B A 0 0 w T (by omega) (by omega)
  have e1 : doV v op D B A 0 = doV v op D A B 0 := by unfold doV; rw [swap_make hop3]
  have e2 : doD d op D B A = doD d op D A B := by unfold doD; rw [hang_two ok hop3 hB4 hA4, hang_two ok hop3 hA4 hB4, or_swap]
  rw [e1, e2] at hY
  have e3 : atR (doV v op D A B 0) D = makeZ op (v A) (v B) 0 := by rw [atR_in _ hD4, doV, upd_same, atR_in _ hA4, atR_in _ hB4]
  obtain ⟨gv, hgv⟩ : ∃ g, doV v op D A B 0 = g := ⟨_, rfl⟩
  obtain ⟨gd, hgd⟩ : ∃ g, doD d op D A B = g := ⟨_, rfl⟩
  rw [hgv] at e3
  rw [hgv, hgd] at hX hY
  have hG := fun m w => Get_any gv gd m w
  unfold fileV at hM hX hY hG ⊢
  have HM : Hid _ := hM
  have HX : Hid _ := hX
  have HY : Hid _ := hY
  have HG : Hid _ := hG
  have HE : Hid _ := e3
  have HO : Hid _ := hop3
  have hop1 : 2 ≤ op ∧ op ≤ 4 := by omega
  have OK : Hid _ := ok
  clear hM hX hY hG e1 e2 e3 hgv hgd hop3 ok
  go_enter Tryd.func6, Tryd.ntmps6
  go_wp2_with fail
  have kf0 : FileAt _ _ v d 26 := FileAt.new (w := w)
  have B0 := below_new w (Obj.cells #[.int .i64 (v 0), .int .i64 (v 1), .int .i64 (v 2), .int .i64 (v 3), .int .u32 (d 0), .int .u32 (d 1), .int .u32 (d 2), .int .u32 (d 3)] 26)
  have T0 := T.below B0
  refine (shown_any _ T0).mono ?_
  rintro e w1 ⟨rfl, hb1⟩
  have kf1 := kf0.keep hb1
  have B1 : Below w.heap.size w w1 := Below.thru B0 hb1 (Nat.le_refl _)
  have T1 := T0.below hb1
  clear kf0 B0 T0 hb1
  generalize hbf : w.heap.size = bf at *
  go_wp2_with fail
  obtain ⟨w4, hw4, B14, kx4, ky4⟩ : ∃ w4, w4 = (w1.alloc (Obj.cells #[.int .i64 op, .int .i64 D, .int .i64 A, .int .i64 B, .int .i64 0, .int .i64 0] 29)).alloc (Obj.cells #[.int .i64 op, .int .i64 D, .int .i64 B, .int .i64 A, .int .i64 0, .int .i64 0] 29) ∧ Below w1.heap.size w1 w4 ∧ InsB w4 w1.heap.size op D A B 0 0 ∧ InsB w4 (w1.heap.size + 1) op D B A 0 0 :=
    ⟨_, rfl, by go_grown, Blk.new.alloc _, Blk.newAt (by simp)⟩
  rw [← hw4, hD, hA, hB]
  clear hw4 hD hA hB hop
  have kf4 := kf1.keep B14
  have T4 := T1.below B14
  have B4 : Below bf w w4 := Below.thru B1 B14 (by omega)
  clear kf1 T1 B1 B14
  generalize w1.heap.size = bx at *
  refine wp_region_par [5] [(41, 0), (42, 1), (43, 2), (44, 3), (14, 4)] (phiV w4.heap.size (fun w b => FileAt w b (fun _ => 0) (fun _ => 0) 30) [some (.agg #[.int .i64 (v 0), .int .i64 (v 1), .int .i64 (v 2), .int .i64 (v 3), .int .u32 (d 0), .int .u32 (d 1), .int .u32 (d 2), .int .u32 (d 3)]), some (.agg #[.int .i64 (v 0), .int .i64 (v 1), .int .i64 (v 2), .int .i64 (v 3), .int .u32 (d 0), .int .u32 (d 1), .int .u32 (d 2), .int .u32 (d 3)]), some (.agg #[.int .i64 op, .int .i64 D, .int .i64 A, .int .i64 B, .int .i64 0, .int .i64 0]), some (.agg #[.int .i64 (gv 0), .int .i64 (gv 1), .int .i64 (gv 2), .int .i64 (gv 3), .int .u32 (gd 0), .int .u32 (gd 1), .int .u32 (gd 2), .int .u32 (gd 3)]), none]) (by kernel_rfl) (by kernel_rfl) (phiV_stab _ _ _ (fun _ _ _ h hb => FileAt.keep h hb)) ?_ ?_
  · intro vals v5 hB5
    have kf5 := kf4.keep hB5
    have kx5 := kx4.keep hB5
    obtain ⟨⟨f0, f1, f2, f3⟩, f4, f5, f6, f7⟩ := kf5.cells
    obtain ⟨x0, x1, x2, x3, x4, x5⟩ := kx5.cells
    have lf := kf5.lt
    have lx := kx5.lt
    dsimp only [EachOp, Nat.zero_add, Nat.reduceAdd]
    refine ⟨fun _ hd => ?_, fun _ hd => ?_, fun _ hd => ?_, fun _ hd => ?_, fun _ hd => ?_, fun h => absurd h (by decide), trivial⟩
    · simp only [laidF, List.foldl, Act.put, List.setIfInBounds_toArray, List.set]
      go_wp2
      exact ⟨_, rfl, rfl, Below.refl _ _⟩
    · have q0 : vals 0 = _ := hd ⟨0, .data⟩ (by simp) rfl
      simp only [laidF, List.foldl, Act.put, List.setIfInBounds_toArray, List.set, q0]
      go_wp2_with (go_at_call 9; refine (HM.out _).mono ?_; rintro e w6 ⟨rfl, hb6⟩)
      exact ⟨_, rfl, rfl, hb6⟩
    · simp only [laidF, List.foldl, Act.put, List.setIfInBounds_toArray, List.set]
      go_wp2
      exact ⟨_, rfl, rfl, Below.refl _ _⟩
    · have q1 : vals 1 = _ := hd ⟨1, .data⟩ (by simp) rfl
      have q2 : vals 2 = _ := hd ⟨2, .data⟩ (by simp) rfl
      simp only [laidF, List.foldl, Act.put, List.setIfInBounds_toArray, List.set, q1, q2]
      go_wp2_with (go_at_call 8; refine (HX.out _ (T4.below hB5)).mono ?_; rintro e w6 ⟨rfl, hb6⟩)
      exact ⟨_, rfl, rfl, hb6⟩
    · simp only [laidF, List.foldl, Act.put, List.setIfInBounds_toArray, List.set]
      go_wp2
      exact ⟨_, rfl, ⟨_, rfl, hB5.size, (Blk.new : FileAt _ _ (fun _ => 0) (fun _ => 0) 30)⟩, by go_grown⟩
  · intro vals v5 hB5 hd
    have q0 : vals 0 = _ := hd 0 (by decide) (by decide)
    have q1 : vals 1 = _ := hd 1 (by decide) (by decide)
    have q2 : vals 2 = _ := hd 2 (by decide) (by decide)
    have q3 : vals 3 = _ := hd 3 (by decide) (by decide)
    obtain ⟨bn, q4, hbn, hRn⟩ := hd 4 (by decide) (by decide)
    clear hd
    dsimp only [List.map, opAt]
    simp only [laidF, List.foldl, Act.put, List.setIfInBounds_toArray, List.set, q0, q1, q2, q3, q4]
    clear q0 q1 q2 q3 q4
    obtain ⟨⟨r0, r1, r2, r3⟩, r4, r5, r6, r7⟩ := hRn.cells
    obtain ⟨⟨s0, s1, s2, s3⟩, s4, s5, s6, s7⟩ := hRn.frozen
    have lr := hRn.lt
    refine wpList_store (put8 v5 bn gv gd) ?_ ?_
    · go_wp2
      exact rfl
    clear r0 r1 r2 r3 r4 r5 r6 r7 s0 s1 s2 s3 s4 s5 s6 s7 lr
    have B45 : Below w4.heap.size w4 (put8 v5 bn gv gd) := below_put8 hB5 hbn _ _
    have kg5 : FileAt (put8 v5 bn gv gd) bn gv gd 30 := hRn.put
    clear hRn hB5
    generalize put8 v5 bn gv gd = w5 at *
    have kf5 := kf4.keep B45
    have kx5 := kx4.keep B45
    have ky5 := ky4.keep B45
    have T5 := T4.below B45
    have B5 : Below bf w w5 := Below.thru B4 B45 (by omega)
    clear kf4 kx4 ky4 T4 B4 B45 v5 vals
    obtain ⟨⟨g0, g1, g2, g3⟩, g4, g5, g6, g7⟩ := kg5.cells
    obtain ⟨x0, x1, x2, x3, x4, x5⟩ := kx5.cells
    have lg := kg5.lt
    have lx := kx5.lt
    go_wp2_with fail
    refine (HG.out _ _).mono ?_
    rintro e w6 ⟨rfl, hb6⟩
    rw [HE.out]
    have kf6 := kf5.keep hb6
    have kx6 := kx5.keep hb6
    have ky6 := ky5.keep hb6
    have kg6 := kg5.keep hb6
    have T6 := T5.below hb6
    have B6 : Below bf w w6 := Below.thru B5 hb6 (by omega)
    clear kf5 kx5 ky5 kg5 T5 B5 hb6 g0 g1 g2 g3 g4 g5 g6 g7 x0 x1 x2 x3 x4 x5 lg lx
    obtain ⟨⟨f0, f1, f2, f3⟩, f4, f5, f6, f7⟩ := kf6.cells
    obtain ⟨⟨g0, g1, g2, g3⟩, g4, g5, g6, g7⟩ := kg6.cells
    obtain ⟨x0, x1, x2, x3, x4, x5⟩ := kx6.cells
    obtain ⟨y0, y1, y2, y3, y4, y5⟩ := ky6.cells
    have lf := kf6.lt
    have lg := kg6.lt
    have lx := kx6.lt
    have ly := ky6.lt
    obtain ⟨fA, -⟩ := kf6.at hA4
    obtain ⟨fB, -⟩ := kf6.at hB4
    have bA := (OK.out A hA4).1
    have bB := (OK.out B hB4).1
    have hm : (op = 2 → wrap64 (makeZ op (v A) (v B) 0 - v A) = v B) ∧ (op = 3 → bits .xor .i64 (makeZ op (v A) (v B) 0) (v A) = v B) ∧ (op = 4 → bits .andNot .i64 (makeZ op (v A) (v B) 0) (v A) = 0 ∧ bits .andNot .i64 (makeZ op (v A) (v B) 0) (v B) = 0) :=
      ⟨fun h => by subst h; exact add_back bB.1 bB.2, fun h => by subst h; exact xor_back bB.1 bB.2, fun h => by subst h; exact ⟨and_less _ _, and_less' _ _⟩⟩
    have hA0 : (0 : Int) ≤ (A : Int) := by omega
    have hA4' : (A : Int) < 4 := by omega
    have hB0 : (0 : Int) ≤ (B : Int) := by omega
    have hB4' : (B : Int) < 4 := by omega
    generalize v A = p at *
    generalize v B = q at *
    generalize makeZ op p q 0 = m at *
    clear bA bB OK HE HG
    have hne : ∀ w, Nonempty (Ext w) := ext_some
    rcases HO.out with hop | hop | hop
    · subst hop
      clear HO hop1
      have hq := hm.1 rfl
      clear hm
      go_wp2
      refine wp_region_mix [([0, 1, 2, 3, 5], 4), ([], 6)] [7, 8, 9, 10, 11, 12, 13, 14, 15, 16, 17, 18, 19, 20, 21, 22, 23, 24, 25, 26, 27, 28, 29, 30, 31, 32, 33, 34, 35, 36, 37, 38, 39, 40, 41, 42, 43, 44, 45, 46, 47, 48, 49, 50] (by kernel_rfl) (by kernel_rfl) (fun _ _ d _ _ h => by cases d <;> exact h) ?_
      dsimp only [List.map, opAt]
      refine wpMix_stage ?_
      repeat (go_big_quiet_step (fail))
      refine wpQuiet_nil ?_
      go_wp2_with (go_at_call 9; refine (HM.out _).mono ?_; rintro e w7 ⟨rfl, hb7⟩)
      have B7 : Below w6.heap.size w6 w7 := Below.thru (Below.drew (Below.refl _ _)) hb7 (Nat.le_refl _)
      refine ⟨B7, ?_⟩
      refine wpMix_stage ?_
      refine wpQuiet_nil ?_
      go_wp2_with (go_at_call 8; refine (HY.out _ (T6.below B7)).mono ?_; rintro e w8 ⟨rfl, hb8⟩)
      have B8 : Below w6.heap.size w6 w8 := Below.thru B7 hb8 (Nat.le_refl _)
      refine ⟨B8, ?_⟩
      refine wpMix_last ?_
      repeat (go_big_quiet_step (fail))
      refine wpQuiet_nil ?_
      go_wp2
      go_ret
      rw [hbf]
      exact ⟨rfl, Below.thru B6 B8 (by omega)⟩
    · subst hop
      clear HO hop1
      have hq := hm.2.1 rfl
      clear hm
      go_wp2
      refine wp_region_mix [([0, 1, 2, 3, 5], 4), ([], 6)] [7, 8, 9, 10, 11, 12, 13, 14, 15, 16, 17, 18, 19, 20, 21, 22, 23, 24, 25, 26, 27, 28, 29, 30, 31, 32, 33, 34, 35, 36, 37, 38, 39, 40, 41, 42, 43, 44, 45, 46, 47, 48, 49, 50] (by kernel_rfl) (by kernel_rfl) (fun _ _ d _ _ h => by cases d <;> exact h) ?_
      dsimp only [List.map, opAt]
      refine wpMix_stage ?_
      repeat (go_big_quiet_step (fail))
      refine wpQuiet_nil ?_
      go_wp2_with (go_at_call 9; refine (HM.out _).mono ?_; rintro e w7 ⟨rfl, hb7⟩)
      have B7 : Below w6.heap.size w6 w7 := Below.thru (Below.drew (Below.refl _ _)) hb7 (Nat.le_refl _)
      refine ⟨B7, ?_⟩
      refine wpMix_stage ?_
      refine wpQuiet_nil ?_
      go_wp2_with (go_at_call 8; refine (HY.out _ (T6.below B7)).mono ?_; rintro e w8 ⟨rfl, hb8⟩)
      have B8 : Below w6.heap.size w6 w8 := Below.thru B7 hb8 (Nat.le_refl _)
      refine ⟨B8, ?_⟩
      refine wpMix_last ?_
      repeat (go_big_quiet_step (fail))
      refine wpQuiet_nil ?_
      go_wp2
      go_ret
      rw [hbf]
      exact ⟨rfl, Below.thru B6 B8 (by omega)⟩
    · subst hop
      clear HO hop1
      obtain ⟨hq, hq'⟩ := hm.2.2 rfl
      clear hm
      go_wp2
      refine wp_region_mix [([0, 1, 2, 3, 5], 4), ([], 6)] [7, 8, 9, 10, 11, 12, 13, 14, 15, 16, 17, 18, 19, 20, 21, 22, 23, 24, 25, 26, 27, 28, 29, 30, 31, 32, 33, 34, 35, 36, 37, 38, 39, 40, 41, 42, 43, 44, 45, 46, 47, 48, 49, 50] (by kernel_rfl) (by kernel_rfl) (fun _ _ d _ _ h => by cases d <;> exact h) ?_
      dsimp only [List.map, opAt]
      refine wpMix_stage ?_
      repeat (go_big_quiet_step (fail))
      refine wpQuiet_nil ?_
      go_wp2_with (go_at_call 9; refine (HM.out _).mono ?_; rintro e w7 ⟨rfl, hb7⟩)
      have B7 : Below w6.heap.size w6 w7 := Below.thru (Below.drew (Below.refl _ _)) hb7 (Nat.le_refl _)
      refine ⟨B7, ?_⟩
      refine wpMix_stage ?_
      refine wpQuiet_nil ?_
      go_wp2_with (go_at_call 8; refine (HY.out _ (T6.below B7)).mono ?_; rintro e w8 ⟨rfl, hb8⟩)
      have B8 : Below w6.heap.size w6 w8 := Below.thru B7 hb8 (Nat.le_refl _)
      refine ⟨B8, ?_⟩
      refine wpMix_last ?_
      repeat (go_big_quiet_step (fail))
      refine wpQuiet_nil ?_
      go_wp2
      go_ret
      rw [hbf]
      exact ⟨rfl, Below.thru B6 B8 (by omega)⟩
end Go.Proofs.YtckaniemilmphaaDoor
