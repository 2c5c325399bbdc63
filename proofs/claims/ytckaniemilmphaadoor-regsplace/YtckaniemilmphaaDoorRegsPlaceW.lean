/- The walk of RegsPlace. -/
import Derived.Test.YtckaniemilmphaaDoorRegsShown
import Derived.Test.YtckaniemilmphaaDoorRegsFile
import Derived.Test.YtckaniemilmphaaDoorRegsPlace
import Derived.Test.YtckaniemilmphaaDoorRegsBits
import Derived.Test.YtckaniemilmphaaDoorMix
import Derived.Test.YtckaniemilmphaaDoorParV
namespace Go.Proofs.YtckaniemilmphaaDoor
open Go.RowKit
attribute [local go_sem] Ext.cell Ext.frozen four_same' fourD_same'


theorem place_is (v : Nat → Int) (A l n : Int) (h : 1 ≤ n) : placeZ v 6 A l n = (l + atR v A) % n := by
  unfold placeZ
  rw [if_neg]
  intro h'
  rcases h' with h' | h'
  · exact absurd h' (by decide)
  · omega
theorem placeD_is (d : Nat → Int) (A n : Int) (h : 1 ≤ n) : placeD d 6 A n = atR d A := by
  unfold placeD
  rw [if_neg]
  intro h'
  rcases h' with h' | h'
  · exact absurd h' (by decide)
  · omega

set_option maxRecDepth 20000 in
set_option maxHeartbeats 8000000 in
theorem RegsPlace_true (v d : Nat → Int) (xl : Nat) (xa : Int) (xn : Nat) (w : World) (T : Tab w) (ok : FileOk v d) (hxl : xl < 65536) (_hxa : -128 ≤ xa ∧ xa < 128) : Calls Tryd.prog 4 #[fileV v d, .int .u16 xl, .int .i8 xa, .int .u8 xn] w fun e w' => e = .returned (.bool true) ∧ Below w.heap.size w w' := by
  obtain ⟨n, hn, hn1, hn20⟩ : ∃ n : Int, 1 + (xn : Int) % 20 = n ∧ (1 ≤ n ∧ n ≤ 20) := ⟨_, rfl, by omega⟩
  obtain ⟨A, hA, hA4⟩ : ∃ A : Int, xa.tmod 4 = A ∧ (-4 < A ∧ A < 4) := by
    refine ⟨_, rfl, ?_⟩
    rw [Int.tmod_eq_emod]
    split <;> omega
  obtain ⟨K, hK, hK4⟩ : ∃ K : Nat, max A 0 = (K : Int) ∧ K < 4 := ⟨A.toNat, by omega, by omega⟩
  obtain ⟨z, hz, hzb⟩ : ∃ z : Int, (v K).tdiv 2 = z ∧ (-4611686018427387904 ≤ z ∧ z ≤ 4611686018427387904) := by
    refine ⟨_, rfl, ?_⟩
    have := (ok K hK4).1
    rw [Int.tdiv_eq_ediv]
    split
    · omega
    · rw [show Int.sign 2 = 1 from rfl]
      omega
  have hM := fun w => made_any v d w
  have hP := fun w T => Place_any v d 6 0 A 0 xl 0 n w T (by omega)
  have hQ := fun w T => Place_any v d 6 0 A 0 (xl + n) 0 n w T (by omega)
  have hS := fun w => Set_any v d A z 0 w
  have hT := fun w => Set_any (upd v A z) (upd d A 0) A (z + n) 0 w
  have hPg := fun w T => Place_any (upd v A z) (upd d A 0) 6 0 A 0 xl 0 n w T (by omega)
  have hPh := fun w T => Place_any (upd (upd v A z) A (z + n)) (upd (upd d A 0) A 0) 6 0 A 0 xl 0 n w T (by omega)
  have hPa := fun w T => Place_any v d 6 0 (-1) 0 xl 0 n w T (by omega)
  have n0 : (0 : Int) < n := by omega
  have back : ∀ r : Int, (r + n) % n = r % n := fun r => Int.add_emod_right r n
  have eq : (xl + n + atR v A) % n = (xl + atR v A) % n := by rw [Int.add_right_comm, back]
  have ea : ((xl : Int) + atR v (-1)) % n = xl % n := by rw [atR_out _ (.inl (by decide)), Int.add_zero]
  have eh : ((xl : Int) + atR (upd (upd v A z) A (z + n)) A) % n = (xl + atR (upd v A z) A) % n := by
    by_cases h : 0 ≤ A
    · obtain ⟨m, rfl⟩ : ∃ m : Nat, A = (m : Int) := ⟨A.toNat, by omega⟩
      rw [atR_in _ (by omega), atR_in _ (by omega), upd_same, upd_same, ← Int.add_assoc, back]
    · rw [atR_out _ (.inl (by omega)), atR_out _ (.inl (by omega))]
  have en : 0 ≤ A → atR (upd d A 0) A = 0 := fun h => by
    obtain ⟨m, rfl⟩ : ∃ m : Nat, A = (m : Int) := ⟨A.toNat, by omega⟩
    rw [atR_in _ (by omega), upd_same]
  have ed : A < 0 → atR d A = 0 ∧ ((xl : Int) + atR v A) % n = xl % n := fun h => by
    rw [atR_out _ (.inl h), atR_out _ (.inl h), Int.add_zero]
    exact ⟨rfl, rfl⟩
  rw [place_is _ _ _ _ hn1, placeD_is _ _ _ hn1] at hP hQ hPg hPh hPa
  rw [eq] at hQ
  rw [ea] at hPa
  rw [eh] at hPh
  have b1 := Int.emod_nonneg ((xl : Int) + atR v A) (Int.ne_of_gt n0)
  have b2 := Int.emod_lt_of_pos ((xl : Int) + atR v A) n0
  obtain ⟨p, hp⟩ : ∃ p, ((xl : Int) + atR v A) % n = p := ⟨_, rfl⟩
  obtain ⟨al, hal⟩ : ∃ p, (xl : Int) % n = p := ⟨_, rfl⟩
  obtain ⟨s, hs⟩ : ∃ p, ((xl : Int) + atR (upd v A z) A) % n = p := ⟨_, rfl⟩
  obtain ⟨dp, hdp⟩ : ∃ p, atR d A = p := ⟨_, rfl⟩
  obtain ⟨da, hda⟩ : ∃ p, atR d (-1) = p := ⟨_, rfl⟩
  obtain ⟨ns, hns⟩ : ∃ p, atR (upd d A 0) A = p := ⟨_, rfl⟩
  obtain ⟨nt, hnt⟩ : ∃ p, atR (upd (upd d A 0) A 0) A = p := ⟨_, rfl⟩
  rw [hp, hdp] at hP hQ ed
  rw [hp] at b1 b2
  rw [hal] at hPa ed
  rw [hda] at hPa
  rw [hs] at hPg hPh
  rw [hns] at hPg en
  rw [hnt] at hPh
  obtain ⟨gv, hgv⟩ : ∃ g, upd v A z = g := ⟨_, rfl⟩
  obtain ⟨gd, hgd⟩ : ∃ g, upd d A 0 = g := ⟨_, rfl⟩
  rw [hgv, hgd] at hS hT hPg hPh
  obtain ⟨hv, hhv⟩ : ∃ g, upd gv A (z + n) = g := ⟨_, rfl⟩
  obtain ⟨hd, hhd⟩ : ∃ g, upd gd A 0 = g := ⟨_, rfl⟩
  rw [hhv, hhd] at hT hPh
  unfold fileV at hM hP hQ hS hT hPg hPh hPa ⊢
  have HM : Hid _ := hM
  have HP : Hid _ := hP
  have HQ : Hid _ := hQ
  have HS : Hid _ := hS
  have HT : Hid _ := hT
  have HPg : Hid _ := hPg
  have HPh : Hid _ := hPh
  have HPa : Hid _ := hPa
  have HE : Hid _ := ed
  have HN : Hid _ := en
  have HL : Hid _ := hal
  clear hM hP hQ hS hT hPg hPh hPa ed en hp hal hs hdp hda hns hnt hgv hgd hhv hhd eq ea eh back ok
  have hK0 : (0 : Int) ≤ (K : Int) := by omega
  have hK4' : (K : Int) < 4 := by omega
  go_enter Tryd.func4, Tryd.ntmps4
  go_wp2_with fail
  have kf0 : FileAt _ _ v d 26 := FileAt.new (w := w)
  have B0 := below_new w (Obj.cells #[.int .i64 (v 0), .int .i64 (v 1), .int .i64 (v 2), .int .i64 (v 3), .int .u32 (d 0), .int .u32 (d 1), .int .u32 (d 2), .int .u32 (d 3)] 26)
  have T0 := T.below B0
  refine (shown_any _ T0).mono ?_
  rintro e w1 ⟨rfl, hb1⟩
  have kf1 := kf0.keep hb1
  have B1 : Below w.heap.size w w1 := Below.thru B0 hb1 (Nat.le_refl _)
  have T1 := T0.below hb1
  clear kf0 B0 T0 hb1
  generalize hbf : w.heap.size = bf at *
  go_wp2_with fail
  obtain ⟨w2, hw2, B12, kx2⟩ : ∃ w2, w2 = w1.alloc (Obj.cells #[.int .i64 6, .int .i64 0, .int .i64 A, .int .i64 0, .int .i64 xl, .int .i64 0] 29) ∧ Below w1.heap.size w1 w2 ∧ InsB w2 w1.heap.size 6 0 A 0 xl 0 :=
    ⟨_, rfl, by go_grown, Blk.new⟩
  rw [← hw2]
  clear hw2 hA hn
  have kf2 := kf1.keep B12
  have T2 := T1.below B12
  have B2 : Below bf w w2 := Below.thru B1 B12 (by omega)
  clear kf1 T1 B1 B12
  generalize w1.heap.size = bx at *
  have hne : ∀ w, Nonempty (Ext w) := ext_some
  obtain ⟨⟨f0, f1, f2, f3⟩, f4, f5, f6, f7⟩ := kf2.cells
  obtain ⟨x0, x1, x2, x3, x4, x5⟩ := kx2.cells
  have lf := kf2.lt
  have lx := kx2.lt
  refine wp_region_mix [([0, 2, 3], 1), ([], 4)] [5, 6, 8, 7, 9] (by kernel_rfl) (by kernel_rfl) (fun _ _ d _ _ h => by cases d <;> exact h) ?_
  dsimp only [List.map, opAt]
  refine wpMix_stage ?_
  repeat (go_big_quiet_step (fail))
  refine wpQuiet_nil ?_
  go_wp2_with (go_at_call 9; refine (HM.out _).mono ?_; rintro e w3 ⟨rfl, hbw3⟩)
  have Bw3 : Below w2.heap.size w2 w3 := Below.thru (Below.drew (Below.refl _ _)) hbw3 (Nat.le_refl _)
  refine ⟨Bw3, ?_⟩
  refine wpMix_stage ?_
  refine wpQuiet_nil ?_
  go_wp2_with (go_at_call 10; refine (HP.out _ (T2.below Bw3)).mono ?_; rintro e w4 ⟨rfl, hbw4⟩)
  have Bw4 : Below w2.heap.size w2 w4 := Below.thru Bw3 hbw4 (Nat.le_refl _)
  refine ⟨Bw4, ?_⟩
  refine wpMix_last ?_
  repeat (go_big_quiet_step (fail))
  refine wpQuiet_nil ?_
  have kf4 := kf2.keep Bw4
  have kx4 := kx2.keep Bw4
  have T4 := T2.below Bw4
  have B4 : Below bf w w4 := Below.thru B2 Bw4 (by omega)
  clear kf2 kx2 T2 B2 Bw3 Bw4 hbw3 hbw4 f0 f1 f2 f3 f4 f5 f6 f7 x0 x1 x2 x3 x4 x5 lf lx
  obtain ⟨⟨f0, f1, f2, f3⟩, f4, f5, f6, f7⟩ := kf4.cells
  obtain ⟨x0, x1, x2, x3, x4, x5⟩ := kx4.cells
  have lf := kf4.lt
  have lx := kx4.lt
  go_wp2_with fail
  obtain ⟨w5, hw5, B45, ky5⟩ : ∃ w5, w5 = w4.alloc (Obj.cells #[.int .i64 6, .int .i64 0, .int .i64 A, .int .i64 0, .int .i64 (xl + n), .int .i64 0] 29) ∧ Below w4.heap.size w4 w5 ∧ InsB w5 w4.heap.size 6 0 A 0 (xl + n) 0 :=
    ⟨_, rfl, by go_grown, Blk.new⟩
  rw [← hw5]
  clear hw5
  have kf5 := kf4.keep B45
  have kx5 := kx4.keep B45
  have T5 := T4.below B45
  have B5 : Below bf w w5 := Below.thru B4 B45 (by omega)
  clear kf4 kx4 T4 B4 B45 f0 f1 f2 f3 f4 f5 f6 f7 x0 x1 x2 x3 x4 x5 lf lx
  generalize w4.heap.size = by_ at *
  obtain ⟨⟨f0, f1, f2, f3⟩, f4, f5, f6, f7⟩ := kf5.cells
  obtain ⟨y0, y1, y2, y3, y4, y5⟩ := ky5.cells
  have lf := kf5.lt
  have ly := ky5.lt
  refine wp_region_mix [([0, 2, 3], 1), ([], 4)] [5, 6, 8, 7, 9] (by kernel_rfl) (by kernel_rfl) (fun _ _ d _ _ h => by cases d <;> exact h) ?_
  dsimp only [List.map, opAt]
  refine wpMix_stage ?_
  repeat (go_big_quiet_step (fail))
  refine wpQuiet_nil ?_
  go_wp2_with (go_at_call 9; refine (HM.out _).mono ?_; rintro e w6 ⟨rfl, hbw6⟩)
  have Bw6 : Below w5.heap.size w5 w6 := Below.thru (Below.drew (Below.refl _ _)) hbw6 (Nat.le_refl _)
  refine ⟨Bw6, ?_⟩
  refine wpMix_stage ?_
  refine wpQuiet_nil ?_
  go_wp2_with (go_at_call 10; refine (HQ.out _ (T5.below Bw6)).mono ?_; rintro e w7 ⟨rfl, hbw7⟩)
  have Bw7 : Below w5.heap.size w5 w7 := Below.thru Bw6 hbw7 (Nat.le_refl _)
  refine ⟨Bw7, ?_⟩
  refine wpMix_last ?_
  repeat (go_big_quiet_step (fail))
  refine wpQuiet_nil ?_
  have kf7 := kf5.keep Bw7
  have kx7 := kx5.keep Bw7
  have T7 := T5.below Bw7
  have B7 : Below bf w w7 := Below.thru B5 Bw7 (by omega)
  clear kf5 kx5 T5 B5 Bw6 Bw7 hbw6 hbw7 f0 f1 f2 f3 f4 f5 f6 f7 y0 y1 y2 y3 y4 y5 lf ly ky5
  go_wp2_with fail
  refine wp_region_par [13] [(58, 0), (59, 1), (60, 2), (61, 3), (62, 4), (63, 5), (64, 6), (65, 7), (66, 8), (67, 9), (68, 10), (69, 11), (17, 12)] (phiV w7.heap.size (fun w b => FileAt w b (fun _ => 0) (fun _ => 0) 30) [some (.agg #[.int .i64 (v 0), .int .i64 (v 1), .int .i64 (v 2), .int .i64 (v 3), .int .u32 (d 0), .int .u32 (d 1), .int .u32 (d 2), .int .u32 (d 3)]), some (.agg #[.int .i64 (v 0), .int .i64 (v 1), .int .i64 (v 2), .int .i64 (v 3), .int .u32 (d 0), .int .u32 (d 1), .int .u32 (d 2), .int .u32 (d 3)]), some (.pointer (some ⟨bx, 2, none⟩)), some (.int .i64 A), some (.pointer (some ⟨bx, 2, none⟩)), some (.int .i64 A), some (.int .i64 K), some (.pointer (some ⟨bf, 0, none⟩)), some (.pointer (some ⟨bf, K, none⟩)), some (.int .i64 (v K)), some (.int .i64 z), some (.agg #[.int .i64 (gv 0), .int .i64 (gv 1), .int .i64 (gv 2), .int .i64 (gv 3), .int .u32 (gd 0), .int .u32 (gd 1), .int .u32 (gd 2), .int .u32 (gd 3)]), none]) (by kernel_rfl) (by kernel_rfl) (phiV_stab _ _ _ (fun _ _ _ h hb => FileAt.keep h hb)) ?_ ?_
  · intro vals v5 hB5
    have kf5' := kf7.keep hB5
    have kx5' := kx7.keep hB5
    obtain ⟨⟨f0, f1, f2, f3⟩, f4, f5, f6, f7⟩ := kf5'.cells
    obtain ⟨x0, x1, x2, x3, x4, x5⟩ := kx5'.cells
    obtain ⟨fK, -⟩ := kf5'.at hK4
    have lf := kf5'.lt
    have lx := kx5'.lt
    dsimp only [EachOp, Nat.zero_add, Nat.reduceAdd]
    refine ⟨fun _ hd => ?_, fun _ hd => ?_, fun _ hd => ?_, fun _ hd => ?_, fun _ hd => ?_, fun _ hd => ?_, fun _ hd => ?_, fun _ hd => ?_, fun _ hd => ?_, fun _ hd => ?_, fun _ hd => ?_, fun _ hd => ?_, fun _ hd => ?_, fun h => absurd h (by decide), trivial⟩
    · simp only [laidF, List.foldl, Act.put, List.setIfInBounds_toArray, List.set]
      go_wp2
      exact ⟨_, rfl, rfl, Below.refl _ _⟩
    · have q0 : vals 0 = _ := hd ⟨0, .data⟩ (by simp) rfl
      simp only [laidF, List.foldl, Act.put, List.setIfInBounds_toArray, List.set, q0]
      go_wp2_with (go_at_call 9; refine (HM.out _).mono ?_; rintro e w6 ⟨rfl, hb6⟩)
      exact ⟨_, rfl, rfl, hb6⟩
    · simp only [laidF, List.foldl, Act.put, List.setIfInBounds_toArray, List.set]
      go_wp2
      exact ⟨_, rfl, rfl, Below.refl _ _⟩
    · have q2 : vals 2 = _ := hd ⟨2, .data⟩ (by simp) rfl
      simp only [laidF, List.foldl, Act.put, List.setIfInBounds_toArray, List.set, q2]
      go_wp2
      exact ⟨_, rfl, rfl, Below.refl _ _⟩
    · simp only [laidF, List.foldl, Act.put, List.setIfInBounds_toArray, List.set]
      go_wp2
      exact ⟨_, rfl, rfl, Below.refl _ _⟩
    · have q4 : vals 4 = _ := hd ⟨4, .data⟩ (by simp) rfl
      simp only [laidF, List.foldl, Act.put, List.setIfInBounds_toArray, List.set, q4]
      go_wp2
      exact ⟨_, rfl, rfl, Below.refl _ _⟩
    · have q5 : vals 5 = _ := hd ⟨5, .data⟩ (by simp) rfl
      simp only [laidF, List.foldl, Act.put, List.setIfInBounds_toArray, List.set, q5]
      go_wp2
      all_goals
        refine ⟨_, rfl, ?_, Below.refl _ _⟩
        show Value.int _ _ = Value.int _ _
        congr 1
        omega
    · simp only [laidF, List.foldl, Act.put, List.setIfInBounds_toArray, List.set]
      go_wp2
      exact ⟨_, rfl, rfl, Below.refl _ _⟩
    · have q6 : vals 6 = _ := hd ⟨6, .data⟩ (by simp) rfl
      have q7 : vals 7 = _ := hd ⟨7, .data⟩ (by simp) rfl
      simp only [laidF, List.foldl, Act.put, List.setIfInBounds_toArray, List.set, q6, q7]
      go_wp2
      exact ⟨_, rfl, rfl, Below.refl _ _⟩
    · have q8 : vals 8 = _ := hd ⟨8, .data⟩ (by simp) rfl
      simp only [laidF, List.foldl, Act.put, List.setIfInBounds_toArray, List.set, q8]
      go_wp2
      exact ⟨_, rfl, rfl, Below.refl _ _⟩
    · have q9 : vals 9 = _ := hd ⟨9, .data⟩ (by simp) rfl
      simp only [laidF, List.foldl, Act.put, List.setIfInBounds_toArray, List.set, q9]
      go_wp2
      exact ⟨_, rfl, rfl, Below.refl _ _⟩
    · have q1 : vals 1 = _ := hd ⟨1, .data⟩ (by simp) rfl
      have q3 : vals 3 = _ := hd ⟨3, .data⟩ (by simp) rfl
      have q10 : vals 10 = _ := hd ⟨10, .data⟩ (by simp) rfl
      simp only [laidF, List.foldl, Act.put, List.setIfInBounds_toArray, List.set, q1, q3, q10]
      go_wp2_with (go_at_call 11; refine (HS.out _).mono ?_; rintro e w6 ⟨rfl, hb6⟩)
      exact ⟨_, rfl, rfl, hb6⟩
    · simp only [laidF, List.foldl, Act.put, List.setIfInBounds_toArray, List.set]
      go_wp2
      exact ⟨_, rfl, ⟨_, rfl, hB5.size, (Blk.new : FileAt _ _ (fun _ => 0) (fun _ => 0) 30)⟩, by go_grown⟩
  · intro vals v5 hB5 hd
    have q0 : vals 0 = _ := hd 0 (by decide) (by decide)
    have q1 : vals 1 = _ := hd 1 (by decide) (by decide)
    have q2 : vals 2 = _ := hd 2 (by decide) (by decide)
    have q3 : vals 3 = _ := hd 3 (by decide) (by decide)
    have q4 : vals 4 = _ := hd 4 (by decide) (by decide)
    have q5 : vals 5 = _ := hd 5 (by decide) (by decide)
    have q6 : vals 6 = _ := hd 6 (by decide) (by decide)
    have q7 : vals 7 = _ := hd 7 (by decide) (by decide)
    have q8 : vals 8 = _ := hd 8 (by decide) (by decide)
    have q9 : vals 9 = _ := hd 9 (by decide) (by decide)
    have q10 : vals 10 = _ := hd 10 (by decide) (by decide)
    have q11 : vals 11 = _ := hd 11 (by decide) (by decide)
    obtain ⟨bg, q12, hbn, hRn⟩ := hd 12 (by decide) (by decide)
    clear hd
    dsimp only [List.map, opAt]
    simp only [laidF, List.foldl, Act.put, List.setIfInBounds_toArray, List.set, q0, q1, q2, q3, q4, q5, q6, q7, q8, q9, q10, q11, q12]
    clear q0 q1 q2 q3 q4 q5 q6 q7 q8 q9 q10 q11 q12
    obtain ⟨⟨r0, r1, r2, r3⟩, r4, r5, r6, r7⟩ := hRn.cells
    obtain ⟨⟨s0, s1, s2, s3⟩, s4, s5, s6, s7⟩ := hRn.frozen
    have lr := hRn.lt
    refine wpList_store (put8 v5 bg gv gd) ?_ ?_
    · go_wp2
      exact rfl
    clear r0 r1 r2 r3 r4 r5 r6 r7 s0 s1 s2 s3 s4 s5 s6 s7 lr
    have Bs : Below w7.heap.size w7 (put8 v5 bg gv gd) := below_put8 hB5 hbn _ _
    have kbg8 : FileAt (put8 v5 bg gv gd) bg gv gd 30 := hRn.put
    clear hRn hB5
    generalize put8 v5 bg gv gd = w8 at *
    have kf8 := kf7.keep Bs
    have kx8 := kx7.keep Bs
    have T8 := T7.below Bs
    have B8 : Below bf w w8 := Below.thru B7 Bs (by omega)
    clear Bs v5 vals kf7 kx7 T7 B7 hbn
    go_wp2_with fail
    refine wp_region_par [14] [(70, 0), (71, 1), (72, 2), (73, 3), (74, 4), (75, 5), (76, 6), (77, 7), (78, 8), (79, 9), (80, 10), (81, 11), (82, 12), (18, 13)] (phiV w8.heap.size (fun w b => FileAt w b (fun _ => 0) (fun _ => 0) 30) [some (.agg #[.int .i64 (gv 0), .int .i64 (gv 1), .int .i64 (gv 2), .int .i64 (gv 3), .int .u32 (gd 0), .int .u32 (gd 1), .int .u32 (gd 2), .int .u32 (gd 3)]), some (.pointer (some ⟨bx, 2, none⟩)), some (.int .i64 A), some (.pointer (some ⟨bx, 2, none⟩)), some (.int .i64 A), some (.int .i64 K), some (.pointer (some ⟨bf, 0, none⟩)), some (.pointer (some ⟨bf, K, none⟩)), some (.int .i64 (v K)), some (.int .i64 z), some (.int .i64 n), some (.int .i64 (z + n)), some (.agg #[.int .i64 (hv 0), .int .i64 (hv 1), .int .i64 (hv 2), .int .i64 (hv 3), .int .u32 (hd 0), .int .u32 (hd 1), .int .u32 (hd 2), .int .u32 (hd 3)]), none]) (by kernel_rfl) (by kernel_rfl) (phiV_stab _ _ _ (fun _ _ _ h hb => FileAt.keep h hb)) ?_ ?_
    · intro vals v5 hB5
      have kf5' := kf8.keep hB5
      have kx5' := kx8.keep hB5
      obtain ⟨⟨f0, f1, f2, f3⟩, f4, f5, f6, f7⟩ := kf5'.cells
      obtain ⟨x0, x1, x2, x3, x4, x5⟩ := kx5'.cells
      obtain ⟨fK, -⟩ := kf5'.at hK4
      have lf := kf5'.lt
      have lx := kx5'.lt
      have kg5' := kbg8.keep hB5
      obtain ⟨⟨g0, g1, g2, g3⟩, g4, g5, g6, g7⟩ := kg5'.cells
      have lg := kg5'.lt
      dsimp only [EachOp, Nat.zero_add, Nat.reduceAdd]
      refine ⟨fun _ hd => ?_, fun _ hd => ?_, fun _ hd => ?_, fun _ hd => ?_, fun _ hd => ?_, fun _ hd => ?_, fun _ hd => ?_, fun _ hd => ?_, fun _ hd => ?_, fun _ hd => ?_, fun _ hd => ?_, fun _ hd => ?_, fun _ hd => ?_, fun _ hd => ?_, fun h => absurd h (by decide), trivial⟩
      · simp only [laidF, List.foldl, Act.put, List.setIfInBounds_toArray, List.set]
        go_wp2
        exact ⟨_, rfl, rfl, Below.refl _ _⟩
      · simp only [laidF, List.foldl, Act.put, List.setIfInBounds_toArray, List.set]
        go_wp2
        exact ⟨_, rfl, rfl, Below.refl _ _⟩
      · have q1 : vals 1 = _ := hd ⟨1, .data⟩ (by simp) rfl
        simp only [laidF, List.foldl, Act.put, List.setIfInBounds_toArray, List.set, q1]
        go_wp2
        exact ⟨_, rfl, rfl, Below.refl _ _⟩
      · simp only [laidF, List.foldl, Act.put, List.setIfInBounds_toArray, List.set]
        go_wp2
        exact ⟨_, rfl, rfl, Below.refl _ _⟩
      · have q3 : vals 3 = _ := hd ⟨3, .data⟩ (by simp) rfl
        simp only [laidF, List.foldl, Act.put, List.setIfInBounds_toArray, List.set, q3]
        go_wp2
        exact ⟨_, rfl, rfl, Below.refl _ _⟩
      · have q4 : vals 4 = _ := hd ⟨4, .data⟩ (by simp) rfl
        simp only [laidF, List.foldl, Act.put, List.setIfInBounds_toArray, List.set, q4]
        go_wp2
        all_goals
          refine ⟨_, rfl, ?_, Below.refl _ _⟩
          show Value.int _ _ = Value.int _ _
          congr 1
          omega
      · simp only [laidF, List.foldl, Act.put, List.setIfInBounds_toArray, List.set]
        go_wp2
        exact ⟨_, rfl, rfl, Below.refl _ _⟩
      · have q5 : vals 5 = _ := hd ⟨5, .data⟩ (by simp) rfl
        have q6 : vals 6 = _ := hd ⟨6, .data⟩ (by simp) rfl
        simp only [laidF, List.foldl, Act.put, List.setIfInBounds_toArray, List.set, q5, q6]
        go_wp2
        exact ⟨_, rfl, rfl, Below.refl _ _⟩
      · have q7 : vals 7 = _ := hd ⟨7, .data⟩ (by simp) rfl
        simp only [laidF, List.foldl, Act.put, List.setIfInBounds_toArray, List.set, q7]
        go_wp2
        exact ⟨_, rfl, rfl, Below.refl _ _⟩
      · have q8 : vals 8 = _ := hd ⟨8, .data⟩ (by simp) rfl
        simp only [laidF, List.foldl, Act.put, List.setIfInBounds_toArray, List.set, q8]
        go_wp2
        exact ⟨_, rfl, rfl, Below.refl _ _⟩
      · simp only [laidF, List.foldl, Act.put, List.setIfInBounds_toArray, List.set]
        go_wp2
        exact ⟨_, rfl, rfl, Below.refl _ _⟩
      · have q9 : vals 9 = _ := hd ⟨9, .data⟩ (by simp) rfl
        have q10 : vals 10 = _ := hd ⟨10, .data⟩ (by simp) rfl
        simp only [laidF, List.foldl, Act.put, List.setIfInBounds_toArray, List.set, q9, q10]
        go_wp2
        exact ⟨_, rfl, rfl, Below.refl _ _⟩
      · have q0 : vals 0 = _ := hd ⟨0, .data⟩ (by simp) rfl
        have q2 : vals 2 = _ := hd ⟨2, .data⟩ (by simp) rfl
        have q11 : vals 11 = _ := hd ⟨11, .data⟩ (by simp) rfl
        simp only [laidF, List.foldl, Act.put, List.setIfInBounds_toArray, List.set, q0, q2, q11]
        go_wp2_with (go_at_call 11; refine (HT.out _).mono ?_; rintro e w6 ⟨rfl, hb6⟩)
        exact ⟨_, rfl, rfl, hb6⟩
      · simp only [laidF, List.foldl, Act.put, List.setIfInBounds_toArray, List.set]
        go_wp2
        exact ⟨_, rfl, ⟨_, rfl, hB5.size, (Blk.new : FileAt _ _ (fun _ => 0) (fun _ => 0) 30)⟩, by go_grown⟩
    · intro vals v5 hB5 hd
      have q0 : vals 0 = _ := hd 0 (by decide) (by decide)
      have q1 : vals 1 = _ := hd 1 (by decide) (by decide)
      have q2 : vals 2 = _ := hd 2 (by decide) (by decide)
      have q3 : vals 3 = _ := hd 3 (by decide) (by decide)
      have q4 : vals 4 = _ := hd 4 (by decide) (by decide)
      have q5 : vals 5 = _ := hd 5 (by decide) (by decide)
      have q6 : vals 6 = _ := hd 6 (by decide) (by decide)
      have q7 : vals 7 = _ := hd 7 (by decide) (by decide)
      have q8 : vals 8 = _ := hd 8 (by decide) (by decide)
      have q9 : vals 9 = _ := hd 9 (by decide) (by decide)
      have q10 : vals 10 = _ := hd 10 (by decide) (by decide)
      have q11 : vals 11 = _ := hd 11 (by decide) (by decide)
      have q12 : vals 12 = _ := hd 12 (by decide) (by decide)
      obtain ⟨bh, q13, hbn, hRn⟩ := hd 13 (by decide) (by decide)
      clear hd
      dsimp only [List.map, opAt]
      simp only [laidF, List.foldl, Act.put, List.setIfInBounds_toArray, List.set, q0, q1, q2, q3, q4, q5, q6, q7, q8, q9, q10, q11, q12, q13]
      clear q0 q1 q2 q3 q4 q5 q6 q7 q8 q9 q10 q11 q12 q13
      obtain ⟨⟨r0, r1, r2, r3⟩, r4, r5, r6, r7⟩ := hRn.cells
      obtain ⟨⟨s0, s1, s2, s3⟩, s4, s5, s6, s7⟩ := hRn.frozen
      have lr := hRn.lt
      refine wpList_store (put8 v5 bh hv hd) ?_ ?_
      · go_wp2
        exact rfl
      clear r0 r1 r2 r3 r4 r5 r6 r7 s0 s1 s2 s3 s4 s5 s6 s7 lr
      have Bs : Below w8.heap.size w8 (put8 v5 bh hv hd) := below_put8 hB5 hbn _ _
      have kbh9 : FileAt (put8 v5 bh hv hd) bh hv hd 30 := hRn.put
      clear hRn hB5
      generalize put8 v5 bh hv hd = w9 at *
      have kf9 := kf8.keep Bs
      have kx9 := kx8.keep Bs
      have kbg9 := kbg8.keep Bs
      have T9 := T8.below Bs
      have B9 : Below bf w w9 := Below.thru B8 Bs (by omega)
      clear Bs v5 vals kf8 kx8 kbg8 T8 B8 hbn
      obtain ⟨⟨g0, g1, g2, g3⟩, g4, g5, g6, g7⟩ := kbg9.cells
      obtain ⟨x0, x1, x2, x3, x4, x5⟩ := kx9.cells
      have lg := kbg9.lt
      have lx := kx9.lt
      go_wp2_with fail
      refine (HPg.out _ T9).mono ?_
      rintro e w10 ⟨rfl, hb⟩
      have kf10 := kf9.keep hb
      have kx10 := kx9.keep hb
      have kbg10 := kbg9.keep hb
      have kbh10 := kbh9.keep hb
      have T10 := T9.below hb
      have B10 : Below bf w w10 := Below.thru B9 hb (by omega)
      clear hb kf9 kx9 kbg9 kbh9 T9 B9
      clear g0 g1 g2 g3 g4 g5 g6 g7 x0 x1 x2 x3 x4 x5 lg lx
      obtain ⟨⟨h0, h1, h2, h3⟩, h4, h5, h6, h7⟩ := kbh10.cells
      obtain ⟨x0, x1, x2, x3, x4, x5⟩ := kx10.cells
      have lh := kbh10.lt
      have lx := kx10.lt
      go_wp2_with fail
      refine (HPh.out _ T10).mono ?_
      rintro e w11 ⟨rfl, hb⟩
      have kf11 := kf10.keep hb
      have kx11 := kx10.keep hb
      have kbg11 := kbg10.keep hb
      have kbh11 := kbh10.keep hb
      have T11 := T10.below hb
      have B11 : Below bf w w11 := Below.thru B10 hb (by omega)
      clear hb kf10 kx10 kbg10 kbh10 T10 B10
      clear h0 h1 h2 h3 h4 h5 h6 h7 x0 x1 x2 x3 x4 x5 lh lx
      obtain ⟨⟨f0, f1, f2, f3⟩, f4, f5, f6, f7⟩ := kf11.cells
      have lf := kf11.lt
      go_wp2_with fail
      refine (HM.out _).mono ?_
      rintro e w12 ⟨rfl, hb⟩
      have kf12 := kf11.keep hb
      have kx12 := kx11.keep hb
      have kbg12 := kbg11.keep hb
      have kbh12 := kbh11.keep hb
      have T12 := T11.below hb
      have B12 : Below bf w w12 := Below.thru B11 hb (by omega)
      clear hb kf11 kx11 kbg11 kbh11 T11 B11
      go_wp2_with fail
      refine (HPa.out _ T12).mono ?_
      rintro e w13 ⟨rfl, hb⟩
      have kf13 := kf12.keep hb
      have kx13 := kx12.keep hb
      have kbg13 := kbg12.keep hb
      have kbh13 := kbh12.keep hb
      have T13 := T12.below hb
      have B13 : Below bf w w13 := Below.thru B12 hb (by omega)
      clear hb kf12 kx12 kbg12 kbh12 T12 B12
      clear f0 f1 f2 f3 f4 f5 f6 f7 lf
      obtain ⟨x0, x1, x2, x3, x4, x5⟩ := kx13.cells
      have lx := kx13.lt
      clear HM HP HQ HS HT HPg HPh HPa hne hK hz hzb _hxa hK0 hK4' hK4 hA4
      have hfin : (xl : Int).tmod n = al := by
        rw [← HL.out, Int.tmod_eq_emod, if_pos (.inl (by omega))]
        omega
      by_cases hA0 : A < 0
      · obtain ⟨e1, e2⟩ := HE.out hA0
        subst e1 e2
        have hA0' : ¬ 0 ≤ A := by omega
        go_wp2
        go_ret
        rw [hbf]
        exact ⟨rfl, B13⟩
      · have hA0' : 0 ≤ A := by omega
        obtain e1 := HN.out hA0'
        subst e1
        go_wp2
        go_ret
        rw [hbf]
        exact ⟨rfl, B13⟩
end Go.Proofs.YtckaniemilmphaaDoor
