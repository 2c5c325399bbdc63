/- SourceMore, walked. -/
import Derived.Test.YtgffeihfcmbobaaSrcShown
import Derived.Test.YtgffeihfcmbobaaMixT
import Derived.BigQuiet
import Derived.Deep.CutRange
namespace Go.Proofs.Ytgffeihfcmbobaa
open Go.RowKit
attribute [local go_sem] Ext.cell Ext.frozen

theorem more_may {l : List Ev} {init : List Int} {k : Nat} {y : Ev} (h : l[k]? = some y) (x : Ev) : mayZ (l ++ [x]) init (k : Int) = mayZ l init (k : Int) ++ (if (y.kd == 1) && isW y.lc y.vl x then [(l.length : Int)] else []) := by
  have hk : k < l.length := by
    rcases Nat.lt_or_ge k l.length with h1 | h1
    · exact h1
    · rw [List.getElem?_eq_none h1] at h; cases h
  rw [mayZ_at h, mayZ_at (x := y) (by rw [List.getElem?_append_left hk]; exact h)]
  by_cases hy : (y.kd == 1) = true
  · rw [if_pos hy, if_pos hy, mayE_more, hy, Bool.true_and]
  · rw [if_neg hy, if_neg hy]
    simp only [Bool.not_eq_true] at hy
    rw [hy]
    rfl

set_option maxRecDepth 20000 in
set_option maxHeartbeats 16000000 in
theorem SourceMore_true (q0_ q1_ : Option Addr) (c0_ c1_ : Nat) (xs0 : List Ev) (xs1 : List Int) (n2 n3 : Nat) (w : World) (hx0 : Sl EvE w (.slice q0_ xs0.length c0_) xs0) (hx1 : Sl IntE w (.slice q1_ xs1.length c1_) xs1) (hn2 : n2 < 256) (hn3 : n3 < 256) :
    Calls Try.prog 7 #[.slice q0_ xs0.length c0_, .slice q1_ xs1.length c1_, .int .u8 (n2 : Int), .int .u8 (n3 : Int)] w fun e w' => e = .returned (.bool true) ∧ Below w.heap.size w w' := by
  have HS : Hid (Calls _ _ _ _ _) := shown11_any w
  by_cases h20 : 20 < xs0.length
  · have d20 : decide ((20 : Int) < (xs0.length : Int)) = true := decide_eq_true (by omega)
    have e20 : decide (20 < xs0.length) = true := decide_eq_true h20
    go_enter Try.func7, Try.ntmps7
    go_wp2_with (go_at_call 9; refine HS.out.mono ?_; rintro e w1 ⟨rfl, hb1⟩)
    go_ret
    exact ⟨rfl, hb1⟩
  · have d20 : decide ((20 : Int) < (xs0.length : Int)) = false := decide_eq_false (by omega)
    have e20 : decide (20 < xs0.length) = false := decide_eq_false h20
    have hn : xs0.length ≤ 20 := by omega
    by_cases h0 : xs0.length = 0
    · have d0 : ((xs0.length : Int) == 0) = true := len_eq0 h0
      clear h0 h20
      go_enter Try.func7, Try.ntmps7
      go_wp2_with (go_at_call 9; refine HS.out.mono ?_; rintro e w1 ⟨rfl, hb1⟩)
      go_ret
      exact ⟨rfl, hb1⟩
    · have d0 : ((xs0.length : Int) == 0) = false := len_ne0 h0
      have hpos : 0 < xs0.length := by omega
      have hne0 : ¬ xs0 = [] := fun e => h0 (by rw [e]; rfl)
      clear h0 h20
      obtain ⟨k, hk0⟩ : ∃ k, n2 % xs0.length = k := ⟨_, rfl⟩
      have hk : k < xs0.length := by rw [← hk0]; exact Nat.mod_lt _ hpos
      have hmod : (n2 : Int) % (xs0.length : Int) = (k : Int) := by rw [← hk0]; simp
      have htm : (n2 : Int).tmod (xs0.length : Int) = (k : Int) := by rw [Int.tmod_eq_emod_of_nonneg (by omega)]; exact hmod
      obtain ⟨m, hm0⟩ : ∃ m, n3 % xs0.length = m := ⟨_, rfl⟩
      have hm : m < xs0.length := by rw [← hm0]; exact Nat.mod_lt _ hpos
      have hmod2 : (n3 : Int) % (xs0.length : Int) = (m : Int) := by rw [← hm0]; simp
      have htm2 : (n3 : Int).tmod (xs0.length : Int) = (m : Int) := by rw [Int.tmod_eq_emod_of_nonneg (by omega)]; exact hmod2
      clear hk0 hm0
      obtain ⟨eb, eo, rfl, g0, g1, g2, g3, g4, g5, g6⟩ := (ev_at hx0).2 k hk
      have hky := List.getElem?_eq_getElem hk
      generalize xs0[k] = y at *
      have hk' : (k : Int) < (xs0.length : Int) := by omega
      have hne : ∀ w, Nonempty (Ext w) := ext_some
      have hneA : Nonempty AnyW := anyW_some
      obtain ⟨x, hx⟩ : ∃ x : Ev, x = ⟨0, 2, y.lc, y.vl, false, false, false⟩ := ⟨_, rfl⟩
      go_enter Try.func7, Try.ntmps7
      go_wp2_with (go_at_call 9; refine HS.out.mono ?_; rintro e w1 ⟨rfl, hb1⟩; have l2 := cell_keep g2 hb1; have l3 := cell_keep g3 hb1; have ll := cell_lt l2)
      refine wp_region_mixL [([0, 1, 2, 3, 4, 5, 6, 7, 8, 9, 10], 11, false), ([], 12, true)] [] [12] (by kernel_rfl) (by kernel_rfl) (fun _ _ d _ _ h => by cases d <;> exact h) ?_
      dsimp only [List.map, mapL, opAt]
      refine wpMixL_stage ?_
      repeat (go_big_quiet_step (fail))
      refine wpQuiet_nil ?_
      go_wp2
      have bA : Below w1.heap.size w1 (w1.alloc (.cells #[.int .i64 0, .int .i64 0, .int .i64 0, .int .i64 0, .bool false, .bool false, .bool false] 49)).drew := ((Below.refl _ _).alloc (Nat.le_refl _) _).drew
      have kA : Blk (w1.alloc (.cells #[.int .i64 0, .int .i64 0, .int .i64 0, .int .i64 0, .bool false, .bool false, .bool false] 49)).drew w1.heap.size #[.int .i64 0, .int .i64 0, .int .i64 0, .int .i64 0, .bool false, .bool false, .bool false] 49 := Blk.drew Blk.new
      have HX : Hid _ := hx
      refine ⟨.inr bA, ?_⟩
      refine wpMixL_stage ?_
      refine wpQuiet_nil ?_
      go_wp2_with (refine wpList_storeB (by rfl) 49 (.tmp 12) (.tmp 50) (by rfl) w1.heap.size x.cells.toArray #[.int .i64 0, .int .i64 0, .int .i64 0, .int .i64 0, .bool false, .bool false, .bool false] 49 (by rfl) (by rw [HX.out]; rfl) kA (by kernel_rfl) (by rfl) (by simp [Value.oneCell', Ev.cells]) ?_; intro w2 k2 o2 z2; simp only [Act.put])
      refine ⟨.inl trivial, ?_⟩
      refine wpMixL_last ?_
      refine wpQuiet_nil ?_
      have b2 : Below w1.heap.size w1 w2 := bA.trans (o2.below bA.size (fun b hb => by rw [hb]; exact Nat.le_refl _))
      have B2 := Below.thru hb1 b2 (Nat.le_refl _)
      have HMD : Hid _ := fun (q : Option Addr) (n c : Nat) W => made11_any q n c W
      clear bA kA l2 l3 ll o2 z2 hx
      have F1 := trivial
      go_upto_region 8 with (first
        | (go_at_call 10; clear F1; refine (HMD.out _ _ _ w2).mono ?_; rintro e w3 ⟨rfl, hb3⟩; have B3 := Below.thru B2 hb3 (Nat.le_refl _); have F2 := trivial)
        | (clear F2; refine wpList_toldX (w := w3) (T := 30) (by kernel_rfl) (by rfl) (.tmp 13) (.tmp 52) (by rfl) #[.slice (some ⟨eb, eo, none⟩) xs0.length c0_, nilR 1, nilR 2, nilR 3, nilR 4, nilR 5, nilR 6] (by rfl) (by simp [Value.oneCell', nilR]) (by rfl) (by rfl) ?_; intro w4 k4 b4; simp only [Act.put]; have B4 := Below.thru B3 b4 (Nat.le_refl _); have b24 := Below.thru hb3 b4 (Nat.le_refl _); have kx4 := k2.keep b24; have F3 := trivial))
      clear k2 b2 B3 hb3 b4 b24
      obtain ⟨s0, s1, s2, s3, s4, s5, s6⟩ := ev_cells kx4
      have ls := kx4.lt
      have hx4 := hx0.keep B4
      obtain ⟨i0, zz0, j1, j2, j3, j4, j5⟩ := cl_get (show ((Try.prog.info? 49).map fun i => (i.zero.map (·.cells.size), i.size, i.bytes)) = some (some 7, 7, 40) by kernel_rfl)
      have J1 : Hid _ := j1
      have J2 : Hid _ := j2
      have J3 : Hid _ := j3
      have J4 : Hid _ := j4
      have J5 : Hid _ := j5
      clear j1 j2 j3 j4 j5
      go_cut [14] from 53 to 59 (fun v14 w9 => ∃ (g14 : Nat) (p6 : Option Addr) (c6 : Nat), v14 = .pointer (some ⟨g14, 0, none⟩) ∧ Blk w9 g14 #[.slice p6 (xs0.length + 1) c6, nilR 1, nilR 2, nilR 3, nilR 4, nilR 5, nilR 6] 30 ∧ Sl EvE w9 (.slice p6 (xs0.length + 1) c6) (xs0 ++ [x]) ∧ Below w4.heap.size w4 w9)
      case first =>
        refine wp_region_tree [] 9 (by kernel_rfl) (by rfl) ?_
        refine MT.seg0 (by kernel_rfl) (fun _ _ d _ _ h => by cases d <;> exact h) [1, 3] 7 (by kernel_rfl) ?_
        dsimp only [List.map, opAt]
        repeat (go_big_quiet_step (fail))
        refine wpQuiet_nil ?_
        refine MT.three 0 4 7 false false false (by kernel_rfl) ?_ ?_ ?_
        · dsimp only [opAt]
          go_wp2
          have b1 : Below w4.heap.size w4 (w4.alloc (.cells #[] 49)).drew := ((Below.refl _ _).alloc (Nat.le_refl _) _).drew
          have kn1 : Blk (w4.alloc (.cells #[] 49)).drew w4.heap.size #[] 49 := Blk.drew Blk.new
          have lo1 := (Below.refl w4.heap.size w4).size
          refine ⟨.inr b1, ?_⟩
          change MT _ _ _ _ _ _ _ _ _ (w4.alloc (.cells #[] 49)).drew
          generalize (w4.alloc (.cells #[] 49)).drew = W1 at *
          refine MT.three 2 4 7 false false false (by kernel_rfl) ?_ ?_ ?_
          · dsimp only [opAt]
            go_wp2_with (at_builtin; refine wpList_app (R := EvE) (A := F0) (B := fun _ => True) (xs := []) (ys := xs0) (by rfl) (.tmp 53) (.tmp 54) 22 49 i0 zz0 40 (by rfl) Try.underlying22 J1.out J2.out J4.out J5.out J3.out w4.heap.size (.slice (some ⟨w4.heap.size, 0, none⟩) 0 0) (.slice (some ⟨eb, eo, none⟩) xs0.length c0_) (by rfl) (by rfl) (own_new (by omega) kn1) (hx4.keep b1) (fun _ _ _ h => h) (by simp only [List.length_nil]; omega) (by decide) b1.size ?_; intro p2 c2 W2 hq2 hg2 hv2; simp only [List.nil_append] at hq2 ⊢)
            have b2 : Below w4.heap.size w4 W2 := b1.grown hg2 b1.size (fun b hb => by simp [Value.ownBlock] at hb; omega)
            refine ⟨.inr b2, ?_⟩
            refine MT.two 4 7 false false (by kernel_rfl) ?_ ?_
            · dsimp only [opAt]
              go_wp2
              have b3 : Below w4.heap.size w4 (W2.alloc (.cells #[.int .i64 x.th, .int .i64 x.kd, .int .i64 x.lc, .int .i64 x.vl, .bool x.aq, .bool x.rl, .bool x.ex] 49)) := b2.alloc b2.size _
              have kn3 : Blk (W2.alloc (.cells #[.int .i64 x.th, .int .i64 x.kd, .int .i64 x.lc, .int .i64 x.vl, .bool x.aq, .bool x.rl, .bool x.ex] 49)) W2.heap.size #[.int .i64 x.th, .int .i64 x.kd, .int .i64 x.lc, .int .i64 x.vl, .bool x.aq, .bool x.rl, .bool x.ex] 49 := Blk.new
              have hq3 := hq2.keep (below_new W2 (.cells #[.int .i64 x.th, .int .i64 x.kd, .int .i64 x.lc, .int .i64 x.vl, .bool x.aq, .bool x.rl, .bool x.ex] 49))
              have ohq3 := fun b hb => (hq2.lt b hb).2
              have lo3 := b2.size
              refine ⟨.inr b3, ?_⟩
              change MT _ _ _ _ _ _ _ _ _ (W2.alloc (.cells #[.int .i64 x.th, .int .i64 x.kd, .int .i64 x.lc, .int .i64 x.vl, .bool x.aq, .bool x.rl, .bool x.ex] 49))
              generalize (W2.alloc (.cells #[.int .i64 x.th, .int .i64 x.kd, .int .i64 x.lc, .int .i64 x.vl, .bool x.aq, .bool x.rl, .bool x.ex] 49)) = W3 at *
              generalize W2.heap.size = g3 at *
              refine MT.two 5 7 false false (by kernel_rfl) ?_ ?_
              · dsimp only [opAt]
                go_wp2_with (at_builtin; refine wpList_push (R := EvE) (xs := xs0) (x := x) (by rfl) (.tmp 55) (.tmp 57) 22 49 i0 zz0 40 (by rfl) Try.underlying22 J1.out J2.out J4.out J5.out J3.out w4.heap.size (.slice p2 xs0.length c2) g3 (by rfl) (by rfl) hq3 x.cells (fun _ _ => rfl) (fun _ _ _ _ _ h => h) (fun j u hj => (kn3.cell j).trans (by simpa [Ev.cells] using hj)) (by omega) (by decide) b3.size ?_; intro p4 c4 W4 hf4 hg4 hv4)
                have b4 : Below w4.heap.size w4 W4 := b3.grown hg4 b3.size (fun b hb => (hq3.lt b hb).1)
                refine ⟨.inr b4, ?_⟩
                refine MT.two 6 7 false false (by kernel_rfl) ?_ ?_
                · dsimp only [opAt]
                  go_wp2_with (go_at_call 10; refine (HMD.out p4 (xs0.length + 1) c4 W4).mono ?_; rintro e W5 ⟨rfl, hb5⟩)
                  have b5 := Below.thru b4 hb5 (Nat.le_refl _)
                  have hf5 := hf4.keep hb5
                  refine ⟨.inr b5, ?_⟩
                  refine MT.one 7 false (by kernel_rfl) ?_
                  dsimp only [opAt]
                  go_wp2
                  have b6 : Below w4.heap.size w4 (W5.alloc (.cells #[.slice none 0 0, .slice none 0 0, .slice none 0 0, .slice none 0 0, .slice none 0 0, .slice none 0 0, .slice none 0 0] 30)) := b5.alloc b5.size _
                  have kn6 : Blk (W5.alloc (.cells #[.slice none 0 0, .slice none 0 0, .slice none 0 0, .slice none 0 0, .slice none 0 0, .slice none 0 0, .slice none 0 0] 30)) W5.heap.size #[.slice none 0 0, .slice none 0 0, .slice none 0 0, .slice none 0 0, .slice none 0 0, .slice none 0 0, .slice none 0 0] 30 := Blk.new
                  have hf6 := hf5.keep (below_new W5 (.cells #[.slice none 0 0, .slice none 0 0, .slice none 0 0, .slice none 0 0, .slice none 0 0, .slice none 0 0, .slice none 0 0] 30))
                  have ohf6 := fun b hb => (hf5.lt b hb).2
                  have lo6 := b5.size
                  refine ⟨.inr b6, ?_⟩
                  change MT _ _ _ _ _ _ _ _ _ (W5.alloc (.cells #[.slice none 0 0, .slice none 0 0, .slice none 0 0, .slice none 0 0, .slice none 0 0, .slice none 0 0, .slice none 0 0] 30))
                  generalize (W5.alloc (.cells #[.slice none 0 0, .slice none 0 0, .slice none 0 0, .slice none 0 0, .slice none 0 0, .slice none 0 0, .slice none 0 0] 30)) = W6 at *
                  generalize W5.heap.size = g6 at *
                  have nfz6 : ∀ b, (Value.slice p4 (xs0.length + 1) c4).ownBlock = some b → b ≠ g6 := fun b hb e => by have := ohf6 b hb; omega
                  refine MT.one 8 false (by kernel_rfl) ?_
                  dsimp only [opAt]
                  have lz7 := lo6
                  go_wp2_with (refine wpList_storeB (by rfl) 30 (.tmp 14) (.tmp 59) (by rfl) g6 #[.slice p4 (xs0.length + 1) c4, nilR 1, nilR 2, nilR 3, nilR 4, nilR 5, nilR 6] #[.slice none 0 0, .slice none 0 0, .slice none 0 0, .slice none 0 0, .slice none 0 0, .slice none 0 0, .slice none 0 0] 30 (by rfl) (by rfl) kn6 (by kernel_rfl) (by rfl) (by simp [Value.oneCell', nilR]) ?_; intro W7 k87 o7 z7)
                  have b7 : Below w4.heap.size w4 W7 := b6.trans (o7.below b6.size (fun b hb => by rw [hb]; exact lz7))
                  have hf7 := hf6.only o7 (fun b hb => nfz6 b hb) (fun _ h => h.elim)
                  refine ⟨.inr b7, ?_⟩
                  refine MT.fin (by kernel_rfl) ?_
                  go_wp2
                  go_meet
                  case rel => exact ⟨_, _, _, rfl, k87, hf7.sl.any, b7⟩
                · dsimp only [opAt]
                  go_wp2
                  have b8 : Below w4.heap.size w4 (W4.alloc (.cells #[.slice none 0 0, .slice none 0 0, .slice none 0 0, .slice none 0 0, .slice none 0 0, .slice none 0 0, .slice none 0 0] 30)) := b4.alloc b4.size _
                  have kn8 : Blk (W4.alloc (.cells #[.slice none 0 0, .slice none 0 0, .slice none 0 0, .slice none 0 0, .slice none 0 0, .slice none 0 0, .slice none 0 0] 30)) W4.heap.size #[.slice none 0 0, .slice none 0 0, .slice none 0 0, .slice none 0 0, .slice none 0 0, .slice none 0 0, .slice none 0 0] 30 := Blk.new
                  have hf8 := hf4.keep (below_new W4 (.cells #[.slice none 0 0, .slice none 0 0, .slice none 0 0, .slice none 0 0, .slice none 0 0, .slice none 0 0, .slice none 0 0] 30))
                  have ohf8 := fun b hb => (hf4.lt b hb).2
                  have lo8 := b4.size
                  refine ⟨.inr b8, ?_⟩
                  change MT _ _ _ _ _ _ _ _ _ (W4.alloc (.cells #[.slice none 0 0, .slice none 0 0, .slice none 0 0, .slice none 0 0, .slice none 0 0, .slice none 0 0, .slice none 0 0] 30))
                  generalize (W4.alloc (.cells #[.slice none 0 0, .slice none 0 0, .slice none 0 0, .slice none 0 0, .slice none 0 0, .slice none 0 0, .slice none 0 0] 30)) = W8 at *
                  generalize W4.heap.size = g8 at *
                  have nfz8 : ∀ b, (Value.slice p4 (xs0.length + 1) c4).ownBlock = some b → b ≠ g8 := fun b hb e => by have := ohf8 b hb; omega
                  refine MT.one 6 false (by kernel_rfl) ?_
                  dsimp only [opAt]
                  go_wp2_with (go_at_call 10; refine (HMD.out p4 (xs0.length + 1) c4 W8).mono ?_; rintro e W9 ⟨rfl, hb9⟩)
                  have b9 := Below.thru b8 hb9 (Nat.le_refl _)
                  have kz9 := kn8.keep hb9
                  have hf9 := hf8.keep hb9
                  refine ⟨.inr b9, ?_⟩
                  refine MT.one 8 false (by kernel_rfl) ?_
                  dsimp only [opAt]
                  have lz10 := lo8
                  go_wp2_with (refine wpList_storeB (by rfl) 30 (.tmp 14) (.tmp 59) (by rfl) g8 #[.slice p4 (xs0.length + 1) c4, nilR 1, nilR 2, nilR 3, nilR 4, nilR 5, nilR 6] #[.slice none 0 0, .slice none 0 0, .slice none 0 0, .slice none 0 0, .slice none 0 0, .slice none 0 0, .slice none 0 0] 30 (by rfl) (by rfl) kz9 (by kernel_rfl) (by rfl) (by simp [Value.oneCell', nilR]) ?_; intro W10 k810 o10 z10)
                  have b10 : Below w4.heap.size w4 W10 := b9.trans (o10.below b9.size (fun b hb => by rw [hb]; exact lz10))
                  have hf10 := hf9.only o10 (fun b hb => nfz8 b hb) (fun _ h => h.elim)
                  refine ⟨.inr b10, ?_⟩
                  refine MT.fin (by kernel_rfl) ?_
                  go_wp2
                  go_meet
                  case rel => exact ⟨_, _, _, rfl, k810, hf10.sl.any, b10⟩
              · dsimp only [opAt]
                go_wp2
                have b11 : Below w4.heap.size w4 (W3.alloc (.cells #[.slice none 0 0, .slice none 0 0, .slice none 0 0, .slice none 0 0, .slice none 0 0, .slice none 0 0, .slice none 0 0] 30)) := b3.alloc b3.size _
                have kn11 : Blk (W3.alloc (.cells #[.slice none 0 0, .slice none 0 0, .slice none 0 0, .slice none 0 0, .slice none 0 0, .slice none 0 0, .slice none 0 0] 30)) W3.heap.size #[.slice none 0 0, .slice none 0 0, .slice none 0 0, .slice none 0 0, .slice none 0 0, .slice none 0 0, .slice none 0 0] 30 := Blk.new
                have kx11 := kn3.keep (below_new W3 (.cells #[.slice none 0 0, .slice none 0 0, .slice none 0 0, .slice none 0 0, .slice none 0 0, .slice none 0 0, .slice none 0 0] 30))
                have hq11 := hq3.keep (below_new W3 (.cells #[.slice none 0 0, .slice none 0 0, .slice none 0 0, .slice none 0 0, .slice none 0 0, .slice none 0 0, .slice none 0 0] 30))
                have nkx11 := kn3.lt
                have ohq11 := fun b hb => (hq3.lt b hb).2
                have lo11 := b3.size
                refine ⟨.inr b11, ?_⟩
                change MT _ _ _ _ _ _ _ _ _ (W3.alloc (.cells #[.slice none 0 0, .slice none 0 0, .slice none 0 0, .slice none 0 0, .slice none 0 0, .slice none 0 0, .slice none 0 0] 30))
                generalize (W3.alloc (.cells #[.slice none 0 0, .slice none 0 0, .slice none 0 0, .slice none 0 0, .slice none 0 0, .slice none 0 0, .slice none 0 0] 30)) = W11 at *
                generalize W3.heap.size = g11 at *
                have nqkz11 : ∀ b, (Value.slice p2 xs0.length c2).ownBlock = some b → b ≠ g11 := fun b hb e => by have := ohq11 b hb; omega
                refine MT.one 5 false (by kernel_rfl) ?_
                dsimp only [opAt]
                go_wp2_with (at_builtin; refine wpList_push (R := EvE) (xs := xs0) (x := x) (by rfl) (.tmp 55) (.tmp 57) 22 49 i0 zz0 40 (by rfl) Try.underlying22 J1.out J2.out J4.out J5.out J3.out w4.heap.size (.slice p2 xs0.length c2) g3 (by rfl) (by rfl) hq11 x.cells (fun _ _ => rfl) (fun _ _ _ _ _ h => h) (fun j u hj => (kx11.cell j).trans (by simpa [Ev.cells] using hj)) (by omega) (by decide) b11.size ?_; intro p12 c12 W12 hf12 hg12 hv12)
                have b12 : Below w4.heap.size w4 W12 := b11.grown hg12 b11.size (fun b hb => (hq11.lt b hb).1)
                have kz12 := kn11.grown hg12 (fun e => nqkz11 _ e.symm rfl)
                have nfz12 : ∀ b, (Value.slice p12 (xs0.length + 1) c12).ownBlock = some b → b ≠ g11 := fun b hb e => by
                  have l := kn11.lt
                  rcases hv12 with h | h
                  · rw [h] at hb; exact nqkz11 b hb e
                  · rw [h] at hb; injection hb with hb; omega
                refine ⟨.inr b12, ?_⟩
                refine MT.one 6 false (by kernel_rfl) ?_
                dsimp only [opAt]
                go_wp2_with (go_at_call 10; refine (HMD.out p12 (xs0.length + 1) c12 W12).mono ?_; rintro e W13 ⟨rfl, hb13⟩)
                have b13 := Below.thru b12 hb13 (Nat.le_refl _)
                have kz13 := kz12.keep hb13
                have hf13 := hf12.keep hb13
                refine ⟨.inr b13, ?_⟩
                refine MT.one 8 false (by kernel_rfl) ?_
                dsimp only [opAt]
                have lz14 := lo11
                go_wp2_with (refine wpList_storeB (by rfl) 30 (.tmp 14) (.tmp 59) (by rfl) g11 #[.slice p12 (xs0.length + 1) c12, nilR 1, nilR 2, nilR 3, nilR 4, nilR 5, nilR 6] #[.slice none 0 0, .slice none 0 0, .slice none 0 0, .slice none 0 0, .slice none 0 0, .slice none 0 0, .slice none 0 0] 30 (by rfl) (by rfl) kz13 (by kernel_rfl) (by rfl) (by simp [Value.oneCell', nilR]) ?_; intro W14 k814 o14 z14)
                have b14 : Below w4.heap.size w4 W14 := b13.trans (o14.below b13.size (fun b hb => by rw [hb]; exact lz14))
                have hf14 := hf13.only o14 (fun b hb => nfz12 b hb) (fun _ h => h.elim)
                refine ⟨.inr b14, ?_⟩
                refine MT.fin (by kernel_rfl) ?_
                go_wp2
                go_meet
                case rel => exact ⟨_, _, _, rfl, k814, hf14.sl.any, b14⟩
            · dsimp only [opAt]
              go_wp2
              have b15 : Below w4.heap.size w4 (W2.alloc (.cells #[.slice none 0 0, .slice none 0 0, .slice none 0 0, .slice none 0 0, .slice none 0 0, .slice none 0 0, .slice none 0 0] 30)) := b2.alloc b2.size _
              have kn15 : Blk (W2.alloc (.cells #[.slice none 0 0, .slice none 0 0, .slice none 0 0, .slice none 0 0, .slice none 0 0, .slice none 0 0, .slice none 0 0] 30)) W2.heap.size #[.slice none 0 0, .slice none 0 0, .slice none 0 0, .slice none 0 0, .slice none 0 0, .slice none 0 0, .slice none 0 0] 30 := Blk.new
              have hq15 := hq2.keep (below_new W2 (.cells #[.slice none 0 0, .slice none 0 0, .slice none 0 0, .slice none 0 0, .slice none 0 0, .slice none 0 0, .slice none 0 0] 30))
              have ohq15 := fun b hb => (hq2.lt b hb).2
              have lo15 := b2.size
              refine ⟨.inr b15, ?_⟩
              change MT _ _ _ _ _ _ _ _ _ (W2.alloc (.cells #[.slice none 0 0, .slice none 0 0, .slice none 0 0, .slice none 0 0, .slice none 0 0, .slice none 0 0, .slice none 0 0] 30))
              generalize (W2.alloc (.cells #[.slice none 0 0, .slice none 0 0, .slice none 0 0, .slice none 0 0, .slice none 0 0, .slice none 0 0, .slice none 0 0] 30)) = W15 at *
              generalize W2.heap.size = g15 at *
              have nqkz15 : ∀ b, (Value.slice p2 xs0.length c2).ownBlock = some b → b ≠ g15 := fun b hb e => by have := ohq15 b hb; omega
              refine MT.one 4 false (by kernel_rfl) ?_
              dsimp only [opAt]
              go_wp2
              have b16 : Below w4.heap.size w4 (W15.alloc (.cells #[.int .i64 x.th, .int .i64 x.kd, .int .i64 x.lc, .int .i64 x.vl, .bool x.aq, .bool x.rl, .bool x.ex] 49)) := b15.alloc b15.size _
              have kn16 : Blk (W15.alloc (.cells #[.int .i64 x.th, .int .i64 x.kd, .int .i64 x.lc, .int .i64 x.vl, .bool x.aq, .bool x.rl, .bool x.ex] 49)) W15.heap.size #[.int .i64 x.th, .int .i64 x.kd, .int .i64 x.lc, .int .i64 x.vl, .bool x.aq, .bool x.rl, .bool x.ex] 49 := Blk.new
              have kz16 := kn15.keep (below_new W15 (.cells #[.int .i64 x.th, .int .i64 x.kd, .int .i64 x.lc, .int .i64 x.vl, .bool x.aq, .bool x.rl, .bool x.ex] 49))
              have hq16 := hq15.keep (below_new W15 (.cells #[.int .i64 x.th, .int .i64 x.kd, .int .i64 x.lc, .int .i64 x.vl, .bool x.aq, .bool x.rl, .bool x.ex] 49))
              have nkz16 := kn15.lt
              have ohq16 := fun b hb => (hq15.lt b hb).2
              have lo16 := b15.size
              refine ⟨.inr b16, ?_⟩
              change MT _ _ _ _ _ _ _ _ _ (W15.alloc (.cells #[.int .i64 x.th, .int .i64 x.kd, .int .i64 x.lc, .int .i64 x.vl, .bool x.aq, .bool x.rl, .bool x.ex] 49))
              generalize (W15.alloc (.cells #[.int .i64 x.th, .int .i64 x.kd, .int .i64 x.lc, .int .i64 x.vl, .bool x.aq, .bool x.rl, .bool x.ex] 49)) = W16 at *
              generalize W15.heap.size = g16 at *
              refine MT.one 5 false (by kernel_rfl) ?_
              dsimp only [opAt]
              go_wp2_with (at_builtin; refine wpList_push (R := EvE) (xs := xs0) (x := x) (by rfl) (.tmp 55) (.tmp 57) 22 49 i0 zz0 40 (by rfl) Try.underlying22 J1.out J2.out J4.out J5.out J3.out w4.heap.size (.slice p2 xs0.length c2) g16 (by rfl) (by rfl) hq16 x.cells (fun _ _ => rfl) (fun _ _ _ _ _ h => h) (fun j u hj => (kn16.cell j).trans (by simpa [Ev.cells] using hj)) (by omega) (by decide) b16.size ?_; intro p17 c17 W17 hf17 hg17 hv17)
              have b17 : Below w4.heap.size w4 W17 := b16.grown hg17 b16.size (fun b hb => (hq16.lt b hb).1)
              have kz17 := kz16.grown hg17 (fun e => nqkz15 _ e.symm rfl)
              have nfz17 : ∀ b, (Value.slice p17 (xs0.length + 1) c17).ownBlock = some b → b ≠ g15 := fun b hb e => by
                have l := kz16.lt
                rcases hv17 with h | h
                · rw [h] at hb; exact nqkz15 b hb e
                · rw [h] at hb; injection hb with hb; omega
              refine ⟨.inr b17, ?_⟩
              refine MT.one 6 false (by kernel_rfl) ?_
              dsimp only [opAt]
              go_wp2_with (go_at_call 10; refine (HMD.out p17 (xs0.length + 1) c17 W17).mono ?_; rintro e W18 ⟨rfl, hb18⟩)
              have b18 := Below.thru b17 hb18 (Nat.le_refl _)
              have kz18 := kz17.keep hb18
              have hf18 := hf17.keep hb18
              refine ⟨.inr b18, ?_⟩
              refine MT.one 8 false (by kernel_rfl) ?_
              dsimp only [opAt]
              have lz19 := lo15
              go_wp2_with (refine wpList_storeB (by rfl) 30 (.tmp 14) (.tmp 59) (by rfl) g15 #[.slice p17 (xs0.length + 1) c17, nilR 1, nilR 2, nilR 3, nilR 4, nilR 5, nilR 6] #[.slice none 0 0, .slice none 0 0, .slice none 0 0, .slice none 0 0, .slice none 0 0, .slice none 0 0, .slice none 0 0] 30 (by rfl) (by rfl) kz18 (by kernel_rfl) (by rfl) (by simp [Value.oneCell', nilR]) ?_; intro W19 k819 o19 z19)
              have b19 : Below w4.heap.size w4 W19 := b18.trans (o19.below b18.size (fun b hb => by rw [hb]; exact lz19))
              have hf19 := hf18.only o19 (fun b hb => nfz17 b hb) (fun _ h => h.elim)
              refine ⟨.inr b19, ?_⟩
              refine MT.fin (by kernel_rfl) ?_
              go_wp2
              go_meet
              case rel => exact ⟨_, _, _, rfl, k819, hf19.sl.any, b19⟩
          · dsimp only [opAt]
            go_wp2
            have b20 : Below w4.heap.size w4 (W1.alloc (.cells #[.int .i64 x.th, .int .i64 x.kd, .int .i64 x.lc, .int .i64 x.vl, .bool x.aq, .bool x.rl, .bool x.ex] 49)) := b1.alloc b1.size _
            have kn20 : Blk (W1.alloc (.cells #[.int .i64 x.th, .int .i64 x.kd, .int .i64 x.lc, .int .i64 x.vl, .bool x.aq, .bool x.rl, .bool x.ex] 49)) W1.heap.size #[.int .i64 x.th, .int .i64 x.kd, .int .i64 x.lc, .int .i64 x.vl, .bool x.aq, .bool x.rl, .bool x.ex] 49 := Blk.new
            have ke20 := kn1.keep (below_new W1 (.cells #[.int .i64 x.th, .int .i64 x.kd, .int .i64 x.lc, .int .i64 x.vl, .bool x.aq, .bool x.rl, .bool x.ex] 49))
            have nke20 := kn1.lt
            have lo20 := b1.size
            refine ⟨.inr b20, ?_⟩
            change MT _ _ _ _ _ _ _ _ _ (W1.alloc (.cells #[.int .i64 x.th, .int .i64 x.kd, .int .i64 x.lc, .int .i64 x.vl, .bool x.aq, .bool x.rl, .bool x.ex] 49))
            generalize (W1.alloc (.cells #[.int .i64 x.th, .int .i64 x.kd, .int .i64 x.lc, .int .i64 x.vl, .bool x.aq, .bool x.rl, .bool x.ex] 49)) = W20 at *
            generalize W1.heap.size = g20 at *
            refine MT.two 2 7 false false (by kernel_rfl) ?_ ?_
            · dsimp only [opAt]
              go_wp2_with (at_builtin; refine wpList_app (R := EvE) (A := F0) (B := fun _ => True) (xs := []) (ys := xs0) (by rfl) (.tmp 53) (.tmp 54) 22 49 i0 zz0 40 (by rfl) Try.underlying22 J1.out J2.out J4.out J5.out J3.out w4.heap.size (.slice (some ⟨w4.heap.size, 0, none⟩) 0 0) (.slice (some ⟨eb, eo, none⟩) xs0.length c0_) (by rfl) (by rfl) (own_new (by omega) ke20) (hx4.keep b20) (fun _ _ _ h => h) (by simp only [List.length_nil]; omega) (by decide) b20.size ?_; intro p21 c21 W21 hq21 hg21 hv21; simp only [List.nil_append] at hq21 ⊢)
              have b21 : Below w4.heap.size w4 W21 := b20.grown hg21 b20.size (fun b hb => by simp [Value.ownBlock] at hb; omega)
              have kx21 := kn20.grown hg21 (by simp [Value.ownBlock]; omega)
              have nqkx21 : ∀ b, (Value.slice p21 xs0.length c21).ownBlock = some b → b ≠ g20 := fun b hb e => by
                have l := kn20.lt
                simp only [List.nil_append] at hv21
                rcases hv21 with h | h <;> rw [h] at hb <;> simp [Value.ownBlock] at hb <;> omega
              refine ⟨.inr b21, ?_⟩
              refine MT.two 5 7 false false (by kernel_rfl) ?_ ?_
              · dsimp only [opAt]
                go_wp2_with (at_builtin; refine wpList_push (R := EvE) (xs := xs0) (x := x) (by rfl) (.tmp 55) (.tmp 57) 22 49 i0 zz0 40 (by rfl) Try.underlying22 J1.out J2.out J4.out J5.out J3.out w4.heap.size (.slice p21 xs0.length c21) g20 (by rfl) (by rfl) hq21 x.cells (fun _ _ => rfl) (fun _ _ _ _ _ h => h) (fun j u hj => (kx21.cell j).trans (by simpa [Ev.cells] using hj)) (by omega) (by decide) b21.size ?_; intro p22 c22 W22 hf22 hg22 hv22)
                have b22 : Below w4.heap.size w4 W22 := b21.grown hg22 b21.size (fun b hb => (hq21.lt b hb).1)
                refine ⟨.inr b22, ?_⟩
                refine MT.two 6 7 false false (by kernel_rfl) ?_ ?_
                · dsimp only [opAt]
                  go_wp2_with (go_at_call 10; refine (HMD.out p22 (xs0.length + 1) c22 W22).mono ?_; rintro e W23 ⟨rfl, hb23⟩)
                  have b23 := Below.thru b22 hb23 (Nat.le_refl _)
                  have hf23 := hf22.keep hb23
                  refine ⟨.inr b23, ?_⟩
                  refine MT.one 7 false (by kernel_rfl) ?_
                  dsimp only [opAt]
                  go_wp2
                  have b24 : Below w4.heap.size w4 (W23.alloc (.cells #[.slice none 0 0, .slice none 0 0, .slice none 0 0, .slice none 0 0, .slice none 0 0, .slice none 0 0, .slice none 0 0] 30)) := b23.alloc b23.size _
                  have kn24 : Blk (W23.alloc (.cells #[.slice none 0 0, .slice none 0 0, .slice none 0 0, .slice none 0 0, .slice none 0 0, .slice none 0 0, .slice none 0 0] 30)) W23.heap.size #[.slice none 0 0, .slice none 0 0, .slice none 0 0, .slice none 0 0, .slice none 0 0, .slice none 0 0, .slice none 0 0] 30 := Blk.new
                  have hf24 := hf23.keep (below_new W23 (.cells #[.slice none 0 0, .slice none 0 0, .slice none 0 0, .slice none 0 0, .slice none 0 0, .slice none 0 0, .slice none 0 0] 30))
                  have ohf24 := fun b hb => (hf23.lt b hb).2
                  have lo24 := b23.size
                  refine ⟨.inr b24, ?_⟩
                  change MT _ _ _ _ _ _ _ _ _ (W23.alloc (.cells #[.slice none 0 0, .slice none 0 0, .slice none 0 0, .slice none 0 0, .slice none 0 0, .slice none 0 0, .slice none 0 0] 30))
                  generalize (W23.alloc (.cells #[.slice none 0 0, .slice none 0 0, .slice none 0 0, .slice none 0 0, .slice none 0 0, .slice none 0 0, .slice none 0 0] 30)) = W24 at *
                  generalize W23.heap.size = g24 at *
                  have nfz24 : ∀ b, (Value.slice p22 (xs0.length + 1) c22).ownBlock = some b → b ≠ g24 := fun b hb e => by have := ohf24 b hb; omega
                  refine MT.one 8 false (by kernel_rfl) ?_
                  dsimp only [opAt]
                  have lz25 := lo24
                  go_wp2_with (refine wpList_storeB (by rfl) 30 (.tmp 14) (.tmp 59) (by rfl) g24 #[.slice p22 (xs0.length + 1) c22, nilR 1, nilR 2, nilR 3, nilR 4, nilR 5, nilR 6] #[.slice none 0 0, .slice none 0 0, .slice none 0 0, .slice none 0 0, .slice none 0 0, .slice none 0 0, .slice none 0 0] 30 (by rfl) (by rfl) kn24 (by kernel_rfl) (by rfl) (by simp [Value.oneCell', nilR]) ?_; intro W25 k825 o25 z25)
                  have b25 : Below w4.heap.size w4 W25 := b24.trans (o25.below b24.size (fun b hb => by rw [hb]; exact lz25))
                  have hf25 := hf24.only o25 (fun b hb => nfz24 b hb) (fun _ h => h.elim)
                  refine ⟨.inr b25, ?_⟩
                  refine MT.fin (by kernel_rfl) ?_
                  go_wp2
                  go_meet
                  case rel => exact ⟨_, _, _, rfl, k825, hf25.sl.any, b25⟩
                · dsimp only [opAt]
                  go_wp2
                  have b26 : Below w4.heap.size w4 (W22.alloc (.cells #[.slice none 0 0, .slice none 0 0, .slice none 0 0, .slice none 0 0, .slice none 0 0, .slice none 0 0, .slice none 0 0] 30)) := b22.alloc b22.size _
                  have kn26 : Blk (W22.alloc (.cells #[.slice none 0 0, .slice none 0 0, .slice none 0 0, .slice none 0 0, .slice none 0 0, .slice none 0 0, .slice none 0 0] 30)) W22.heap.size #[.slice none 0 0, .slice none 0 0, .slice none 0 0, .slice none 0 0, .slice none 0 0, .slice none 0 0, .slice none 0 0] 30 := Blk.new
                  have hf26 := hf22.keep (below_new W22 (.cells #[.slice none 0 0, .slice none 0 0, .slice none 0 0, .slice none 0 0, .slice none 0 0, .slice none 0 0, .slice none 0 0] 30))
                  have ohf26 := fun b hb => (hf22.lt b hb).2
                  have lo26 := b22.size
                  refine ⟨.inr b26, ?_⟩
                  change MT _ _ _ _ _ _ _ _ _ (W22.alloc (.cells #[.slice none 0 0, .slice none 0 0, .slice none 0 0, .slice none 0 0, .slice none 0 0, .slice none 0 0, .slice none 0 0] 30))
                  generalize (W22.alloc (.cells #[.slice none 0 0, .slice none 0 0, .slice none 0 0, .slice none 0 0, .slice none 0 0, .slice none 0 0, .slice none 0 0] 30)) = W26 at *
                  generalize W22.heap.size = g26 at *
                  have nfz26 : ∀ b, (Value.slice p22 (xs0.length + 1) c22).ownBlock = some b → b ≠ g26 := fun b hb e => by have := ohf26 b hb; omega
                  refine MT.one 6 false (by kernel_rfl) ?_
                  dsimp only [opAt]
                  go_wp2_with (go_at_call 10; refine (HMD.out p22 (xs0.length + 1) c22 W26).mono ?_; rintro e W27 ⟨rfl, hb27⟩)
                  have b27 := Below.thru b26 hb27 (Nat.le_refl _)
                  have kz27 := kn26.keep hb27
                  have hf27 := hf26.keep hb27
                  refine ⟨.inr b27, ?_⟩
                  refine MT.one 8 false (by kernel_rfl) ?_
                  dsimp only [opAt]
                  have lz28 := lo26
                  go_wp2_with (refine wpList_storeB (by rfl) 30 (.tmp 14) (.tmp 59) (by rfl) g26 #[.slice p22 (xs0.length + 1) c22, nilR 1, nilR 2, nilR 3, nilR 4, nilR 5, nilR 6] #[.slice none 0 0, .slice none 0 0, .slice none 0 0, .slice none 0 0, .slice none 0 0, .slice none 0 0, .slice none 0 0] 30 (by rfl) (by rfl) kz27 (by kernel_rfl) (by rfl) (by simp [Value.oneCell', nilR]) ?_; intro W28 k828 o28 z28)
                  have b28 : Below w4.heap.size w4 W28 := b27.trans (o28.below b27.size (fun b hb => by rw [hb]; exact lz28))
                  have hf28 := hf27.only o28 (fun b hb => nfz26 b hb) (fun _ h => h.elim)
                  refine ⟨.inr b28, ?_⟩
                  refine MT.fin (by kernel_rfl) ?_
                  go_wp2
                  go_meet
                  case rel => exact ⟨_, _, _, rfl, k828, hf28.sl.any, b28⟩
              · dsimp only [opAt]
                go_wp2
                have b29 : Below w4.heap.size w4 (W21.alloc (.cells #[.slice none 0 0, .slice none 0 0, .slice none 0 0, .slice none 0 0, .slice none 0 0, .slice none 0 0, .slice none 0 0] 30)) := b21.alloc b21.size _
                have kn29 : Blk (W21.alloc (.cells #[.slice none 0 0, .slice none 0 0, .slice none 0 0, .slice none 0 0, .slice none 0 0, .slice none 0 0, .slice none 0 0] 30)) W21.heap.size #[.slice none 0 0, .slice none 0 0, .slice none 0 0, .slice none 0 0, .slice none 0 0, .slice none 0 0, .slice none 0 0] 30 := Blk.new
                have kx29 := kx21.keep (below_new W21 (.cells #[.slice none 0 0, .slice none 0 0, .slice none 0 0, .slice none 0 0, .slice none 0 0, .slice none 0 0, .slice none 0 0] 30))
                have hq29 := hq21.keep (below_new W21 (.cells #[.slice none 0 0, .slice none 0 0, .slice none 0 0, .slice none 0 0, .slice none 0 0, .slice none 0 0, .slice none 0 0] 30))
                have nkx29 := kx21.lt
                have ohq29 := fun b hb => (hq21.lt b hb).2
                have lo29 := b21.size
                refine ⟨.inr b29, ?_⟩
                change MT _ _ _ _ _ _ _ _ _ (W21.alloc (.cells #[.slice none 0 0, .slice none 0 0, .slice none 0 0, .slice none 0 0, .slice none 0 0, .slice none 0 0, .slice none 0 0] 30))
                generalize (W21.alloc (.cells #[.slice none 0 0, .slice none 0 0, .slice none 0 0, .slice none 0 0, .slice none 0 0, .slice none 0 0, .slice none 0 0] 30)) = W29 at *
                generalize W21.heap.size = g29 at *
                have nqkz29 : ∀ b, (Value.slice p21 xs0.length c21).ownBlock = some b → b ≠ g29 := fun b hb e => by have := ohq29 b hb; omega
                refine MT.one 5 false (by kernel_rfl) ?_
                dsimp only [opAt]
                go_wp2_with (at_builtin; refine wpList_push (R := EvE) (xs := xs0) (x := x) (by rfl) (.tmp 55) (.tmp 57) 22 49 i0 zz0 40 (by rfl) Try.underlying22 J1.out J2.out J4.out J5.out J3.out w4.heap.size (.slice p21 xs0.length c21) g20 (by rfl) (by rfl) hq29 x.cells (fun _ _ => rfl) (fun _ _ _ _ _ h => h) (fun j u hj => (kx29.cell j).trans (by simpa [Ev.cells] using hj)) (by omega) (by decide) b29.size ?_; intro p30 c30 W30 hf30 hg30 hv30)
                have b30 : Below w4.heap.size w4 W30 := b29.grown hg30 b29.size (fun b hb => (hq29.lt b hb).1)
                have kz30 := kn29.grown hg30 (fun e => nqkz29 _ e.symm rfl)
                have nfz30 : ∀ b, (Value.slice p30 (xs0.length + 1) c30).ownBlock = some b → b ≠ g29 := fun b hb e => by
                  have l := kn29.lt
                  rcases hv30 with h | h
                  · rw [h] at hb; exact nqkz29 b hb e
                  · rw [h] at hb; injection hb with hb; omega
                refine ⟨.inr b30, ?_⟩
                refine MT.one 6 false (by kernel_rfl) ?_
                dsimp only [opAt]
                go_wp2_with (go_at_call 10; refine (HMD.out p30 (xs0.length + 1) c30 W30).mono ?_; rintro e W31 ⟨rfl, hb31⟩)
                have b31 := Below.thru b30 hb31 (Nat.le_refl _)
                have kz31 := kz30.keep hb31
                have hf31 := hf30.keep hb31
                refine ⟨.inr b31, ?_⟩
                refine MT.one 8 false (by kernel_rfl) ?_
                dsimp only [opAt]
                have lz32 := lo29
                go_wp2_with (refine wpList_storeB (by rfl) 30 (.tmp 14) (.tmp 59) (by rfl) g29 #[.slice p30 (xs0.length + 1) c30, nilR 1, nilR 2, nilR 3, nilR 4, nilR 5, nilR 6] #[.slice none 0 0, .slice none 0 0, .slice none 0 0, .slice none 0 0, .slice none 0 0, .slice none 0 0, .slice none 0 0] 30 (by rfl) (by rfl) kz31 (by kernel_rfl) (by rfl) (by simp [Value.oneCell', nilR]) ?_; intro W32 k832 o32 z32)
                have b32 : Below w4.heap.size w4 W32 := b31.trans (o32.below b31.size (fun b hb => by rw [hb]; exact lz32))
                have hf32 := hf31.only o32 (fun b hb => nfz30 b hb) (fun _ h => h.elim)
                refine ⟨.inr b32, ?_⟩
                refine MT.fin (by kernel_rfl) ?_
                go_wp2
                go_meet
                case rel => exact ⟨_, _, _, rfl, k832, hf32.sl.any, b32⟩
            · dsimp only [opAt]
              go_wp2
              have b33 : Below w4.heap.size w4 (W20.alloc (.cells #[.slice none 0 0, .slice none 0 0, .slice none 0 0, .slice none 0 0, .slice none 0 0, .slice none 0 0, .slice none 0 0] 30)) := b20.alloc b20.size _
              have kn33 : Blk (W20.alloc (.cells #[.slice none 0 0, .slice none 0 0, .slice none 0 0, .slice none 0 0, .slice none 0 0, .slice none 0 0, .slice none 0 0] 30)) W20.heap.size #[.slice none 0 0, .slice none 0 0, .slice none 0 0, .slice none 0 0, .slice none 0 0, .slice none 0 0, .slice none 0 0] 30 := Blk.new
              have ke33 := ke20.keep (below_new W20 (.cells #[.slice none 0 0, .slice none 0 0, .slice none 0 0, .slice none 0 0, .slice none 0 0, .slice none 0 0, .slice none 0 0] 30))
              have kx33 := kn20.keep (below_new W20 (.cells #[.slice none 0 0, .slice none 0 0, .slice none 0 0, .slice none 0 0, .slice none 0 0, .slice none 0 0, .slice none 0 0] 30))
              have nke33 := ke20.lt
              have nkx33 := kn20.lt
              have lo33 := b20.size
              refine ⟨.inr b33, ?_⟩
              change MT _ _ _ _ _ _ _ _ _ (W20.alloc (.cells #[.slice none 0 0, .slice none 0 0, .slice none 0 0, .slice none 0 0, .slice none 0 0, .slice none 0 0, .slice none 0 0] 30))
              generalize (W20.alloc (.cells #[.slice none 0 0, .slice none 0 0, .slice none 0 0, .slice none 0 0, .slice none 0 0, .slice none 0 0, .slice none 0 0] 30)) = W33 at *
              generalize W20.heap.size = g33 at *
              refine MT.one 2 false (by kernel_rfl) ?_
              dsimp only [opAt]
              go_wp2_with (at_builtin; refine wpList_app (R := EvE) (A := F0) (B := fun _ => True) (xs := []) (ys := xs0) (by rfl) (.tmp 53) (.tmp 54) 22 49 i0 zz0 40 (by rfl) Try.underlying22 J1.out J2.out J4.out J5.out J3.out w4.heap.size (.slice (some ⟨w4.heap.size, 0, none⟩) 0 0) (.slice (some ⟨eb, eo, none⟩) xs0.length c0_) (by rfl) (by rfl) (own_new (by omega) ke33) (hx4.keep b33) (fun _ _ _ h => h) (by simp only [List.length_nil]; omega) (by decide) b33.size ?_; intro p34 c34 W34 hq34 hg34 hv34; simp only [List.nil_append] at hq34 ⊢)
              have b34 : Below w4.heap.size w4 W34 := b33.grown hg34 b33.size (fun b hb => by simp [Value.ownBlock] at hb; omega)
              have kx34 := kx33.grown hg34 (by simp [Value.ownBlock]; omega)
              have nqkx34 : ∀ b, (Value.slice p34 xs0.length c34).ownBlock = some b → b ≠ g20 := fun b hb e => by
                have l := kx33.lt
                simp only [List.nil_append] at hv34
                rcases hv34 with h | h <;> rw [h] at hb <;> simp [Value.ownBlock] at hb <;> omega
              have kz34 := kn33.grown hg34 (by simp [Value.ownBlock]; omega)
              have nqkz34 : ∀ b, (Value.slice p34 xs0.length c34).ownBlock = some b → b ≠ g33 := fun b hb e => by
                have l := kn33.lt
                simp only [List.nil_append] at hv34
                rcases hv34 with h | h <;> rw [h] at hb <;> simp [Value.ownBlock] at hb <;> omega
              refine ⟨.inr b34, ?_⟩
              refine MT.one 5 false (by kernel_rfl) ?_
              dsimp only [opAt]
              go_wp2_with (at_builtin; refine wpList_push (R := EvE) (xs := xs0) (x := x) (by rfl) (.tmp 55) (.tmp 57) 22 49 i0 zz0 40 (by rfl) Try.underlying22 J1.out J2.out J4.out J5.out J3.out w4.heap.size (.slice p34 xs0.length c34) g20 (by rfl) (by rfl) hq34 x.cells (fun _ _ => rfl) (fun _ _ _ _ _ h => h) (fun j u hj => (kx34.cell j).trans (by simpa [Ev.cells] using hj)) (by omega) (by decide) b34.size ?_; intro p35 c35 W35 hf35 hg35 hv35)
              have b35 : Below w4.heap.size w4 W35 := b34.grown hg35 b34.size (fun b hb => (hq34.lt b hb).1)
              have kz35 := kz34.grown hg35 (fun e => nqkz34 _ e.symm rfl)
              have nfz35 : ∀ b, (Value.slice p35 (xs0.length + 1) c35).ownBlock = some b → b ≠ g33 := fun b hb e => by
                have l := kz34.lt
                rcases hv35 with h | h
                · rw [h] at hb; exact nqkz34 b hb e
                · rw [h] at hb; injection hb with hb; omega
              refine ⟨.inr b35, ?_⟩
              refine MT.one 6 false (by kernel_rfl) ?_
              dsimp only [opAt]
              go_wp2_with (go_at_call 10; refine (HMD.out p35 (xs0.length + 1) c35 W35).mono ?_; rintro e W36 ⟨rfl, hb36⟩)
              have b36 := Below.thru b35 hb36 (Nat.le_refl _)
              have kz36 := kz35.keep hb36
              have hf36 := hf35.keep hb36
              refine ⟨.inr b36, ?_⟩
              refine MT.one 8 false (by kernel_rfl) ?_
              dsimp only [opAt]
              have lz37 := lo33
              go_wp2_with (refine wpList_storeB (by rfl) 30 (.tmp 14) (.tmp 59) (by rfl) g33 #[.slice p35 (xs0.length + 1) c35, nilR 1, nilR 2, nilR 3, nilR 4, nilR 5, nilR 6] #[.slice none 0 0, .slice none 0 0, .slice none 0 0, .slice none 0 0, .slice none 0 0, .slice none 0 0, .slice none 0 0] 30 (by rfl) (by rfl) kz36 (by kernel_rfl) (by rfl) (by simp [Value.oneCell', nilR]) ?_; intro W37 k837 o37 z37)
              have b37 : Below w4.heap.size w4 W37 := b36.trans (o37.below b36.size (fun b hb => by rw [hb]; exact lz37))
              have hf37 := hf36.only o37 (fun b hb => nfz35 b hb) (fun _ h => h.elim)
              refine ⟨.inr b37, ?_⟩
              refine MT.fin (by kernel_rfl) ?_
              go_wp2
              go_meet
              case rel => exact ⟨_, _, _, rfl, k837, hf37.sl.any, b37⟩
          · dsimp only [opAt]
            go_wp2
            have b38 : Below w4.heap.size w4 (W1.alloc (.cells #[.slice none 0 0, .slice none 0 0, .slice none 0 0, .slice none 0 0, .slice none 0 0, .slice none 0 0, .slice none 0 0] 30)) := b1.alloc b1.size _
            have kn38 : Blk (W1.alloc (.cells #[.slice none 0 0, .slice none 0 0, .slice none 0 0, .slice none 0 0, .slice none 0 0, .slice none 0 0, .slice none 0 0] 30)) W1.heap.size #[.slice none 0 0, .slice none 0 0, .slice none 0 0, .slice none 0 0, .slice none 0 0, .slice none 0 0, .slice none 0 0] 30 := Blk.new
            have ke38 := kn1.keep (below_new W1 (.cells #[.slice none 0 0, .slice none 0 0, .slice none 0 0, .slice none 0 0, .slice none 0 0, .slice none 0 0, .slice none 0 0] 30))
            have nke38 := kn1.lt
            have lo38 := b1.size
            refine ⟨.inr b38, ?_⟩
            change MT _ _ _ _ _ _ _ _ _ (W1.alloc (.cells #[.slice none 0 0, .slice none 0 0, .slice none 0 0, .slice none 0 0, .slice none 0 0, .slice none 0 0, .slice none 0 0] 30))
            generalize (W1.alloc (.cells #[.slice none 0 0, .slice none 0 0, .slice none 0 0, .slice none 0 0, .slice none 0 0, .slice none 0 0, .slice none 0 0] 30)) = W38 at *
            generalize W1.heap.size = g38 at *
            refine MT.two 2 4 false false (by kernel_rfl) ?_ ?_
            · dsimp only [opAt]
              go_wp2_with (at_builtin; refine wpList_app (R := EvE) (A := F0) (B := fun _ => True) (xs := []) (ys := xs0) (by rfl) (.tmp 53) (.tmp 54) 22 49 i0 zz0 40 (by rfl) Try.underlying22 J1.out J2.out J4.out J5.out J3.out w4.heap.size (.slice (some ⟨w4.heap.size, 0, none⟩) 0 0) (.slice (some ⟨eb, eo, none⟩) xs0.length c0_) (by rfl) (by rfl) (own_new (by omega) ke38) (hx4.keep b38) (fun _ _ _ h => h) (by simp only [List.length_nil]; omega) (by decide) b38.size ?_; intro p39 c39 W39 hq39 hg39 hv39; simp only [List.nil_append] at hq39 ⊢)
              have b39 : Below w4.heap.size w4 W39 := b38.grown hg39 b38.size (fun b hb => by simp [Value.ownBlock] at hb; omega)
              have kz39 := kn38.grown hg39 (by simp [Value.ownBlock]; omega)
              have nqkz39 : ∀ b, (Value.slice p39 xs0.length c39).ownBlock = some b → b ≠ g38 := fun b hb e => by
                have l := kn38.lt
                simp only [List.nil_append] at hv39
                rcases hv39 with h | h <;> rw [h] at hb <;> simp [Value.ownBlock] at hb <;> omega
              refine ⟨.inr b39, ?_⟩
              refine MT.one 4 false (by kernel_rfl) ?_
              dsimp only [opAt]
              go_wp2
              have b40 : Below w4.heap.size w4 (W39.alloc (.cells #[.int .i64 x.th, .int .i64 x.kd, .int .i64 x.lc, .int .i64 x.vl, .bool x.aq, .bool x.rl, .bool x.ex] 49)) := b39.alloc b39.size _
              have kn40 : Blk (W39.alloc (.cells #[.int .i64 x.th, .int .i64 x.kd, .int .i64 x.lc, .int .i64 x.vl, .bool x.aq, .bool x.rl, .bool x.ex] 49)) W39.heap.size #[.int .i64 x.th, .int .i64 x.kd, .int .i64 x.lc, .int .i64 x.vl, .bool x.aq, .bool x.rl, .bool x.ex] 49 := Blk.new
              have kz40 := kz39.keep (below_new W39 (.cells #[.int .i64 x.th, .int .i64 x.kd, .int .i64 x.lc, .int .i64 x.vl, .bool x.aq, .bool x.rl, .bool x.ex] 49))
              have hq40 := hq39.keep (below_new W39 (.cells #[.int .i64 x.th, .int .i64 x.kd, .int .i64 x.lc, .int .i64 x.vl, .bool x.aq, .bool x.rl, .bool x.ex] 49))
              have nkz40 := kz39.lt
              have ohq40 := fun b hb => (hq39.lt b hb).2
              have lo40 := b39.size
              refine ⟨.inr b40, ?_⟩
              change MT _ _ _ _ _ _ _ _ _ (W39.alloc (.cells #[.int .i64 x.th, .int .i64 x.kd, .int .i64 x.lc, .int .i64 x.vl, .bool x.aq, .bool x.rl, .bool x.ex] 49))
              generalize (W39.alloc (.cells #[.int .i64 x.th, .int .i64 x.kd, .int .i64 x.lc, .int .i64 x.vl, .bool x.aq, .bool x.rl, .bool x.ex] 49)) = W40 at *
              generalize W39.heap.size = g40 at *
              refine MT.one 5 false (by kernel_rfl) ?_
              dsimp only [opAt]
              go_wp2_with (at_builtin; refine wpList_push (R := EvE) (xs := xs0) (x := x) (by rfl) (.tmp 55) (.tmp 57) 22 49 i0 zz0 40 (by rfl) Try.underlying22 J1.out J2.out J4.out J5.out J3.out w4.heap.size (.slice p39 xs0.length c39) g40 (by rfl) (by rfl) hq40 x.cells (fun _ _ => rfl) (fun _ _ _ _ _ h => h) (fun j u hj => (kn40.cell j).trans (by simpa [Ev.cells] using hj)) (by omega) (by decide) b40.size ?_; intro p41 c41 W41 hf41 hg41 hv41)
              have b41 : Below w4.heap.size w4 W41 := b40.grown hg41 b40.size (fun b hb => (hq40.lt b hb).1)
              have kz41 := kz40.grown hg41 (fun e => nqkz39 _ e.symm rfl)
              have nfz41 : ∀ b, (Value.slice p41 (xs0.length + 1) c41).ownBlock = some b → b ≠ g38 := fun b hb e => by
                have l := kz40.lt
                rcases hv41 with h | h
                · rw [h] at hb; exact nqkz39 b hb e
                · rw [h] at hb; injection hb with hb; omega
              refine ⟨.inr b41, ?_⟩
              refine MT.one 6 false (by kernel_rfl) ?_
              dsimp only [opAt]
              go_wp2_with (go_at_call 10; refine (HMD.out p41 (xs0.length + 1) c41 W41).mono ?_; rintro e W42 ⟨rfl, hb42⟩)
              have b42 := Below.thru b41 hb42 (Nat.le_refl _)
              have kz42 := kz41.keep hb42
              have hf42 := hf41.keep hb42
              refine ⟨.inr b42, ?_⟩
              refine MT.one 8 false (by kernel_rfl) ?_
              dsimp only [opAt]
              have lz43 := lo38
              go_wp2_with (refine wpList_storeB (by rfl) 30 (.tmp 14) (.tmp 59) (by rfl) g38 #[.slice p41 (xs0.length + 1) c41, nilR 1, nilR 2, nilR 3, nilR 4, nilR 5, nilR 6] #[.slice none 0 0, .slice none 0 0, .slice none 0 0, .slice none 0 0, .slice none 0 0, .slice none 0 0, .slice none 0 0] 30 (by rfl) (by rfl) kz42 (by kernel_rfl) (by rfl) (by simp [Value.oneCell', nilR]) ?_; intro W43 k843 o43 z43)
              have b43 : Below w4.heap.size w4 W43 := b42.trans (o43.below b42.size (fun b hb => by rw [hb]; exact lz43))
              have hf43 := hf42.only o43 (fun b hb => nfz41 b hb) (fun _ h => h.elim)
              refine ⟨.inr b43, ?_⟩
              refine MT.fin (by kernel_rfl) ?_
              go_wp2
              go_meet
              case rel => exact ⟨_, _, _, rfl, k843, hf43.sl.any, b43⟩
            · dsimp only [opAt]
              go_wp2
              have b44 : Below w4.heap.size w4 (W38.alloc (.cells #[.int .i64 x.th, .int .i64 x.kd, .int .i64 x.lc, .int .i64 x.vl, .bool x.aq, .bool x.rl, .bool x.ex] 49)) := b38.alloc b38.size _
              have kn44 : Blk (W38.alloc (.cells #[.int .i64 x.th, .int .i64 x.kd, .int .i64 x.lc, .int .i64 x.vl, .bool x.aq, .bool x.rl, .bool x.ex] 49)) W38.heap.size #[.int .i64 x.th, .int .i64 x.kd, .int .i64 x.lc, .int .i64 x.vl, .bool x.aq, .bool x.rl, .bool x.ex] 49 := Blk.new
              have ke44 := ke38.keep (below_new W38 (.cells #[.int .i64 x.th, .int .i64 x.kd, .int .i64 x.lc, .int .i64 x.vl, .bool x.aq, .bool x.rl, .bool x.ex] 49))
              have kz44 := kn38.keep (below_new W38 (.cells #[.int .i64 x.th, .int .i64 x.kd, .int .i64 x.lc, .int .i64 x.vl, .bool x.aq, .bool x.rl, .bool x.ex] 49))
              have nke44 := ke38.lt
              have nkz44 := kn38.lt
              have lo44 := b38.size
              refine ⟨.inr b44, ?_⟩
              change MT _ _ _ _ _ _ _ _ _ (W38.alloc (.cells #[.int .i64 x.th, .int .i64 x.kd, .int .i64 x.lc, .int .i64 x.vl, .bool x.aq, .bool x.rl, .bool x.ex] 49))
              generalize (W38.alloc (.cells #[.int .i64 x.th, .int .i64 x.kd, .int .i64 x.lc, .int .i64 x.vl, .bool x.aq, .bool x.rl, .bool x.ex] 49)) = W44 at *
              generalize W38.heap.size = g44 at *
              refine MT.one 2 false (by kernel_rfl) ?_
              dsimp only [opAt]
              go_wp2_with (at_builtin; refine wpList_app (R := EvE) (A := F0) (B := fun _ => True) (xs := []) (ys := xs0) (by rfl) (.tmp 53) (.tmp 54) 22 49 i0 zz0 40 (by rfl) Try.underlying22 J1.out J2.out J4.out J5.out J3.out w4.heap.size (.slice (some ⟨w4.heap.size, 0, none⟩) 0 0) (.slice (some ⟨eb, eo, none⟩) xs0.length c0_) (by rfl) (by rfl) (own_new (by omega) ke44) (hx4.keep b44) (fun _ _ _ h => h) (by simp only [List.length_nil]; omega) (by decide) b44.size ?_; intro p45 c45 W45 hq45 hg45 hv45; simp only [List.nil_append] at hq45 ⊢)
              have b45 : Below w4.heap.size w4 W45 := b44.grown hg45 b44.size (fun b hb => by simp [Value.ownBlock] at hb; omega)
              have kx45 := kn44.grown hg45 (by simp [Value.ownBlock]; omega)
              have nqkx45 : ∀ b, (Value.slice p45 xs0.length c45).ownBlock = some b → b ≠ g44 := fun b hb e => by
                have l := kn44.lt
                simp only [List.nil_append] at hv45
                rcases hv45 with h | h <;> rw [h] at hb <;> simp [Value.ownBlock] at hb <;> omega
              have kz45 := kz44.grown hg45 (by simp [Value.ownBlock]; omega)
              have nqkz45 : ∀ b, (Value.slice p45 xs0.length c45).ownBlock = some b → b ≠ g38 := fun b hb e => by
                have l := kz44.lt
                simp only [List.nil_append] at hv45
                rcases hv45 with h | h <;> rw [h] at hb <;> simp [Value.ownBlock] at hb <;> omega
              refine ⟨.inr b45, ?_⟩
              refine MT.one 5 false (by kernel_rfl) ?_
              dsimp only [opAt]
              go_wp2_with (at_builtin; refine wpList_push (R := EvE) (xs := xs0) (x := x) (by rfl) (.tmp 55) (.tmp 57) 22 49 i0 zz0 40 (by rfl) Try.underlying22 J1.out J2.out J4.out J5.out J3.out w4.heap.size (.slice p45 xs0.length c45) g44 (by rfl) (by rfl) hq45 x.cells (fun _ _ => rfl) (fun _ _ _ _ _ h => h) (fun j u hj => (kx45.cell j).trans (by simpa [Ev.cells] using hj)) (by omega) (by decide) b45.size ?_; intro p46 c46 W46 hf46 hg46 hv46)
              have b46 : Below w4.heap.size w4 W46 := b45.grown hg46 b45.size (fun b hb => (hq45.lt b hb).1)
              have kz46 := kz45.grown hg46 (fun e => nqkz45 _ e.symm rfl)
              have nfz46 : ∀ b, (Value.slice p46 (xs0.length + 1) c46).ownBlock = some b → b ≠ g38 := fun b hb e => by
                have l := kz45.lt
                rcases hv46 with h | h
                · rw [h] at hb; exact nqkz45 b hb e
                · rw [h] at hb; injection hb with hb; omega
              refine ⟨.inr b46, ?_⟩
              refine MT.one 6 false (by kernel_rfl) ?_
              dsimp only [opAt]
              go_wp2_with (go_at_call 10; refine (HMD.out p46 (xs0.length + 1) c46 W46).mono ?_; rintro e W47 ⟨rfl, hb47⟩)
              have b47 := Below.thru b46 hb47 (Nat.le_refl _)
              have kz47 := kz46.keep hb47
              have hf47 := hf46.keep hb47
              refine ⟨.inr b47, ?_⟩
              refine MT.one 8 false (by kernel_rfl) ?_
              dsimp only [opAt]
              have lz48 := lo38
              go_wp2_with (refine wpList_storeB (by rfl) 30 (.tmp 14) (.tmp 59) (by rfl) g38 #[.slice p46 (xs0.length + 1) c46, nilR 1, nilR 2, nilR 3, nilR 4, nilR 5, nilR 6] #[.slice none 0 0, .slice none 0 0, .slice none 0 0, .slice none 0 0, .slice none 0 0, .slice none 0 0, .slice none 0 0] 30 (by rfl) (by rfl) kz47 (by kernel_rfl) (by rfl) (by simp [Value.oneCell', nilR]) ?_; intro W48 k848 o48 z48)
              have b48 : Below w4.heap.size w4 W48 := b47.trans (o48.below b47.size (fun b hb => by rw [hb]; exact lz48))
              have hf48 := hf47.only o48 (fun b hb => nfz46 b hb) (fun _ h => h.elim)
              refine ⟨.inr b48, ?_⟩
              refine MT.fin (by kernel_rfl) ?_
              go_wp2
              go_meet
              case rel => exact ⟨_, _, _, rfl, k848, hf48.sl.any, b48⟩
        · dsimp only [opAt]
          go_wp2
          have b49 : Below w4.heap.size w4 (w4.alloc (.cells #[.int .i64 x.th, .int .i64 x.kd, .int .i64 x.lc, .int .i64 x.vl, .bool x.aq, .bool x.rl, .bool x.ex] 49)).drew := ((Below.refl _ _).alloc (Nat.le_refl _) _).drew
          have kn49 : Blk (w4.alloc (.cells #[.int .i64 x.th, .int .i64 x.kd, .int .i64 x.lc, .int .i64 x.vl, .bool x.aq, .bool x.rl, .bool x.ex] 49)).drew w4.heap.size #[.int .i64 x.th, .int .i64 x.kd, .int .i64 x.lc, .int .i64 x.vl, .bool x.aq, .bool x.rl, .bool x.ex] 49 := Blk.drew Blk.new
          have lo49 := (Below.refl w4.heap.size w4).size
          refine ⟨.inr b49, ?_⟩
          change MT _ _ _ _ _ _ _ _ _ (w4.alloc (.cells #[.int .i64 x.th, .int .i64 x.kd, .int .i64 x.lc, .int .i64 x.vl, .bool x.aq, .bool x.rl, .bool x.ex] 49)).drew
          generalize (w4.alloc (.cells #[.int .i64 x.th, .int .i64 x.kd, .int .i64 x.lc, .int .i64 x.vl, .bool x.aq, .bool x.rl, .bool x.ex] 49)).drew = W49 at *
          refine MT.two 0 7 false false (by kernel_rfl) ?_ ?_
          · dsimp only [opAt]
            go_wp2
            have b50 : Below w4.heap.size w4 (W49.alloc (.cells #[] 49)) := b49.alloc b49.size _
            have kn50 : Blk (W49.alloc (.cells #[] 49)) W49.heap.size #[] 49 := Blk.new
            have kx50 := kn49.keep (below_new W49 (.cells #[] 49))
            have nkx50 := kn49.lt
            have lo50 := b49.size
            refine ⟨.inr b50, ?_⟩
            change MT _ _ _ _ _ _ _ _ _ (W49.alloc (.cells #[] 49))
            generalize (W49.alloc (.cells #[] 49)) = W50 at *
            generalize W49.heap.size = g50 at *
            refine MT.two 2 7 false false (by kernel_rfl) ?_ ?_
            · dsimp only [opAt]
              go_wp2_with (at_builtin; refine wpList_app (R := EvE) (A := F0) (B := fun _ => True) (xs := []) (ys := xs0) (by rfl) (.tmp 53) (.tmp 54) 22 49 i0 zz0 40 (by rfl) Try.underlying22 J1.out J2.out J4.out J5.out J3.out w4.heap.size (.slice (some ⟨g50, 0, none⟩) 0 0) (.slice (some ⟨eb, eo, none⟩) xs0.length c0_) (by rfl) (by rfl) (own_new (by omega) kn50) (hx4.keep b50) (fun _ _ _ h => h) (by simp only [List.length_nil]; omega) (by decide) b50.size ?_; intro p51 c51 W51 hq51 hg51 hv51; simp only [List.nil_append] at hq51 ⊢)
              have b51 : Below w4.heap.size w4 W51 := b50.grown hg51 b50.size (fun b hb => by simp [Value.ownBlock] at hb; omega)
              have kx51 := kx50.grown hg51 (by simp [Value.ownBlock]; omega)
              have nqkx51 : ∀ b, (Value.slice p51 xs0.length c51).ownBlock = some b → b ≠ w4.heap.size := fun b hb e => by
                have l := kx50.lt
                simp only [List.nil_append] at hv51
                rcases hv51 with h | h <;> rw [h] at hb <;> simp [Value.ownBlock] at hb <;> omega
              refine ⟨.inr b51, ?_⟩
              refine MT.two 5 7 false false (by kernel_rfl) ?_ ?_
              · dsimp only [opAt]
                go_wp2_with (at_builtin; refine wpList_push (R := EvE) (xs := xs0) (x := x) (by rfl) (.tmp 55) (.tmp 57) 22 49 i0 zz0 40 (by rfl) Try.underlying22 J1.out J2.out J4.out J5.out J3.out w4.heap.size (.slice p51 xs0.length c51) w4.heap.size (by rfl) (by rfl) hq51 x.cells (fun _ _ => rfl) (fun _ _ _ _ _ h => h) (fun j u hj => (kx51.cell j).trans (by simpa [Ev.cells] using hj)) (by omega) (by decide) b51.size ?_; intro p52 c52 W52 hf52 hg52 hv52)
                have b52 : Below w4.heap.size w4 W52 := b51.grown hg52 b51.size (fun b hb => (hq51.lt b hb).1)
                refine ⟨.inr b52, ?_⟩
                refine MT.two 6 7 false false (by kernel_rfl) ?_ ?_
                · dsimp only [opAt]
                  go_wp2_with (go_at_call 10; refine (HMD.out p52 (xs0.length + 1) c52 W52).mono ?_; rintro e W53 ⟨rfl, hb53⟩)
                  have b53 := Below.thru b52 hb53 (Nat.le_refl _)
                  have hf53 := hf52.keep hb53
                  refine ⟨.inr b53, ?_⟩
                  refine MT.one 7 false (by kernel_rfl) ?_
                  dsimp only [opAt]
                  go_wp2
                  have b54 : Below w4.heap.size w4 (W53.alloc (.cells #[.slice none 0 0, .slice none 0 0, .slice none 0 0, .slice none 0 0, .slice none 0 0, .slice none 0 0, .slice none 0 0] 30)) := b53.alloc b53.size _
                  have kn54 : Blk (W53.alloc (.cells #[.slice none 0 0, .slice none 0 0, .slice none 0 0, .slice none 0 0, .slice none 0 0, .slice none 0 0, .slice none 0 0] 30)) W53.heap.size #[.slice none 0 0, .slice none 0 0, .slice none 0 0, .slice none 0 0, .slice none 0 0, .slice none 0 0, .slice none 0 0] 30 := Blk.new
                  have hf54 := hf53.keep (below_new W53 (.cells #[.slice none 0 0, .slice none 0 0, .slice none 0 0, .slice none 0 0, .slice none 0 0, .slice none 0 0, .slice none 0 0] 30))
                  have ohf54 := fun b hb => (hf53.lt b hb).2
                  have lo54 := b53.size
                  refine ⟨.inr b54, ?_⟩
                  change MT _ _ _ _ _ _ _ _ _ (W53.alloc (.cells #[.slice none 0 0, .slice none 0 0, .slice none 0 0, .slice none 0 0, .slice none 0 0, .slice none 0 0, .slice none 0 0] 30))
                  generalize (W53.alloc (.cells #[.slice none 0 0, .slice none 0 0, .slice none 0 0, .slice none 0 0, .slice none 0 0, .slice none 0 0, .slice none 0 0] 30)) = W54 at *
                  generalize W53.heap.size = g54 at *
                  have nfz54 : ∀ b, (Value.slice p52 (xs0.length + 1) c52).ownBlock = some b → b ≠ g54 := fun b hb e => by have := ohf54 b hb; omega
                  refine MT.one 8 false (by kernel_rfl) ?_
                  dsimp only [opAt]
                  have lz55 := lo54
                  go_wp2_with (refine wpList_storeB (by rfl) 30 (.tmp 14) (.tmp 59) (by rfl) g54 #[.slice p52 (xs0.length + 1) c52, nilR 1, nilR 2, nilR 3, nilR 4, nilR 5, nilR 6] #[.slice none 0 0, .slice none 0 0, .slice none 0 0, .slice none 0 0, .slice none 0 0, .slice none 0 0, .slice none 0 0] 30 (by rfl) (by rfl) kn54 (by kernel_rfl) (by rfl) (by simp [Value.oneCell', nilR]) ?_; intro W55 k855 o55 z55)
                  have b55 : Below w4.heap.size w4 W55 := b54.trans (o55.below b54.size (fun b hb => by rw [hb]; exact lz55))
                  have hf55 := hf54.only o55 (fun b hb => nfz54 b hb) (fun _ h => h.elim)
                  refine ⟨.inr b55, ?_⟩
                  refine MT.fin (by kernel_rfl) ?_
                  go_wp2
                  go_meet
                  case rel => exact ⟨_, _, _, rfl, k855, hf55.sl.any, b55⟩
                · dsimp only [opAt]
                  go_wp2
                  have b56 : Below w4.heap.size w4 (W52.alloc (.cells #[.slice none 0 0, .slice none 0 0, .slice none 0 0, .slice none 0 0, .slice none 0 0, .slice none 0 0, .slice none 0 0] 30)) := b52.alloc b52.size _
                  have kn56 : Blk (W52.alloc (.cells #[.slice none 0 0, .slice none 0 0, .slice none 0 0, .slice none 0 0, .slice none 0 0, .slice none 0 0, .slice none 0 0] 30)) W52.heap.size #[.slice none 0 0, .slice none 0 0, .slice none 0 0, .slice none 0 0, .slice none 0 0, .slice none 0 0, .slice none 0 0] 30 := Blk.new
                  have hf56 := hf52.keep (below_new W52 (.cells #[.slice none 0 0, .slice none 0 0, .slice none 0 0, .slice none 0 0, .slice none 0 0, .slice none 0 0, .slice none 0 0] 30))
                  have ohf56 := fun b hb => (hf52.lt b hb).2
                  have lo56 := b52.size
                  refine ⟨.inr b56, ?_⟩
                  change MT _ _ _ _ _ _ _ _ _ (W52.alloc (.cells #[.slice none 0 0, .slice none 0 0, .slice none 0 0, .slice none 0 0, .slice none 0 0, .slice none 0 0, .slice none 0 0] 30))
                  generalize (W52.alloc (.cells #[.slice none 0 0, .slice none 0 0, .slice none 0 0, .slice none 0 0, .slice none 0 0, .slice none 0 0, .slice none 0 0] 30)) = W56 at *
                  generalize W52.heap.size = g56 at *
                  have nfz56 : ∀ b, (Value.slice p52 (xs0.length + 1) c52).ownBlock = some b → b ≠ g56 := fun b hb e => by have := ohf56 b hb; omega
                  refine MT.one 6 false (by kernel_rfl) ?_
                  dsimp only [opAt]
                  go_wp2_with (go_at_call 10; refine (HMD.out p52 (xs0.length + 1) c52 W56).mono ?_; rintro e W57 ⟨rfl, hb57⟩)
                  have b57 := Below.thru b56 hb57 (Nat.le_refl _)
                  have kz57 := kn56.keep hb57
                  have hf57 := hf56.keep hb57
                  refine ⟨.inr b57, ?_⟩
                  refine MT.one 8 false (by kernel_rfl) ?_
                  dsimp only [opAt]
                  have lz58 := lo56
                  go_wp2_with (refine wpList_storeB (by rfl) 30 (.tmp 14) (.tmp 59) (by rfl) g56 #[.slice p52 (xs0.length + 1) c52, nilR 1, nilR 2, nilR 3, nilR 4, nilR 5, nilR 6] #[.slice none 0 0, .slice none 0 0, .slice none 0 0, .slice none 0 0, .slice none 0 0, .slice none 0 0, .slice none 0 0] 30 (by rfl) (by rfl) kz57 (by kernel_rfl) (by rfl) (by simp [Value.oneCell', nilR]) ?_; intro W58 k858 o58 z58)
                  have b58 : Below w4.heap.size w4 W58 := b57.trans (o58.below b57.size (fun b hb => by rw [hb]; exact lz58))
                  have hf58 := hf57.only o58 (fun b hb => nfz56 b hb) (fun _ h => h.elim)
                  refine ⟨.inr b58, ?_⟩
                  refine MT.fin (by kernel_rfl) ?_
                  go_wp2
                  go_meet
                  case rel => exact ⟨_, _, _, rfl, k858, hf58.sl.any, b58⟩
              · dsimp only [opAt]
                go_wp2
                have b59 : Below w4.heap.size w4 (W51.alloc (.cells #[.slice none 0 0, .slice none 0 0, .slice none 0 0, .slice none 0 0, .slice none 0 0, .slice none 0 0, .slice none 0 0] 30)) := b51.alloc b51.size _
                have kn59 : Blk (W51.alloc (.cells #[.slice none 0 0, .slice none 0 0, .slice none 0 0, .slice none 0 0, .slice none 0 0, .slice none 0 0, .slice none 0 0] 30)) W51.heap.size #[.slice none 0 0, .slice none 0 0, .slice none 0 0, .slice none 0 0, .slice none 0 0, .slice none 0 0, .slice none 0 0] 30 := Blk.new
                have kx59 := kx51.keep (below_new W51 (.cells #[.slice none 0 0, .slice none 0 0, .slice none 0 0, .slice none 0 0, .slice none 0 0, .slice none 0 0, .slice none 0 0] 30))
                have hq59 := hq51.keep (below_new W51 (.cells #[.slice none 0 0, .slice none 0 0, .slice none 0 0, .slice none 0 0, .slice none 0 0, .slice none 0 0, .slice none 0 0] 30))
                have nkx59 := kx51.lt
                have ohq59 := fun b hb => (hq51.lt b hb).2
                have lo59 := b51.size
                refine ⟨.inr b59, ?_⟩
                change MT _ _ _ _ _ _ _ _ _ (W51.alloc (.cells #[.slice none 0 0, .slice none 0 0, .slice none 0 0, .slice none 0 0, .slice none 0 0, .slice none 0 0, .slice none 0 0] 30))
                generalize (W51.alloc (.cells #[.slice none 0 0, .slice none 0 0, .slice none 0 0, .slice none 0 0, .slice none 0 0, .slice none 0 0, .slice none 0 0] 30)) = W59 at *
                generalize W51.heap.size = g59 at *
                have nqkz59 : ∀ b, (Value.slice p51 xs0.length c51).ownBlock = some b → b ≠ g59 := fun b hb e => by have := ohq59 b hb; omega
                refine MT.one 5 false (by kernel_rfl) ?_
                dsimp only [opAt]
                go_wp2_with (at_builtin; refine wpList_push (R := EvE) (xs := xs0) (x := x) (by rfl) (.tmp 55) (.tmp 57) 22 49 i0 zz0 40 (by rfl) Try.underlying22 J1.out J2.out J4.out J5.out J3.out w4.heap.size (.slice p51 xs0.length c51) w4.heap.size (by rfl) (by rfl) hq59 x.cells (fun _ _ => rfl) (fun _ _ _ _ _ h => h) (fun j u hj => (kx59.cell j).trans (by simpa [Ev.cells] using hj)) (by omega) (by decide) b59.size ?_; intro p60 c60 W60 hf60 hg60 hv60)
                have b60 : Below w4.heap.size w4 W60 := b59.grown hg60 b59.size (fun b hb => (hq59.lt b hb).1)
                have kz60 := kn59.grown hg60 (fun e => nqkz59 _ e.symm rfl)
                have nfz60 : ∀ b, (Value.slice p60 (xs0.length + 1) c60).ownBlock = some b → b ≠ g59 := fun b hb e => by
                  have l := kn59.lt
                  rcases hv60 with h | h
                  · rw [h] at hb; exact nqkz59 b hb e
                  · rw [h] at hb; injection hb with hb; omega
                refine ⟨.inr b60, ?_⟩
                refine MT.one 6 false (by kernel_rfl) ?_
                dsimp only [opAt]
                go_wp2_with (go_at_call 10; refine (HMD.out p60 (xs0.length + 1) c60 W60).mono ?_; rintro e W61 ⟨rfl, hb61⟩)
                have b61 := Below.thru b60 hb61 (Nat.le_refl _)
                have kz61 := kz60.keep hb61
                have hf61 := hf60.keep hb61
                refine ⟨.inr b61, ?_⟩
                refine MT.one 8 false (by kernel_rfl) ?_
                dsimp only [opAt]
                have lz62 := lo59
                go_wp2_with (refine wpList_storeB (by rfl) 30 (.tmp 14) (.tmp 59) (by rfl) g59 #[.slice p60 (xs0.length + 1) c60, nilR 1, nilR 2, nilR 3, nilR 4, nilR 5, nilR 6] #[.slice none 0 0, .slice none 0 0, .slice none 0 0, .slice none 0 0, .slice none 0 0, .slice none 0 0, .slice none 0 0] 30 (by rfl) (by rfl) kz61 (by kernel_rfl) (by rfl) (by simp [Value.oneCell', nilR]) ?_; intro W62 k862 o62 z62)
                have b62 : Below w4.heap.size w4 W62 := b61.trans (o62.below b61.size (fun b hb => by rw [hb]; exact lz62))
                have hf62 := hf61.only o62 (fun b hb => nfz60 b hb) (fun _ h => h.elim)
                refine ⟨.inr b62, ?_⟩
                refine MT.fin (by kernel_rfl) ?_
                go_wp2
                go_meet
                case rel => exact ⟨_, _, _, rfl, k862, hf62.sl.any, b62⟩
            · dsimp only [opAt]
              go_wp2
              have b63 : Below w4.heap.size w4 (W50.alloc (.cells #[.slice none 0 0, .slice none 0 0, .slice none 0 0, .slice none 0 0, .slice none 0 0, .slice none 0 0, .slice none 0 0] 30)) := b50.alloc b50.size _
              have kn63 : Blk (W50.alloc (.cells #[.slice none 0 0, .slice none 0 0, .slice none 0 0, .slice none 0 0, .slice none 0 0, .slice none 0 0, .slice none 0 0] 30)) W50.heap.size #[.slice none 0 0, .slice none 0 0, .slice none 0 0, .slice none 0 0, .slice none 0 0, .slice none 0 0, .slice none 0 0] 30 := Blk.new
              have ke63 := kn50.keep (below_new W50 (.cells #[.slice none 0 0, .slice none 0 0, .slice none 0 0, .slice none 0 0, .slice none 0 0, .slice none 0 0, .slice none 0 0] 30))
              have kx63 := kx50.keep (below_new W50 (.cells #[.slice none 0 0, .slice none 0 0, .slice none 0 0, .slice none 0 0, .slice none 0 0, .slice none 0 0, .slice none 0 0] 30))
              have nke63 := kn50.lt
              have nkx63 := kx50.lt
              have lo63 := b50.size
              refine ⟨.inr b63, ?_⟩
              change MT _ _ _ _ _ _ _ _ _ (W50.alloc (.cells #[.slice none 0 0, .slice none 0 0, .slice none 0 0, .slice none 0 0, .slice none 0 0, .slice none 0 0, .slice none 0 0] 30))
              generalize (W50.alloc (.cells #[.slice none 0 0, .slice none 0 0, .slice none 0 0, .slice none 0 0, .slice none 0 0, .slice none 0 0, .slice none 0 0] 30)) = W63 at *
              generalize W50.heap.size = g63 at *
              refine MT.one 2 false (by kernel_rfl) ?_
              dsimp only [opAt]
              go_wp2_with (at_builtin; refine wpList_app (R := EvE) (A := F0) (B := fun _ => True) (xs := []) (ys := xs0) (by rfl) (.tmp 53) (.tmp 54) 22 49 i0 zz0 40 (by rfl) Try.underlying22 J1.out J2.out J4.out J5.out J3.out w4.heap.size (.slice (some ⟨g50, 0, none⟩) 0 0) (.slice (some ⟨eb, eo, none⟩) xs0.length c0_) (by rfl) (by rfl) (own_new (by omega) ke63) (hx4.keep b63) (fun _ _ _ h => h) (by simp only [List.length_nil]; omega) (by decide) b63.size ?_; intro p64 c64 W64 hq64 hg64 hv64; simp only [List.nil_append] at hq64 ⊢)
              have b64 : Below w4.heap.size w4 W64 := b63.grown hg64 b63.size (fun b hb => by simp [Value.ownBlock] at hb; omega)
              have kx64 := kx63.grown hg64 (by simp [Value.ownBlock]; omega)
              have nqkx64 : ∀ b, (Value.slice p64 xs0.length c64).ownBlock = some b → b ≠ w4.heap.size := fun b hb e => by
                have l := kx63.lt
                simp only [List.nil_append] at hv64
                rcases hv64 with h | h <;> rw [h] at hb <;> simp [Value.ownBlock] at hb <;> omega
              have kz64 := kn63.grown hg64 (by simp [Value.ownBlock]; omega)
              have nqkz64 : ∀ b, (Value.slice p64 xs0.length c64).ownBlock = some b → b ≠ g63 := fun b hb e => by
                have l := kn63.lt
                simp only [List.nil_append] at hv64
                rcases hv64 with h | h <;> rw [h] at hb <;> simp [Value.ownBlock] at hb <;> omega
              refine ⟨.inr b64, ?_⟩
              refine MT.one 5 false (by kernel_rfl) ?_
              dsimp only [opAt]
              go_wp2_with (at_builtin; refine wpList_push (R := EvE) (xs := xs0) (x := x) (by rfl) (.tmp 55) (.tmp 57) 22 49 i0 zz0 40 (by rfl) Try.underlying22 J1.out J2.out J4.out J5.out J3.out w4.heap.size (.slice p64 xs0.length c64) w4.heap.size (by rfl) (by rfl) hq64 x.cells (fun _ _ => rfl) (fun _ _ _ _ _ h => h) (fun j u hj => (kx64.cell j).trans (by simpa [Ev.cells] using hj)) (by omega) (by decide) b64.size ?_; intro p65 c65 W65 hf65 hg65 hv65)
              have b65 : Below w4.heap.size w4 W65 := b64.grown hg65 b64.size (fun b hb => (hq64.lt b hb).1)
              have kz65 := kz64.grown hg65 (fun e => nqkz64 _ e.symm rfl)
              have nfz65 : ∀ b, (Value.slice p65 (xs0.length + 1) c65).ownBlock = some b → b ≠ g63 := fun b hb e => by
                have l := kz64.lt
                rcases hv65 with h | h
                · rw [h] at hb; exact nqkz64 b hb e
                · rw [h] at hb; injection hb with hb; omega
              refine ⟨.inr b65, ?_⟩
              refine MT.one 6 false (by kernel_rfl) ?_
              dsimp only [opAt]
              go_wp2_with (go_at_call 10; refine (HMD.out p65 (xs0.length + 1) c65 W65).mono ?_; rintro e W66 ⟨rfl, hb66⟩)
              have b66 := Below.thru b65 hb66 (Nat.le_refl _)
              have kz66 := kz65.keep hb66
              have hf66 := hf65.keep hb66
              refine ⟨.inr b66, ?_⟩
              refine MT.one 8 false (by kernel_rfl) ?_
              dsimp only [opAt]
              have lz67 := lo63
              go_wp2_with (refine wpList_storeB (by rfl) 30 (.tmp 14) (.tmp 59) (by rfl) g63 #[.slice p65 (xs0.length + 1) c65, nilR 1, nilR 2, nilR 3, nilR 4, nilR 5, nilR 6] #[.slice none 0 0, .slice none 0 0, .slice none 0 0, .slice none 0 0, .slice none 0 0, .slice none 0 0, .slice none 0 0] 30 (by rfl) (by rfl) kz66 (by kernel_rfl) (by rfl) (by simp [Value.oneCell', nilR]) ?_; intro W67 k867 o67 z67)
              have b67 : Below w4.heap.size w4 W67 := b66.trans (o67.below b66.size (fun b hb => by rw [hb]; exact lz67))
              have hf67 := hf66.only o67 (fun b hb => nfz65 b hb) (fun _ h => h.elim)
              refine ⟨.inr b67, ?_⟩
              refine MT.fin (by kernel_rfl) ?_
              go_wp2
              go_meet
              case rel => exact ⟨_, _, _, rfl, k867, hf67.sl.any, b67⟩
          · dsimp only [opAt]
            go_wp2
            have b68 : Below w4.heap.size w4 (W49.alloc (.cells #[.slice none 0 0, .slice none 0 0, .slice none 0 0, .slice none 0 0, .slice none 0 0, .slice none 0 0, .slice none 0 0] 30)) := b49.alloc b49.size _
            have kn68 : Blk (W49.alloc (.cells #[.slice none 0 0, .slice none 0 0, .slice none 0 0, .slice none 0 0, .slice none 0 0, .slice none 0 0, .slice none 0 0] 30)) W49.heap.size #[.slice none 0 0, .slice none 0 0, .slice none 0 0, .slice none 0 0, .slice none 0 0, .slice none 0 0, .slice none 0 0] 30 := Blk.new
            have kx68 := kn49.keep (below_new W49 (.cells #[.slice none 0 0, .slice none 0 0, .slice none 0 0, .slice none 0 0, .slice none 0 0, .slice none 0 0, .slice none 0 0] 30))
            have nkx68 := kn49.lt
            have lo68 := b49.size
            refine ⟨.inr b68, ?_⟩
            change MT _ _ _ _ _ _ _ _ _ (W49.alloc (.cells #[.slice none 0 0, .slice none 0 0, .slice none 0 0, .slice none 0 0, .slice none 0 0, .slice none 0 0, .slice none 0 0] 30))
            generalize (W49.alloc (.cells #[.slice none 0 0, .slice none 0 0, .slice none 0 0, .slice none 0 0, .slice none 0 0, .slice none 0 0, .slice none 0 0] 30)) = W68 at *
            generalize W49.heap.size = g68 at *
            refine MT.one 0 false (by kernel_rfl) ?_
            dsimp only [opAt]
            go_wp2
            have b69 : Below w4.heap.size w4 (W68.alloc (.cells #[] 49)) := b68.alloc b68.size _
            have kn69 : Blk (W68.alloc (.cells #[] 49)) W68.heap.size #[] 49 := Blk.new
            have kx69 := kx68.keep (below_new W68 (.cells #[] 49))
            have kz69 := kn68.keep (below_new W68 (.cells #[] 49))
            have nkx69 := kx68.lt
            have nkz69 := kn68.lt
            have lo69 := b68.size
            refine ⟨.inr b69, ?_⟩
            change MT _ _ _ _ _ _ _ _ _ (W68.alloc (.cells #[] 49))
            generalize (W68.alloc (.cells #[] 49)) = W69 at *
            generalize W68.heap.size = g69 at *
            refine MT.one 2 false (by kernel_rfl) ?_
            dsimp only [opAt]
            go_wp2_with (at_builtin; refine wpList_app (R := EvE) (A := F0) (B := fun _ => True) (xs := []) (ys := xs0) (by rfl) (.tmp 53) (.tmp 54) 22 49 i0 zz0 40 (by rfl) Try.underlying22 J1.out J2.out J4.out J5.out J3.out w4.heap.size (.slice (some ⟨g69, 0, none⟩) 0 0) (.slice (some ⟨eb, eo, none⟩) xs0.length c0_) (by rfl) (by rfl) (own_new (by omega) kn69) (hx4.keep b69) (fun _ _ _ h => h) (by simp only [List.length_nil]; omega) (by decide) b69.size ?_; intro p70 c70 W70 hq70 hg70 hv70; simp only [List.nil_append] at hq70 ⊢)
            have b70 : Below w4.heap.size w4 W70 := b69.grown hg70 b69.size (fun b hb => by simp [Value.ownBlock] at hb; omega)
            have kx70 := kx69.grown hg70 (by simp [Value.ownBlock]; omega)
            have nqkx70 : ∀ b, (Value.slice p70 xs0.length c70).ownBlock = some b → b ≠ w4.heap.size := fun b hb e => by
              have l := kx69.lt
              simp only [List.nil_append] at hv70
              rcases hv70 with h | h <;> rw [h] at hb <;> simp [Value.ownBlock] at hb <;> omega
            have kz70 := kz69.grown hg70 (by simp [Value.ownBlock]; omega)
            have nqkz70 : ∀ b, (Value.slice p70 xs0.length c70).ownBlock = some b → b ≠ g68 := fun b hb e => by
              have l := kz69.lt
              simp only [List.nil_append] at hv70
              rcases hv70 with h | h <;> rw [h] at hb <;> simp [Value.ownBlock] at hb <;> omega
            refine ⟨.inr b70, ?_⟩
            refine MT.one 5 false (by kernel_rfl) ?_
            dsimp only [opAt]
            go_wp2_with (at_builtin; refine wpList_push (R := EvE) (xs := xs0) (x := x) (by rfl) (.tmp 55) (.tmp 57) 22 49 i0 zz0 40 (by rfl) Try.underlying22 J1.out J2.out J4.out J5.out J3.out w4.heap.size (.slice p70 xs0.length c70) w4.heap.size (by rfl) (by rfl) hq70 x.cells (fun _ _ => rfl) (fun _ _ _ _ _ h => h) (fun j u hj => (kx70.cell j).trans (by simpa [Ev.cells] using hj)) (by omega) (by decide) b70.size ?_; intro p71 c71 W71 hf71 hg71 hv71)
            have b71 : Below w4.heap.size w4 W71 := b70.grown hg71 b70.size (fun b hb => (hq70.lt b hb).1)
            have kz71 := kz70.grown hg71 (fun e => nqkz70 _ e.symm rfl)
            have nfz71 : ∀ b, (Value.slice p71 (xs0.length + 1) c71).ownBlock = some b → b ≠ g68 := fun b hb e => by
              have l := kz70.lt
              rcases hv71 with h | h
              · rw [h] at hb; exact nqkz70 b hb e
              · rw [h] at hb; injection hb with hb; omega
            refine ⟨.inr b71, ?_⟩
            refine MT.one 6 false (by kernel_rfl) ?_
            dsimp only [opAt]
            go_wp2_with (go_at_call 10; refine (HMD.out p71 (xs0.length + 1) c71 W71).mono ?_; rintro e W72 ⟨rfl, hb72⟩)
            have b72 := Below.thru b71 hb72 (Nat.le_refl _)
            have kz72 := kz71.keep hb72
            have hf72 := hf71.keep hb72
            refine ⟨.inr b72, ?_⟩
            refine MT.one 8 false (by kernel_rfl) ?_
            dsimp only [opAt]
            have lz73 := lo68
            go_wp2_with (refine wpList_storeB (by rfl) 30 (.tmp 14) (.tmp 59) (by rfl) g68 #[.slice p71 (xs0.length + 1) c71, nilR 1, nilR 2, nilR 3, nilR 4, nilR 5, nilR 6] #[.slice none 0 0, .slice none 0 0, .slice none 0 0, .slice none 0 0, .slice none 0 0, .slice none 0 0, .slice none 0 0] 30 (by rfl) (by rfl) kz72 (by kernel_rfl) (by rfl) (by simp [Value.oneCell', nilR]) ?_; intro W73 k873 o73 z73)
            have b73 : Below w4.heap.size w4 W73 := b72.trans (o73.below b72.size (fun b hb => by rw [hb]; exact lz73))
            have hf73 := hf72.only o73 (fun b hb => nfz71 b hb) (fun _ h => h.elim)
            refine ⟨.inr b73, ?_⟩
            refine MT.fin (by kernel_rfl) ?_
            go_wp2
            go_meet
            case rel => exact ⟨_, _, _, rfl, k873, hf73.sl.any, b73⟩
        · dsimp only [opAt]
          go_wp2
          have b74 : Below w4.heap.size w4 (w4.alloc (.cells #[.slice none 0 0, .slice none 0 0, .slice none 0 0, .slice none 0 0, .slice none 0 0, .slice none 0 0, .slice none 0 0] 30)).drew := ((Below.refl _ _).alloc (Nat.le_refl _) _).drew
          have kn74 : Blk (w4.alloc (.cells #[.slice none 0 0, .slice none 0 0, .slice none 0 0, .slice none 0 0, .slice none 0 0, .slice none 0 0, .slice none 0 0] 30)).drew w4.heap.size #[.slice none 0 0, .slice none 0 0, .slice none 0 0, .slice none 0 0, .slice none 0 0, .slice none 0 0, .slice none 0 0] 30 := Blk.drew Blk.new
          have lo74 := (Below.refl w4.heap.size w4).size
          refine ⟨.inr b74, ?_⟩
          change MT _ _ _ _ _ _ _ _ _ (w4.alloc (.cells #[.slice none 0 0, .slice none 0 0, .slice none 0 0, .slice none 0 0, .slice none 0 0, .slice none 0 0, .slice none 0 0] 30)).drew
          generalize (w4.alloc (.cells #[.slice none 0 0, .slice none 0 0, .slice none 0 0, .slice none 0 0, .slice none 0 0, .slice none 0 0, .slice none 0 0] 30)).drew = W74 at *
          refine MT.two 0 4 false false (by kernel_rfl) ?_ ?_
          · dsimp only [opAt]
            go_wp2
            have b75 : Below w4.heap.size w4 (W74.alloc (.cells #[] 49)) := b74.alloc b74.size _
            have kn75 : Blk (W74.alloc (.cells #[] 49)) W74.heap.size #[] 49 := Blk.new
            have kz75 := kn74.keep (below_new W74 (.cells #[] 49))
            have nkz75 := kn74.lt
            have lo75 := b74.size
            refine ⟨.inr b75, ?_⟩
            change MT _ _ _ _ _ _ _ _ _ (W74.alloc (.cells #[] 49))
            generalize (W74.alloc (.cells #[] 49)) = W75 at *
            generalize W74.heap.size = g75 at *
            refine MT.two 2 4 false false (by kernel_rfl) ?_ ?_
            · dsimp only [opAt]
              go_wp2_with (at_builtin; refine wpList_app (R := EvE) (A := F0) (B := fun _ => True) (xs := []) (ys := xs0) (by rfl) (.tmp 53) (.tmp 54) 22 49 i0 zz0 40 (by rfl) Try.underlying22 J1.out J2.out J4.out J5.out J3.out w4.heap.size (.slice (some ⟨g75, 0, none⟩) 0 0) (.slice (some ⟨eb, eo, none⟩) xs0.length c0_) (by rfl) (by rfl) (own_new (by omega) kn75) (hx4.keep b75) (fun _ _ _ h => h) (by simp only [List.length_nil]; omega) (by decide) b75.size ?_; intro p76 c76 W76 hq76 hg76 hv76; simp only [List.nil_append] at hq76 ⊢)
              have b76 : Below w4.heap.size w4 W76 := b75.grown hg76 b75.size (fun b hb => by simp [Value.ownBlock] at hb; omega)
              have kz76 := kz75.grown hg76 (by simp [Value.ownBlock]; omega)
              have nqkz76 : ∀ b, (Value.slice p76 xs0.length c76).ownBlock = some b → b ≠ w4.heap.size := fun b hb e => by
                have l := kz75.lt
                simp only [List.nil_append] at hv76
                rcases hv76 with h | h <;> rw [h] at hb <;> simp [Value.ownBlock] at hb <;> omega
              refine ⟨.inr b76, ?_⟩
              refine MT.one 4 false (by kernel_rfl) ?_
              dsimp only [opAt]
              go_wp2
              have b77 : Below w4.heap.size w4 (W76.alloc (.cells #[.int .i64 x.th, .int .i64 x.kd, .int .i64 x.lc, .int .i64 x.vl, .bool x.aq, .bool x.rl, .bool x.ex] 49)) := b76.alloc b76.size _
              have kn77 : Blk (W76.alloc (.cells #[.int .i64 x.th, .int .i64 x.kd, .int .i64 x.lc, .int .i64 x.vl, .bool x.aq, .bool x.rl, .bool x.ex] 49)) W76.heap.size #[.int .i64 x.th, .int .i64 x.kd, .int .i64 x.lc, .int .i64 x.vl, .bool x.aq, .bool x.rl, .bool x.ex] 49 := Blk.new
              have kz77 := kz76.keep (below_new W76 (.cells #[.int .i64 x.th, .int .i64 x.kd, .int .i64 x.lc, .int .i64 x.vl, .bool x.aq, .bool x.rl, .bool x.ex] 49))
              have hq77 := hq76.keep (below_new W76 (.cells #[.int .i64 x.th, .int .i64 x.kd, .int .i64 x.lc, .int .i64 x.vl, .bool x.aq, .bool x.rl, .bool x.ex] 49))
              have nkz77 := kz76.lt
              have ohq77 := fun b hb => (hq76.lt b hb).2
              have lo77 := b76.size
              refine ⟨.inr b77, ?_⟩
              change MT _ _ _ _ _ _ _ _ _ (W76.alloc (.cells #[.int .i64 x.th, .int .i64 x.kd, .int .i64 x.lc, .int .i64 x.vl, .bool x.aq, .bool x.rl, .bool x.ex] 49))
              generalize (W76.alloc (.cells #[.int .i64 x.th, .int .i64 x.kd, .int .i64 x.lc, .int .i64 x.vl, .bool x.aq, .bool x.rl, .bool x.ex] 49)) = W77 at *
              generalize W76.heap.size = g77 at *
              refine MT.one 5 false (by kernel_rfl) ?_
              dsimp only [opAt]
              go_wp2_with (at_builtin; refine wpList_push (R := EvE) (xs := xs0) (x := x) (by rfl) (.tmp 55) (.tmp 57) 22 49 i0 zz0 40 (by rfl) Try.underlying22 J1.out J2.out J4.out J5.out J3.out w4.heap.size (.slice p76 xs0.length c76) g77 (by rfl) (by rfl) hq77 x.cells (fun _ _ => rfl) (fun _ _ _ _ _ h => h) (fun j u hj => (kn77.cell j).trans (by simpa [Ev.cells] using hj)) (by omega) (by decide) b77.size ?_; intro p78 c78 W78 hf78 hg78 hv78)
              have b78 : Below w4.heap.size w4 W78 := b77.grown hg78 b77.size (fun b hb => (hq77.lt b hb).1)
              have kz78 := kz77.grown hg78 (fun e => nqkz76 _ e.symm rfl)
              have nfz78 : ∀ b, (Value.slice p78 (xs0.length + 1) c78).ownBlock = some b → b ≠ w4.heap.size := fun b hb e => by
                have l := kz77.lt
                rcases hv78 with h | h
                · rw [h] at hb; exact nqkz76 b hb e
                · rw [h] at hb; injection hb with hb; omega
              refine ⟨.inr b78, ?_⟩
              refine MT.one 6 false (by kernel_rfl) ?_
              dsimp only [opAt]
              go_wp2_with (go_at_call 10; refine (HMD.out p78 (xs0.length + 1) c78 W78).mono ?_; rintro e W79 ⟨rfl, hb79⟩)
              have b79 := Below.thru b78 hb79 (Nat.le_refl _)
              have kz79 := kz78.keep hb79
              have hf79 := hf78.keep hb79
              refine ⟨.inr b79, ?_⟩
              refine MT.one 8 false (by kernel_rfl) ?_
              dsimp only [opAt]
              have lz80 := lo74
              go_wp2_with (refine wpList_storeB (by rfl) 30 (.tmp 14) (.tmp 59) (by rfl) w4.heap.size #[.slice p78 (xs0.length + 1) c78, nilR 1, nilR 2, nilR 3, nilR 4, nilR 5, nilR 6] #[.slice none 0 0, .slice none 0 0, .slice none 0 0, .slice none 0 0, .slice none 0 0, .slice none 0 0, .slice none 0 0] 30 (by rfl) (by rfl) kz79 (by kernel_rfl) (by rfl) (by simp [Value.oneCell', nilR]) ?_; intro W80 k880 o80 z80)
              have b80 : Below w4.heap.size w4 W80 := b79.trans (o80.below b79.size (fun b hb => by rw [hb]; exact lz80))
              have hf80 := hf79.only o80 (fun b hb => nfz78 b hb) (fun _ h => h.elim)
              refine ⟨.inr b80, ?_⟩
              refine MT.fin (by kernel_rfl) ?_
              go_wp2
              go_meet
              case rel => exact ⟨_, _, _, rfl, k880, hf80.sl.any, b80⟩
            · dsimp only [opAt]
              go_wp2
              have b81 : Below w4.heap.size w4 (W75.alloc (.cells #[.int .i64 x.th, .int .i64 x.kd, .int .i64 x.lc, .int .i64 x.vl, .bool x.aq, .bool x.rl, .bool x.ex] 49)) := b75.alloc b75.size _
              have kn81 : Blk (W75.alloc (.cells #[.int .i64 x.th, .int .i64 x.kd, .int .i64 x.lc, .int .i64 x.vl, .bool x.aq, .bool x.rl, .bool x.ex] 49)) W75.heap.size #[.int .i64 x.th, .int .i64 x.kd, .int .i64 x.lc, .int .i64 x.vl, .bool x.aq, .bool x.rl, .bool x.ex] 49 := Blk.new
              have ke81 := kn75.keep (below_new W75 (.cells #[.int .i64 x.th, .int .i64 x.kd, .int .i64 x.lc, .int .i64 x.vl, .bool x.aq, .bool x.rl, .bool x.ex] 49))
              have kz81 := kz75.keep (below_new W75 (.cells #[.int .i64 x.th, .int .i64 x.kd, .int .i64 x.lc, .int .i64 x.vl, .bool x.aq, .bool x.rl, .bool x.ex] 49))
              have nke81 := kn75.lt
              have nkz81 := kz75.lt
              have lo81 := b75.size
              refine ⟨.inr b81, ?_⟩
              change MT _ _ _ _ _ _ _ _ _ (W75.alloc (.cells #[.int .i64 x.th, .int .i64 x.kd, .int .i64 x.lc, .int .i64 x.vl, .bool x.aq, .bool x.rl, .bool x.ex] 49))
              generalize (W75.alloc (.cells #[.int .i64 x.th, .int .i64 x.kd, .int .i64 x.lc, .int .i64 x.vl, .bool x.aq, .bool x.rl, .bool x.ex] 49)) = W81 at *
              generalize W75.heap.size = g81 at *
              refine MT.one 2 false (by kernel_rfl) ?_
              dsimp only [opAt]
              go_wp2_with (at_builtin; refine wpList_app (R := EvE) (A := F0) (B := fun _ => True) (xs := []) (ys := xs0) (by rfl) (.tmp 53) (.tmp 54) 22 49 i0 zz0 40 (by rfl) Try.underlying22 J1.out J2.out J4.out J5.out J3.out w4.heap.size (.slice (some ⟨g75, 0, none⟩) 0 0) (.slice (some ⟨eb, eo, none⟩) xs0.length c0_) (by rfl) (by rfl) (own_new (by omega) ke81) (hx4.keep b81) (fun _ _ _ h => h) (by simp only [List.length_nil]; omega) (by decide) b81.size ?_; intro p82 c82 W82 hq82 hg82 hv82; simp only [List.nil_append] at hq82 ⊢)
              have b82 : Below w4.heap.size w4 W82 := b81.grown hg82 b81.size (fun b hb => by simp [Value.ownBlock] at hb; omega)
              have kx82 := kn81.grown hg82 (by simp [Value.ownBlock]; omega)
              have nqkx82 : ∀ b, (Value.slice p82 xs0.length c82).ownBlock = some b → b ≠ g81 := fun b hb e => by
                have l := kn81.lt
                simp only [List.nil_append] at hv82
                rcases hv82 with h | h <;> rw [h] at hb <;> simp [Value.ownBlock] at hb <;> omega
              have kz82 := kz81.grown hg82 (by simp [Value.ownBlock]; omega)
              have nqkz82 : ∀ b, (Value.slice p82 xs0.length c82).ownBlock = some b → b ≠ w4.heap.size := fun b hb e => by
                have l := kz81.lt
                simp only [List.nil_append] at hv82
                rcases hv82 with h | h <;> rw [h] at hb <;> simp [Value.ownBlock] at hb <;> omega
              refine ⟨.inr b82, ?_⟩
              refine MT.one 5 false (by kernel_rfl) ?_
              dsimp only [opAt]
              go_wp2_with (at_builtin; refine wpList_push (R := EvE) (xs := xs0) (x := x) (by rfl) (.tmp 55) (.tmp 57) 22 49 i0 zz0 40 (by rfl) Try.underlying22 J1.out J2.out J4.out J5.out J3.out w4.heap.size (.slice p82 xs0.length c82) g81 (by rfl) (by rfl) hq82 x.cells (fun _ _ => rfl) (fun _ _ _ _ _ h => h) (fun j u hj => (kx82.cell j).trans (by simpa [Ev.cells] using hj)) (by omega) (by decide) b82.size ?_; intro p83 c83 W83 hf83 hg83 hv83)
              have b83 : Below w4.heap.size w4 W83 := b82.grown hg83 b82.size (fun b hb => (hq82.lt b hb).1)
              have kz83 := kz82.grown hg83 (fun e => nqkz82 _ e.symm rfl)
              have nfz83 : ∀ b, (Value.slice p83 (xs0.length + 1) c83).ownBlock = some b → b ≠ w4.heap.size := fun b hb e => by
                have l := kz82.lt
                rcases hv83 with h | h
                · rw [h] at hb; exact nqkz82 b hb e
                · rw [h] at hb; injection hb with hb; omega
              refine ⟨.inr b83, ?_⟩
              refine MT.one 6 false (by kernel_rfl) ?_
              dsimp only [opAt]
              go_wp2_with (go_at_call 10; refine (HMD.out p83 (xs0.length + 1) c83 W83).mono ?_; rintro e W84 ⟨rfl, hb84⟩)
              have b84 := Below.thru b83 hb84 (Nat.le_refl _)
              have kz84 := kz83.keep hb84
              have hf84 := hf83.keep hb84
              refine ⟨.inr b84, ?_⟩
              refine MT.one 8 false (by kernel_rfl) ?_
              dsimp only [opAt]
              have lz85 := lo74
              go_wp2_with (refine wpList_storeB (by rfl) 30 (.tmp 14) (.tmp 59) (by rfl) w4.heap.size #[.slice p83 (xs0.length + 1) c83, nilR 1, nilR 2, nilR 3, nilR 4, nilR 5, nilR 6] #[.slice none 0 0, .slice none 0 0, .slice none 0 0, .slice none 0 0, .slice none 0 0, .slice none 0 0, .slice none 0 0] 30 (by rfl) (by rfl) kz84 (by kernel_rfl) (by rfl) (by simp [Value.oneCell', nilR]) ?_; intro W85 k885 o85 z85)
              have b85 : Below w4.heap.size w4 W85 := b84.trans (o85.below b84.size (fun b hb => by rw [hb]; exact lz85))
              have hf85 := hf84.only o85 (fun b hb => nfz83 b hb) (fun _ h => h.elim)
              refine ⟨.inr b85, ?_⟩
              refine MT.fin (by kernel_rfl) ?_
              go_wp2
              go_meet
              case rel => exact ⟨_, _, _, rfl, k885, hf85.sl.any, b85⟩
          · dsimp only [opAt]
            go_wp2
            have b86 : Below w4.heap.size w4 (W74.alloc (.cells #[.int .i64 x.th, .int .i64 x.kd, .int .i64 x.lc, .int .i64 x.vl, .bool x.aq, .bool x.rl, .bool x.ex] 49)) := b74.alloc b74.size _
            have kn86 : Blk (W74.alloc (.cells #[.int .i64 x.th, .int .i64 x.kd, .int .i64 x.lc, .int .i64 x.vl, .bool x.aq, .bool x.rl, .bool x.ex] 49)) W74.heap.size #[.int .i64 x.th, .int .i64 x.kd, .int .i64 x.lc, .int .i64 x.vl, .bool x.aq, .bool x.rl, .bool x.ex] 49 := Blk.new
            have kz86 := kn74.keep (below_new W74 (.cells #[.int .i64 x.th, .int .i64 x.kd, .int .i64 x.lc, .int .i64 x.vl, .bool x.aq, .bool x.rl, .bool x.ex] 49))
            have nkz86 := kn74.lt
            have lo86 := b74.size
            refine ⟨.inr b86, ?_⟩
            change MT _ _ _ _ _ _ _ _ _ (W74.alloc (.cells #[.int .i64 x.th, .int .i64 x.kd, .int .i64 x.lc, .int .i64 x.vl, .bool x.aq, .bool x.rl, .bool x.ex] 49))
            generalize (W74.alloc (.cells #[.int .i64 x.th, .int .i64 x.kd, .int .i64 x.lc, .int .i64 x.vl, .bool x.aq, .bool x.rl, .bool x.ex] 49)) = W86 at *
            generalize W74.heap.size = g86 at *
            refine MT.one 0 false (by kernel_rfl) ?_
            dsimp only [opAt]
            go_wp2
            have b87 : Below w4.heap.size w4 (W86.alloc (.cells #[] 49)) := b86.alloc b86.size _
            have kn87 : Blk (W86.alloc (.cells #[] 49)) W86.heap.size #[] 49 := Blk.new
            have kx87 := kn86.keep (below_new W86 (.cells #[] 49))
            have kz87 := kz86.keep (below_new W86 (.cells #[] 49))
            have nkx87 := kn86.lt
            have nkz87 := kz86.lt
            have lo87 := b86.size
            refine ⟨.inr b87, ?_⟩
            change MT _ _ _ _ _ _ _ _ _ (W86.alloc (.cells #[] 49))
            generalize (W86.alloc (.cells #[] 49)) = W87 at *
            generalize W86.heap.size = g87 at *
            refine MT.one 2 false (by kernel_rfl) ?_
            dsimp only [opAt]
            go_wp2_with (at_builtin; refine wpList_app (R := EvE) (A := F0) (B := fun _ => True) (xs := []) (ys := xs0) (by rfl) (.tmp 53) (.tmp 54) 22 49 i0 zz0 40 (by rfl) Try.underlying22 J1.out J2.out J4.out J5.out J3.out w4.heap.size (.slice (some ⟨g87, 0, none⟩) 0 0) (.slice (some ⟨eb, eo, none⟩) xs0.length c0_) (by rfl) (by rfl) (own_new (by omega) kn87) (hx4.keep b87) (fun _ _ _ h => h) (by simp only [List.length_nil]; omega) (by decide) b87.size ?_; intro p88 c88 W88 hq88 hg88 hv88; simp only [List.nil_append] at hq88 ⊢)
            have b88 : Below w4.heap.size w4 W88 := b87.grown hg88 b87.size (fun b hb => by simp [Value.ownBlock] at hb; omega)
            have kx88 := kx87.grown hg88 (by simp [Value.ownBlock]; omega)
            have nqkx88 : ∀ b, (Value.slice p88 xs0.length c88).ownBlock = some b → b ≠ g86 := fun b hb e => by
              have l := kx87.lt
              simp only [List.nil_append] at hv88
              rcases hv88 with h | h <;> rw [h] at hb <;> simp [Value.ownBlock] at hb <;> omega
            have kz88 := kz87.grown hg88 (by simp [Value.ownBlock]; omega)
            have nqkz88 : ∀ b, (Value.slice p88 xs0.length c88).ownBlock = some b → b ≠ w4.heap.size := fun b hb e => by
              have l := kz87.lt
              simp only [List.nil_append] at hv88
              rcases hv88 with h | h <;> rw [h] at hb <;> simp [Value.ownBlock] at hb <;> omega
            refine ⟨.inr b88, ?_⟩
            refine MT.one 5 false (by kernel_rfl) ?_
            dsimp only [opAt]
            go_wp2_with (at_builtin; refine wpList_push (R := EvE) (xs := xs0) (x := x) (by rfl) (.tmp 55) (.tmp 57) 22 49 i0 zz0 40 (by rfl) Try.underlying22 J1.out J2.out J4.out J5.out J3.out w4.heap.size (.slice p88 xs0.length c88) g86 (by rfl) (by rfl) hq88 x.cells (fun _ _ => rfl) (fun _ _ _ _ _ h => h) (fun j u hj => (kx88.cell j).trans (by simpa [Ev.cells] using hj)) (by omega) (by decide) b88.size ?_; intro p89 c89 W89 hf89 hg89 hv89)
            have b89 : Below w4.heap.size w4 W89 := b88.grown hg89 b88.size (fun b hb => (hq88.lt b hb).1)
            have kz89 := kz88.grown hg89 (fun e => nqkz88 _ e.symm rfl)
            have nfz89 : ∀ b, (Value.slice p89 (xs0.length + 1) c89).ownBlock = some b → b ≠ w4.heap.size := fun b hb e => by
              have l := kz88.lt
              rcases hv89 with h | h
              · rw [h] at hb; exact nqkz88 b hb e
              · rw [h] at hb; injection hb with hb; omega
            refine ⟨.inr b89, ?_⟩
            refine MT.one 6 false (by kernel_rfl) ?_
            dsimp only [opAt]
            go_wp2_with (go_at_call 10; refine (HMD.out p89 (xs0.length + 1) c89 W89).mono ?_; rintro e W90 ⟨rfl, hb90⟩)
            have b90 := Below.thru b89 hb90 (Nat.le_refl _)
            have kz90 := kz89.keep hb90
            have hf90 := hf89.keep hb90
            refine ⟨.inr b90, ?_⟩
            refine MT.one 8 false (by kernel_rfl) ?_
            dsimp only [opAt]
            have lz91 := lo74
            go_wp2_with (refine wpList_storeB (by rfl) 30 (.tmp 14) (.tmp 59) (by rfl) w4.heap.size #[.slice p89 (xs0.length + 1) c89, nilR 1, nilR 2, nilR 3, nilR 4, nilR 5, nilR 6] #[.slice none 0 0, .slice none 0 0, .slice none 0 0, .slice none 0 0, .slice none 0 0, .slice none 0 0, .slice none 0 0] 30 (by rfl) (by rfl) kz90 (by kernel_rfl) (by rfl) (by simp [Value.oneCell', nilR]) ?_; intro W91 k891 o91 z91)
            have b91 : Below w4.heap.size w4 W91 := b90.trans (o91.below b90.size (fun b hb => by rw [hb]; exact lz91))
            have hf91 := hf90.only o91 (fun b hb => nfz89 b hb) (fun _ h => h.elim)
            refine ⟨.inr b91, ?_⟩
            refine MT.fin (by kernel_rfl) ?_
            go_wp2
            go_meet
            case rel => exact ⟨_, _, _, rfl, k891, hf91.sl.any, b91⟩
      case rest =>
        obtain ⟨g14, p6, c6, rfl, k14, hE6, hb9⟩ := hcut
        have B9 := Below.thru B4 hb9 (Nat.le_refl _)
        have k13 := k4.keep hb9
        have kx9 := kx4.keep hb9
        have HM1 : Hid _ := fun (rd : Int) W (hB : Below wc.heap.size wc W) => May_any (.slice (some ⟨eb, eo, none⟩) xs0.length c0_) nilR (some ⟨eb, eo, none⟩) q1_ c0_ c1_ xs0 xs1 rd W rfl ((hx0.keep B9).keep hB) ((hx1.keep B9).keep hB) (by omega)
        have HM2 : Hid _ := fun (rd : Int) W (hB : Below wc.heap.size wc W) => May_any (.slice p6 (xs0 ++ [x]).length c6) nilR p6 q1_ c6 c1_ (xs0 ++ [x]) xs1 rd W rfl (by rw [show (xs0 ++ [x]).length = xs0.length + 1 by simp]; exact hE6.keep hB) ((hx1.keep B9).keep hB) (by rw [List.length_append]; simp; omega)
        rw [show (xs0 ++ [x]).length = xs0.length + 1 by simp] at HM2
        obtain ⟨t0, t1, t2, t3, t4, t5, t6⟩ := ex_cells k13
        obtain ⟨v0, v1, v2, v3, v4, v5, v6⟩ := ex_cells k14
        have lt := k13.lt
        have lv := k14.lt
        clear s0 s1 s2 s3 s4 s5 s6 ls hx4 k4 kx4 hmod htm hmod2 htm2
        have hmz := List.getElem?_eq_getElem hm
        have gm := (ev_at hx0).2 m hm
        generalize xs0[m] = z at *
        have hm' : (m : Int) < (xs0.length : Int) := by omega
        have hal : ∀ rd, (mayZ xs0 xs1 rd).length ≤ 100 := fun rd => by
          unfold mayZ
          split
          · split
            · split
              · rename_i u _ _; have := mayE_len xs0 xs1 u; omega
              · simp
            · simp
          · simp
        have hak := hal (k : Int)
        have ham := hal (m : Int)
        have hbk := more_may (init := xs1) hky x
        have hbm := more_may (init := xs1) hmz x
        have hxk : isW y.lc y.vl x = true := by rw [HX.out]; unfold isW; simp
        have hxz : isW z.lc z.vl x = ((z.lc == x.lc) && (z.vl == x.vl)) := by
          rw [HX.out]
          unfold isW
          simp only [beq_self_eq_true, Bool.true_and]
          rw [Bool.eq_iff_iff]
          simp only [Bool.and_eq_true, beq_iff_eq]; exact ⟨fun h => ⟨h.1.symm, h.2.symm⟩, fun h => ⟨h.1.symm, h.2.symm⟩⟩
        rw [hxk, Bool.and_true] at hbk
        rw [hxz] at hbm
        have hM1k := HM1.out (k : Int)
        have hM2k := HM2.out (k : Int)
        have hM1m := HM1.out (m : Int)
        have hM2m := HM2.out (m : Int)
        clear hal hxk hxz HM1 HM2 hky hmz
        generalize mayZ xs0 xs1 (k : Int) = a at *
        generalize mayZ xs0 xs1 (m : Int) = cc at *
        generalize mayZ (xs0 ++ [x]) xs1 (k : Int) = b at *
        generalize mayZ (xs0 ++ [x]) xs1 (m : Int) = d at *
        obtain ⟨mb, mo, me, m0, m1, m2, m3, m4, m5, m6⟩ := gm
        simp only [Option.some.injEq, Addr.mk.injEq, and_true] at me
        obtain ⟨rfl, rfl⟩ := me
        by_cases hyk : y.kd = 1
        · have y1 : (y.kd == 1) = true := by simp [hyk]
          rw [y1, if_pos rfl] at hbk
          have HBK : Hid _ := hbk
          clear hyk hbk
          have hw1 : wrap64 (((a.length + 1 : Nat) : Int) - 1) = (a.length : Int) := by unfold wrap64; omega
          have hw2 : wrap64 ((a.length : Int) + 1 - 1) = (a.length : Int) := by unfold wrap64; omega
          by_cases z1 : z.kd = 1
          · have z1' : (z.kd == 1) = true := by simp [z1]
            rw [z1', Bool.true_and] at hbm
            clear z1
            by_cases z2 : z.lc = x.lc
            · have z2' : (z.lc == x.lc) = true := by simp [z2]
              rw [z2', Bool.true_and] at hbm
              clear z2
              by_cases z3 : z.vl = x.vl
              · have z3' : (z.vl == x.vl) = true := by simp [z3]
                rw [z3', if_pos rfl] at hbm
                clear z3
                have HBM : Hid _ := hbm
                clear hbm
                have HM1K : Hid _ := hM1k
                have HM2K : Hid _ := hM2k
                have HM1M : Hid _ := hM1m
                have HM2M : Hid _ := hM2m
                clear hM1k hM2k hM1m hM2m
                have F1 := trivial
                go_upto_region 12 with (first
                  | (go_at_call 13; clear F1; refine (HM1K.out wc (Below.refl _ _)).mono ?_; rintro e w5 ⟨va, rfl, hVa, hba⟩; obtain ⟨pa, ca, rfl⟩ := hVa.len; have C5 := hba; replace t0 := cell_keep t0 hba; replace t1 := cell_keep t1 hba; replace t2 := cell_keep t2 hba; replace t3 := cell_keep t3 hba; replace t4 := cell_keep t4 hba; replace t5 := cell_keep t5 hba; replace t6 := cell_keep t6 hba; replace v0 := cell_keep v0 hba; replace v1 := cell_keep v1 hba; replace v2 := cell_keep v2 hba; replace v3 := cell_keep v3 hba; replace v4 := cell_keep v4 hba; replace v5 := cell_keep v5 hba; replace v6 := cell_keep v6 hba; replace lt := cell_lt t0; replace lv := cell_lt v0; have F2 := trivial)
                  | (go_at_call 13; clear F2; refine (HM2K.out w5 C5).mono ?_; rintro e w6 ⟨vb, rfl, hVb, hbb⟩; obtain ⟨pb, cb, rfl⟩ := hVb.len; have C6 := Below.thru C5 hbb (Nat.le_refl _); replace t0 := cell_keep t0 hbb; replace t1 := cell_keep t1 hbb; replace t2 := cell_keep t2 hbb; replace t3 := cell_keep t3 hbb; replace t4 := cell_keep t4 hbb; replace t5 := cell_keep t5 hbb; replace t6 := cell_keep t6 hbb; replace v0 := cell_keep v0 hbb; replace v1 := cell_keep v1 hbb; replace v2 := cell_keep v2 hbb; replace v3 := cell_keep v3 hbb; replace v4 := cell_keep v4 hbb; replace v5 := cell_keep v5 hbb; replace v6 := cell_keep v6 hbb; replace lt := cell_lt t0; replace lv := cell_lt v0; have F3 := trivial)
                  | (go_at_call 13; clear F3; refine (HM1M.out w6 C6).mono ?_; rintro e w7 ⟨vc, rfl, hVc, hbc⟩; obtain ⟨pc, cd, rfl⟩ := hVc.len; have C7 := Below.thru C6 hbc (Nat.le_refl _); replace t0 := cell_keep t0 hbc; replace t1 := cell_keep t1 hbc; replace t2 := cell_keep t2 hbc; replace t3 := cell_keep t3 hbc; replace t4 := cell_keep t4 hbc; replace t5 := cell_keep t5 hbc; replace t6 := cell_keep t6 hbc; replace v0 := cell_keep v0 hbc; replace v1 := cell_keep v1 hbc; replace v2 := cell_keep v2 hbc; replace v3 := cell_keep v3 hbc; replace v4 := cell_keep v4 hbc; replace v5 := cell_keep v5 hbc; replace v6 := cell_keep v6 hbc; replace lt := cell_lt t0; replace lv := cell_lt v0; have F4 := trivial))
                go_upto_region 13 with (go_at_call 13; clear F4; refine (HM2M.out w7 C7).mono ?_; rintro e w8 ⟨vd, rfl, hVd, hbd⟩; obtain ⟨pd, ce, rfl⟩ := hVd.len; have F5 := trivial)
                clear F5
                clear HM1K HM2K HM1M HM2M HMD
                have C8 := Below.thru C7 hbd (Nat.le_refl _)
                have E8 := Below.thru B9 C8 (Nat.le_refl _)
                have r1 := cell_keep g1 E8
                have lr := cell_lt r1
                have n1 := cell_keep m1 E8
                have n2_ := cell_keep m2 E8
                have n3_ := cell_keep m3 E8
                have ln := cell_lt n1
                obtain ⟨s0, s1, s2, s3, s4, s5, s6⟩ := ev_cells (kx9.keep C8)
                have ls := (kx9.keep C8).lt
                have hVb8 := (hVb.keep hbc).keep hbd
                have hVc8 := hVc.keep hbd
                clear t0 t1 t2 t3 t4 t5 t6 v0 v1 v2 v3 v4 v5 v6 lt lv hVb hVc
                obtain ⟨bb, bo, rfl, hbl⟩ := (ints_at hVb8).2 a.length (by rw [HBK.out]; simp)
                have hbl2 : w8.cell? ⟨bb, bo + a.length, none⟩ = some (.int .i64 (xs0.length : Int)) := by rw [hbl]; simp [HBK.out]
                have lbl := cell_lt hbl2
                have hbn : b.length = a.length + 1 := by rw [HBK.out]; simp
                rw [hbn]
                clear hbl
                go_wp2
                refine wp_region_ext (by kernel_rfl) (by kernel_rfl) ?_
                repeat (go_big_quiet_step (fail))
                refine wpQuiet_nil ?_
                rintro _ ⟨rr, rfl⟩
                have b9 := rr.ok
                generalize rr.wd = w9 at *
                have hdn : d.length = cc.length + 1 := by rw [HBM.out]; simp
                rw [hdn]
                have dge : decide (cc.length ≤ cc.length + 1) = true := decide_eq_true (by omega)
                have dge2 : decide ((cc.length : Int) ≤ ((cc.length + 1 : Nat) : Int)) = true := decide_eq_true (by omega)
                have dge3 : decide ((cc.length : Int) ≤ (cc.length : Int) + 1) = true := decide_eq_true (by omega)
                go_wp2
                go_ret
                exact ⟨rfl, Below.thru E8 b9 (Nat.le_refl _)⟩
              · have z3' : (z.vl == x.vl) = false := by simp [z3]
                rw [z3', if_neg (by simp), List.append_nil] at hbm
                have HBM : Hid _ := hbm
                clear z3 hbm
                have HM1K : Hid _ := hM1k
                have HM2K : Hid _ := hM2k
                have HM1M : Hid _ := hM1m
                have HM2M : Hid _ := hM2m
                clear hM1k hM2k hM1m hM2m
                have F1 := trivial
                go_upto_region 12 with (first
                  | (go_at_call 13; clear F1; refine (HM1K.out wc (Below.refl _ _)).mono ?_; rintro e w5 ⟨va, rfl, hVa, hba⟩; obtain ⟨pa, ca, rfl⟩ := hVa.len; have C5 := hba; replace t0 := cell_keep t0 hba; replace t1 := cell_keep t1 hba; replace t2 := cell_keep t2 hba; replace t3 := cell_keep t3 hba; replace t4 := cell_keep t4 hba; replace t5 := cell_keep t5 hba; replace t6 := cell_keep t6 hba; replace v0 := cell_keep v0 hba; replace v1 := cell_keep v1 hba; replace v2 := cell_keep v2 hba; replace v3 := cell_keep v3 hba; replace v4 := cell_keep v4 hba; replace v5 := cell_keep v5 hba; replace v6 := cell_keep v6 hba; replace lt := cell_lt t0; replace lv := cell_lt v0; have F2 := trivial)
                  | (go_at_call 13; clear F2; refine (HM2K.out w5 C5).mono ?_; rintro e w6 ⟨vb, rfl, hVb, hbb⟩; obtain ⟨pb, cb, rfl⟩ := hVb.len; have C6 := Below.thru C5 hbb (Nat.le_refl _); replace t0 := cell_keep t0 hbb; replace t1 := cell_keep t1 hbb; replace t2 := cell_keep t2 hbb; replace t3 := cell_keep t3 hbb; replace t4 := cell_keep t4 hbb; replace t5 := cell_keep t5 hbb; replace t6 := cell_keep t6 hbb; replace v0 := cell_keep v0 hbb; replace v1 := cell_keep v1 hbb; replace v2 := cell_keep v2 hbb; replace v3 := cell_keep v3 hbb; replace v4 := cell_keep v4 hbb; replace v5 := cell_keep v5 hbb; replace v6 := cell_keep v6 hbb; replace lt := cell_lt t0; replace lv := cell_lt v0; have F3 := trivial)
                  | (go_at_call 13; clear F3; refine (HM1M.out w6 C6).mono ?_; rintro e w7 ⟨vc, rfl, hVc, hbc⟩; obtain ⟨pc, cd, rfl⟩ := hVc.len; have C7 := Below.thru C6 hbc (Nat.le_refl _); replace t0 := cell_keep t0 hbc; replace t1 := cell_keep t1 hbc; replace t2 := cell_keep t2 hbc; replace t3 := cell_keep t3 hbc; replace t4 := cell_keep t4 hbc; replace t5 := cell_keep t5 hbc; replace t6 := cell_keep t6 hbc; replace v0 := cell_keep v0 hbc; replace v1 := cell_keep v1 hbc; replace v2 := cell_keep v2 hbc; replace v3 := cell_keep v3 hbc; replace v4 := cell_keep v4 hbc; replace v5 := cell_keep v5 hbc; replace v6 := cell_keep v6 hbc; replace lt := cell_lt t0; replace lv := cell_lt v0; have F4 := trivial))
                go_upto_region 13 with (go_at_call 13; clear F4; refine (HM2M.out w7 C7).mono ?_; rintro e w8 ⟨vd, rfl, hVd, hbd⟩; obtain ⟨pd, ce, rfl⟩ := hVd.len; have F5 := trivial)
                clear F5
                clear HM1K HM2K HM1M HM2M HMD
                have C8 := Below.thru C7 hbd (Nat.le_refl _)
                have E8 := Below.thru B9 C8 (Nat.le_refl _)
                have r1 := cell_keep g1 E8
                have lr := cell_lt r1
                have n1 := cell_keep m1 E8
                have n2_ := cell_keep m2 E8
                have n3_ := cell_keep m3 E8
                have ln := cell_lt n1
                obtain ⟨s0, s1, s2, s3, s4, s5, s6⟩ := ev_cells (kx9.keep C8)
                have ls := (kx9.keep C8).lt
                have hVb8 := (hVb.keep hbc).keep hbd
                have hVc8 := hVc.keep hbd
                clear t0 t1 t2 t3 t4 t5 t6 v0 v1 v2 v3 v4 v5 v6 lt lv hVb hVc
                obtain ⟨bb, bo, rfl, hbl⟩ := (ints_at hVb8).2 a.length (by rw [HBK.out]; simp)
                have hbl2 : w8.cell? ⟨bb, bo + a.length, none⟩ = some (.int .i64 (xs0.length : Int)) := by rw [hbl]; simp [HBK.out]
                have lbl := cell_lt hbl2
                have hbn : b.length = a.length + 1 := by rw [HBK.out]; simp
                rw [hbn]
                clear hbl
                go_wp2
                refine wp_region_ext (by kernel_rfl) (by kernel_rfl) ?_
                repeat (go_big_quiet_step (fail))
                refine wpQuiet_nil ?_
                rintro _ ⟨rr, rfl⟩
                have b9 := rr.ok
                generalize rr.wd = w9 at *
                have CI := Ints_int pc pd cd ce cc d w9 (hVc8.keep b9) (hVd.keep b9) (by omega)
                rw [decide_eq_true HBM.out.symm] at CI
                have hdn : d.length = cc.length := by rw [HBM.out]
                have HDN : Hid _ := hdn
                have dge : decide (cc.length ≤ d.length) = true := decide_eq_true (by omega)
                have dge2 : decide ((cc.length : Int) ≤ (d.length : Int)) = true := decide_eq_true (by omega)
                clear hdn
                go_wp2_with (go_at_call 12; refine CI.mono ?_; clear CI; rintro e wz ⟨rfl, hbz⟩)
                go_ret
                exact ⟨rfl, Below.thru (Below.thru E8 b9 (Nat.le_refl _)) hbz (Nat.le_refl _)⟩
            · have z2' : (z.lc == x.lc) = false := by simp [z2]
              rw [z2', Bool.false_and, if_neg (by simp), List.append_nil] at hbm
              have HBM : Hid _ := hbm
              clear z2 hbm
              have HM1K : Hid _ := hM1k
              have HM2K : Hid _ := hM2k
              have HM1M : Hid _ := hM1m
              have HM2M : Hid _ := hM2m
              clear hM1k hM2k hM1m hM2m
              have F1 := trivial
              go_upto_region 12 with (first
                | (go_at_call 13; clear F1; refine (HM1K.out wc (Below.refl _ _)).mono ?_; rintro e w5 ⟨va, rfl, hVa, hba⟩; obtain ⟨pa, ca, rfl⟩ := hVa.len; have C5 := hba; replace t0 := cell_keep t0 hba; replace t1 := cell_keep t1 hba; replace t2 := cell_keep t2 hba; replace t3 := cell_keep t3 hba; replace t4 := cell_keep t4 hba; replace t5 := cell_keep t5 hba; replace t6 := cell_keep t6 hba; replace v0 := cell_keep v0 hba; replace v1 := cell_keep v1 hba; replace v2 := cell_keep v2 hba; replace v3 := cell_keep v3 hba; replace v4 := cell_keep v4 hba; replace v5 := cell_keep v5 hba; replace v6 := cell_keep v6 hba; replace lt := cell_lt t0; replace lv := cell_lt v0; have F2 := trivial)
                | (go_at_call 13; clear F2; refine (HM2K.out w5 C5).mono ?_; rintro e w6 ⟨vb, rfl, hVb, hbb⟩; obtain ⟨pb, cb, rfl⟩ := hVb.len; have C6 := Below.thru C5 hbb (Nat.le_refl _); replace t0 := cell_keep t0 hbb; replace t1 := cell_keep t1 hbb; replace t2 := cell_keep t2 hbb; replace t3 := cell_keep t3 hbb; replace t4 := cell_keep t4 hbb; replace t5 := cell_keep t5 hbb; replace t6 := cell_keep t6 hbb; replace v0 := cell_keep v0 hbb; replace v1 := cell_keep v1 hbb; replace v2 := cell_keep v2 hbb; replace v3 := cell_keep v3 hbb; replace v4 := cell_keep v4 hbb; replace v5 := cell_keep v5 hbb; replace v6 := cell_keep v6 hbb; replace lt := cell_lt t0; replace lv := cell_lt v0; have F3 := trivial)
                | (go_at_call 13; clear F3; refine (HM1M.out w6 C6).mono ?_; rintro e w7 ⟨vc, rfl, hVc, hbc⟩; obtain ⟨pc, cd, rfl⟩ := hVc.len; have C7 := Below.thru C6 hbc (Nat.le_refl _); replace t0 := cell_keep t0 hbc; replace t1 := cell_keep t1 hbc; replace t2 := cell_keep t2 hbc; replace t3 := cell_keep t3 hbc; replace t4 := cell_keep t4 hbc; replace t5 := cell_keep t5 hbc; replace t6 := cell_keep t6 hbc; replace v0 := cell_keep v0 hbc; replace v1 := cell_keep v1 hbc; replace v2 := cell_keep v2 hbc; replace v3 := cell_keep v3 hbc; replace v4 := cell_keep v4 hbc; replace v5 := cell_keep v5 hbc; replace v6 := cell_keep v6 hbc; replace lt := cell_lt t0; replace lv := cell_lt v0; have F4 := trivial))
              go_upto_region 13 with (go_at_call 13; clear F4; refine (HM2M.out w7 C7).mono ?_; rintro e w8 ⟨vd, rfl, hVd, hbd⟩; obtain ⟨pd, ce, rfl⟩ := hVd.len; have F5 := trivial)
              clear F5
              clear HM1K HM2K HM1M HM2M HMD
              have C8 := Below.thru C7 hbd (Nat.le_refl _)
              have E8 := Below.thru B9 C8 (Nat.le_refl _)
              have r1 := cell_keep g1 E8
              have lr := cell_lt r1
              have n1 := cell_keep m1 E8
              have n2_ := cell_keep m2 E8
              have n3_ := cell_keep m3 E8
              have ln := cell_lt n1
              obtain ⟨s0, s1, s2, s3, s4, s5, s6⟩ := ev_cells (kx9.keep C8)
              have ls := (kx9.keep C8).lt
              have hVb8 := (hVb.keep hbc).keep hbd
              have hVc8 := hVc.keep hbd
              clear t0 t1 t2 t3 t4 t5 t6 v0 v1 v2 v3 v4 v5 v6 lt lv hVb hVc
              obtain ⟨bb, bo, rfl, hbl⟩ := (ints_at hVb8).2 a.length (by rw [HBK.out]; simp)
              have hbl2 : w8.cell? ⟨bb, bo + a.length, none⟩ = some (.int .i64 (xs0.length : Int)) := by rw [hbl]; simp [HBK.out]
              have lbl := cell_lt hbl2
              have hbn : b.length = a.length + 1 := by rw [HBK.out]; simp
              rw [hbn]
              clear hbl
              go_wp2
              refine wp_region_ext (by kernel_rfl) (by kernel_rfl) ?_
              repeat (go_big_quiet_step (fail))
              refine wpQuiet_nil ?_
              rintro _ ⟨rr, rfl⟩
              have b9 := rr.ok
              generalize rr.wd = w9 at *
              have CI := Ints_int pc pd cd ce cc d w9 (hVc8.keep b9) (hVd.keep b9) (by omega)
              rw [decide_eq_true HBM.out.symm] at CI
              have hdn : d.length = cc.length := by rw [HBM.out]
              have HDN : Hid _ := hdn
              have dge : decide (cc.length ≤ d.length) = true := decide_eq_true (by omega)
              have dge2 : decide ((cc.length : Int) ≤ (d.length : Int)) = true := decide_eq_true (by omega)
              clear hdn
              go_wp2_with (go_at_call 12; refine CI.mono ?_; clear CI; rintro e wz ⟨rfl, hbz⟩)
              go_ret
              exact ⟨rfl, Below.thru (Below.thru E8 b9 (Nat.le_refl _)) hbz (Nat.le_refl _)⟩
          · have z1' : (z.kd == 1) = false := by simp [z1]
            rw [z1', Bool.false_and, if_neg (by simp), List.append_nil] at hbm
            have HBM : Hid _ := hbm
            clear z1 hbm
            have HM1K : Hid _ := hM1k
            have HM2K : Hid _ := hM2k
            have HM1M : Hid _ := hM1m
            have HM2M : Hid _ := hM2m
            clear hM1k hM2k hM1m hM2m
            have F1 := trivial
            go_upto_region 12 with (first
              | (go_at_call 13; clear F1; refine (HM1K.out wc (Below.refl _ _)).mono ?_; rintro e w5 ⟨va, rfl, hVa, hba⟩; obtain ⟨pa, ca, rfl⟩ := hVa.len; have C5 := hba; replace t0 := cell_keep t0 hba; replace t1 := cell_keep t1 hba; replace t2 := cell_keep t2 hba; replace t3 := cell_keep t3 hba; replace t4 := cell_keep t4 hba; replace t5 := cell_keep t5 hba; replace t6 := cell_keep t6 hba; replace v0 := cell_keep v0 hba; replace v1 := cell_keep v1 hba; replace v2 := cell_keep v2 hba; replace v3 := cell_keep v3 hba; replace v4 := cell_keep v4 hba; replace v5 := cell_keep v5 hba; replace v6 := cell_keep v6 hba; replace lt := cell_lt t0; replace lv := cell_lt v0; have F2 := trivial)
              | (go_at_call 13; clear F2; refine (HM2K.out w5 C5).mono ?_; rintro e w6 ⟨vb, rfl, hVb, hbb⟩; obtain ⟨pb, cb, rfl⟩ := hVb.len; have C6 := Below.thru C5 hbb (Nat.le_refl _); replace t0 := cell_keep t0 hbb; replace t1 := cell_keep t1 hbb; replace t2 := cell_keep t2 hbb; replace t3 := cell_keep t3 hbb; replace t4 := cell_keep t4 hbb; replace t5 := cell_keep t5 hbb; replace t6 := cell_keep t6 hbb; replace v0 := cell_keep v0 hbb; replace v1 := cell_keep v1 hbb; replace v2 := cell_keep v2 hbb; replace v3 := cell_keep v3 hbb; replace v4 := cell_keep v4 hbb; replace v5 := cell_keep v5 hbb; replace v6 := cell_keep v6 hbb; replace lt := cell_lt t0; replace lv := cell_lt v0; have F3 := trivial)
              | (go_at_call 13; clear F3; refine (HM1M.out w6 C6).mono ?_; rintro e w7 ⟨vc, rfl, hVc, hbc⟩; obtain ⟨pc, cd, rfl⟩ := hVc.len; have C7 := Below.thru C6 hbc (Nat.le_refl _); replace t0 := cell_keep t0 hbc; replace t1 := cell_keep t1 hbc; replace t2 := cell_keep t2 hbc; replace t3 := cell_keep t3 hbc; replace t4 := cell_keep t4 hbc; replace t5 := cell_keep t5 hbc; replace t6 := cell_keep t6 hbc; replace v0 := cell_keep v0 hbc; replace v1 := cell_keep v1 hbc; replace v2 := cell_keep v2 hbc; replace v3 := cell_keep v3 hbc; replace v4 := cell_keep v4 hbc; replace v5 := cell_keep v5 hbc; replace v6 := cell_keep v6 hbc; replace lt := cell_lt t0; replace lv := cell_lt v0; have F4 := trivial))
            go_upto_region 13 with (go_at_call 13; clear F4; refine (HM2M.out w7 C7).mono ?_; rintro e w8 ⟨vd, rfl, hVd, hbd⟩; obtain ⟨pd, ce, rfl⟩ := hVd.len; have F5 := trivial)
            clear F5
            clear HM1K HM2K HM1M HM2M HMD
            have C8 := Below.thru C7 hbd (Nat.le_refl _)
            have E8 := Below.thru B9 C8 (Nat.le_refl _)
            have r1 := cell_keep g1 E8
            have lr := cell_lt r1
            have n1 := cell_keep m1 E8
            have n2_ := cell_keep m2 E8
            have n3_ := cell_keep m3 E8
            have ln := cell_lt n1
            obtain ⟨s0, s1, s2, s3, s4, s5, s6⟩ := ev_cells (kx9.keep C8)
            have ls := (kx9.keep C8).lt
            have hVb8 := (hVb.keep hbc).keep hbd
            have hVc8 := hVc.keep hbd
            clear t0 t1 t2 t3 t4 t5 t6 v0 v1 v2 v3 v4 v5 v6 lt lv hVb hVc
            obtain ⟨bb, bo, rfl, hbl⟩ := (ints_at hVb8).2 a.length (by rw [HBK.out]; simp)
            have hbl2 : w8.cell? ⟨bb, bo + a.length, none⟩ = some (.int .i64 (xs0.length : Int)) := by rw [hbl]; simp [HBK.out]
            have lbl := cell_lt hbl2
            have hbn : b.length = a.length + 1 := by rw [HBK.out]; simp
            rw [hbn]
            clear hbl
            go_wp2
            refine wp_region_ext (by kernel_rfl) (by kernel_rfl) ?_
            repeat (go_big_quiet_step (fail))
            refine wpQuiet_nil ?_
            rintro _ ⟨rr, rfl⟩
            have b9 := rr.ok
            generalize rr.wd = w9 at *
            have CI := Ints_int pc pd cd ce cc d w9 (hVc8.keep b9) (hVd.keep b9) (by omega)
            rw [decide_eq_true HBM.out.symm] at CI
            have hdn : d.length = cc.length := by rw [HBM.out]
            have HDN : Hid _ := hdn
            have dge : decide (cc.length ≤ d.length) = true := decide_eq_true (by omega)
            have dge2 : decide ((cc.length : Int) ≤ (d.length : Int)) = true := decide_eq_true (by omega)
            clear hdn
            go_wp2_with (go_at_call 12; refine CI.mono ?_; clear CI; rintro e wz ⟨rfl, hbz⟩)
            go_ret
            exact ⟨rfl, Below.thru (Below.thru E8 b9 (Nat.le_refl _)) hbz (Nat.le_refl _)⟩
        · have y1 : (y.kd == 1) = false := by simp [hyk]
          clear hyk hbk
          by_cases z1 : z.kd = 1
          · have z1' : (z.kd == 1) = true := by simp [z1]
            rw [z1', Bool.true_and] at hbm
            clear z1
            by_cases z2 : z.lc = x.lc
            · have z2' : (z.lc == x.lc) = true := by simp [z2]
              rw [z2', Bool.true_and] at hbm
              clear z2
              by_cases z3 : z.vl = x.vl
              · have z3' : (z.vl == x.vl) = true := by simp [z3]
                rw [z3', if_pos rfl] at hbm
                clear z3
                have HBM : Hid _ := hbm
                clear hbm
                have HM1K : Hid _ := hM1k
                have HM2K : Hid _ := hM2k
                have HM1M : Hid _ := hM1m
                have HM2M : Hid _ := hM2m
                clear hM1k hM2k hM1m hM2m
                have F1 := trivial
                go_upto_region 12 with (first
                  | (go_at_call 13; clear F1; refine (HM1K.out wc (Below.refl _ _)).mono ?_; rintro e w5 ⟨va, rfl, hVa, hba⟩; obtain ⟨pa, ca, rfl⟩ := hVa.len; have C5 := hba; replace t0 := cell_keep t0 hba; replace t1 := cell_keep t1 hba; replace t2 := cell_keep t2 hba; replace t3 := cell_keep t3 hba; replace t4 := cell_keep t4 hba; replace t5 := cell_keep t5 hba; replace t6 := cell_keep t6 hba; replace v0 := cell_keep v0 hba; replace v1 := cell_keep v1 hba; replace v2 := cell_keep v2 hba; replace v3 := cell_keep v3 hba; replace v4 := cell_keep v4 hba; replace v5 := cell_keep v5 hba; replace v6 := cell_keep v6 hba; replace lt := cell_lt t0; replace lv := cell_lt v0; have F2 := trivial)
                  | (go_at_call 13; clear F2; refine (HM2K.out w5 C5).mono ?_; rintro e w6 ⟨vb, rfl, hVb, hbb⟩; obtain ⟨pb, cb, rfl⟩ := hVb.len; have C6 := Below.thru C5 hbb (Nat.le_refl _); replace t0 := cell_keep t0 hbb; replace t1 := cell_keep t1 hbb; replace t2 := cell_keep t2 hbb; replace t3 := cell_keep t3 hbb; replace t4 := cell_keep t4 hbb; replace t5 := cell_keep t5 hbb; replace t6 := cell_keep t6 hbb; replace v0 := cell_keep v0 hbb; replace v1 := cell_keep v1 hbb; replace v2 := cell_keep v2 hbb; replace v3 := cell_keep v3 hbb; replace v4 := cell_keep v4 hbb; replace v5 := cell_keep v5 hbb; replace v6 := cell_keep v6 hbb; replace lt := cell_lt t0; replace lv := cell_lt v0; have F3 := trivial)
                  | (go_at_call 13; clear F3; refine (HM1M.out w6 C6).mono ?_; rintro e w7 ⟨vc, rfl, hVc, hbc⟩; obtain ⟨pc, cd, rfl⟩ := hVc.len; have C7 := Below.thru C6 hbc (Nat.le_refl _); replace t0 := cell_keep t0 hbc; replace t1 := cell_keep t1 hbc; replace t2 := cell_keep t2 hbc; replace t3 := cell_keep t3 hbc; replace t4 := cell_keep t4 hbc; replace t5 := cell_keep t5 hbc; replace t6 := cell_keep t6 hbc; replace v0 := cell_keep v0 hbc; replace v1 := cell_keep v1 hbc; replace v2 := cell_keep v2 hbc; replace v3 := cell_keep v3 hbc; replace v4 := cell_keep v4 hbc; replace v5 := cell_keep v5 hbc; replace v6 := cell_keep v6 hbc; replace lt := cell_lt t0; replace lv := cell_lt v0; have F4 := trivial))
                go_upto_region 13 with (go_at_call 13; clear F4; refine (HM2M.out w7 C7).mono ?_; rintro e w8 ⟨vd, rfl, hVd, hbd⟩; obtain ⟨pd, ce, rfl⟩ := hVd.len; have F5 := trivial)
                clear F5
                clear HM1K HM2K HM1M HM2M HMD
                have C8 := Below.thru C7 hbd (Nat.le_refl _)
                have E8 := Below.thru B9 C8 (Nat.le_refl _)
                have r1 := cell_keep g1 E8
                have lr := cell_lt r1
                have n1 := cell_keep m1 E8
                have n2_ := cell_keep m2 E8
                have n3_ := cell_keep m3 E8
                have ln := cell_lt n1
                obtain ⟨s0, s1, s2, s3, s4, s5, s6⟩ := ev_cells (kx9.keep C8)
                have ls := (kx9.keep C8).lt
                have hVb8 := (hVb.keep hbc).keep hbd
                have hVc8 := hVc.keep hbd
                clear t0 t1 t2 t3 t4 t5 t6 v0 v1 v2 v3 v4 v5 v6 lt lv hVb hVc
                go_wp2
                refine wp_region_ext (by kernel_rfl) (by kernel_rfl) ?_
                repeat (go_big_quiet_step (fail))
                refine wpQuiet_nil ?_
                rintro _ ⟨rr, rfl⟩
                have b9 := rr.ok
                generalize rr.wd = w9 at *
                have hdn : d.length = cc.length + 1 := by rw [HBM.out]; simp
                rw [hdn]
                have dge : decide (cc.length ≤ cc.length + 1) = true := decide_eq_true (by omega)
                have dge2 : decide ((cc.length : Int) ≤ ((cc.length + 1 : Nat) : Int)) = true := decide_eq_true (by omega)
                have dge3 : decide ((cc.length : Int) ≤ (cc.length : Int) + 1) = true := decide_eq_true (by omega)
                go_wp2
                go_ret
                exact ⟨rfl, Below.thru E8 b9 (Nat.le_refl _)⟩
              · have z3' : (z.vl == x.vl) = false := by simp [z3]
                rw [z3', if_neg (by simp), List.append_nil] at hbm
                have HBM : Hid _ := hbm
                clear z3 hbm
                have HM1K : Hid _ := hM1k
                have HM2K : Hid _ := hM2k
                have HM1M : Hid _ := hM1m
                have HM2M : Hid _ := hM2m
                clear hM1k hM2k hM1m hM2m
                have F1 := trivial
                go_upto_region 12 with (first
                  | (go_at_call 13; clear F1; refine (HM1K.out wc (Below.refl _ _)).mono ?_; rintro e w5 ⟨va, rfl, hVa, hba⟩; obtain ⟨pa, ca, rfl⟩ := hVa.len; have C5 := hba; replace t0 := cell_keep t0 hba; replace t1 := cell_keep t1 hba; replace t2 := cell_keep t2 hba; replace t3 := cell_keep t3 hba; replace t4 := cell_keep t4 hba; replace t5 := cell_keep t5 hba; replace t6 := cell_keep t6 hba; replace v0 := cell_keep v0 hba; replace v1 := cell_keep v1 hba; replace v2 := cell_keep v2 hba; replace v3 := cell_keep v3 hba; replace v4 := cell_keep v4 hba; replace v5 := cell_keep v5 hba; replace v6 := cell_keep v6 hba; replace lt := cell_lt t0; replace lv := cell_lt v0; have F2 := trivial)
                  | (go_at_call 13; clear F2; refine (HM2K.out w5 C5).mono ?_; rintro e w6 ⟨vb, rfl, hVb, hbb⟩; obtain ⟨pb, cb, rfl⟩ := hVb.len; have C6 := Below.thru C5 hbb (Nat.le_refl _); replace t0 := cell_keep t0 hbb; replace t1 := cell_keep t1 hbb; replace t2 := cell_keep t2 hbb; replace t3 := cell_keep t3 hbb; replace t4 := cell_keep t4 hbb; replace t5 := cell_keep t5 hbb; replace t6 := cell_keep t6 hbb; replace v0 := cell_keep v0 hbb; replace v1 := cell_keep v1 hbb; replace v2 := cell_keep v2 hbb; replace v3 := cell_keep v3 hbb; replace v4 := cell_keep v4 hbb; replace v5 := cell_keep v5 hbb; replace v6 := cell_keep v6 hbb; replace lt := cell_lt t0; replace lv := cell_lt v0; have F3 := trivial)
                  | (go_at_call 13; clear F3; refine (HM1M.out w6 C6).mono ?_; rintro e w7 ⟨vc, rfl, hVc, hbc⟩; obtain ⟨pc, cd, rfl⟩ := hVc.len; have C7 := Below.thru C6 hbc (Nat.le_refl _); replace t0 := cell_keep t0 hbc; replace t1 := cell_keep t1 hbc; replace t2 := cell_keep t2 hbc; replace t3 := cell_keep t3 hbc; replace t4 := cell_keep t4 hbc; replace t5 := cell_keep t5 hbc; replace t6 := cell_keep t6 hbc; replace v0 := cell_keep v0 hbc; replace v1 := cell_keep v1 hbc; replace v2 := cell_keep v2 hbc; replace v3 := cell_keep v3 hbc; replace v4 := cell_keep v4 hbc; replace v5 := cell_keep v5 hbc; replace v6 := cell_keep v6 hbc; replace lt := cell_lt t0; replace lv := cell_lt v0; have F4 := trivial))
                go_upto_region 13 with (go_at_call 13; clear F4; refine (HM2M.out w7 C7).mono ?_; rintro e w8 ⟨vd, rfl, hVd, hbd⟩; obtain ⟨pd, ce, rfl⟩ := hVd.len; have F5 := trivial)
                clear F5
                clear HM1K HM2K HM1M HM2M HMD
                have C8 := Below.thru C7 hbd (Nat.le_refl _)
                have E8 := Below.thru B9 C8 (Nat.le_refl _)
                have r1 := cell_keep g1 E8
                have lr := cell_lt r1
                have n1 := cell_keep m1 E8
                have n2_ := cell_keep m2 E8
                have n3_ := cell_keep m3 E8
                have ln := cell_lt n1
                obtain ⟨s0, s1, s2, s3, s4, s5, s6⟩ := ev_cells (kx9.keep C8)
                have ls := (kx9.keep C8).lt
                have hVb8 := (hVb.keep hbc).keep hbd
                have hVc8 := hVc.keep hbd
                clear t0 t1 t2 t3 t4 t5 t6 v0 v1 v2 v3 v4 v5 v6 lt lv hVb hVc
                go_wp2
                refine wp_region_ext (by kernel_rfl) (by kernel_rfl) ?_
                repeat (go_big_quiet_step (fail))
                refine wpQuiet_nil ?_
                rintro _ ⟨rr, rfl⟩
                have b9 := rr.ok
                generalize rr.wd = w9 at *
                have CI := Ints_int pc pd cd ce cc d w9 (hVc8.keep b9) (hVd.keep b9) (by omega)
                rw [decide_eq_true HBM.out.symm] at CI
                have hdn : d.length = cc.length := by rw [HBM.out]
                have HDN : Hid _ := hdn
                have dge : decide (cc.length ≤ d.length) = true := decide_eq_true (by omega)
                have dge2 : decide ((cc.length : Int) ≤ (d.length : Int)) = true := decide_eq_true (by omega)
                clear hdn
                go_wp2_with (go_at_call 12; refine CI.mono ?_; clear CI; rintro e wz ⟨rfl, hbz⟩)
                go_ret
                exact ⟨rfl, Below.thru (Below.thru E8 b9 (Nat.le_refl _)) hbz (Nat.le_refl _)⟩
            · have z2' : (z.lc == x.lc) = false := by simp [z2]
              rw [z2', Bool.false_and, if_neg (by simp), List.append_nil] at hbm
              have HBM : Hid _ := hbm
              clear z2 hbm
              have HM1K : Hid _ := hM1k
              have HM2K : Hid _ := hM2k
              have HM1M : Hid _ := hM1m
              have HM2M : Hid _ := hM2m
              clear hM1k hM2k hM1m hM2m
              have F1 := trivial
              go_upto_region 12 with (first
                | (go_at_call 13; clear F1; refine (HM1K.out wc (Below.refl _ _)).mono ?_; rintro e w5 ⟨va, rfl, hVa, hba⟩; obtain ⟨pa, ca, rfl⟩ := hVa.len; have C5 := hba; replace t0 := cell_keep t0 hba; replace t1 := cell_keep t1 hba; replace t2 := cell_keep t2 hba; replace t3 := cell_keep t3 hba; replace t4 := cell_keep t4 hba; replace t5 := cell_keep t5 hba; replace t6 := cell_keep t6 hba; replace v0 := cell_keep v0 hba; replace v1 := cell_keep v1 hba; replace v2 := cell_keep v2 hba; replace v3 := cell_keep v3 hba; replace v4 := cell_keep v4 hba; replace v5 := cell_keep v5 hba; replace v6 := cell_keep v6 hba; replace lt := cell_lt t0; replace lv := cell_lt v0; have F2 := trivial)
                | (go_at_call 13; clear F2; refine (HM2K.out w5 C5).mono ?_; rintro e w6 ⟨vb, rfl, hVb, hbb⟩; obtain ⟨pb, cb, rfl⟩ := hVb.len; have C6 := Below.thru C5 hbb (Nat.le_refl _); replace t0 := cell_keep t0 hbb; replace t1 := cell_keep t1 hbb; replace t2 := cell_keep t2 hbb; replace t3 := cell_keep t3 hbb; replace t4 := cell_keep t4 hbb; replace t5 := cell_keep t5 hbb; replace t6 := cell_keep t6 hbb; replace v0 := cell_keep v0 hbb; replace v1 := cell_keep v1 hbb; replace v2 := cell_keep v2 hbb; replace v3 := cell_keep v3 hbb; replace v4 := cell_keep v4 hbb; replace v5 := cell_keep v5 hbb; replace v6 := cell_keep v6 hbb; replace lt := cell_lt t0; replace lv := cell_lt v0; have F3 := trivial)
                | (go_at_call 13; clear F3; refine (HM1M.out w6 C6).mono ?_; rintro e w7 ⟨vc, rfl, hVc, hbc⟩; obtain ⟨pc, cd, rfl⟩ := hVc.len; have C7 := Below.thru C6 hbc (Nat.le_refl _); replace t0 := cell_keep t0 hbc; replace t1 := cell_keep t1 hbc; replace t2 := cell_keep t2 hbc; replace t3 := cell_keep t3 hbc; replace t4 := cell_keep t4 hbc; replace t5 := cell_keep t5 hbc; replace t6 := cell_keep t6 hbc; replace v0 := cell_keep v0 hbc; replace v1 := cell_keep v1 hbc; replace v2 := cell_keep v2 hbc; replace v3 := cell_keep v3 hbc; replace v4 := cell_keep v4 hbc; replace v5 := cell_keep v5 hbc; replace v6 := cell_keep v6 hbc; replace lt := cell_lt t0; replace lv := cell_lt v0; have F4 := trivial))
              go_upto_region 13 with (go_at_call 13; clear F4; refine (HM2M.out w7 C7).mono ?_; rintro e w8 ⟨vd, rfl, hVd, hbd⟩; obtain ⟨pd, ce, rfl⟩ := hVd.len; have F5 := trivial)
              clear F5
              clear HM1K HM2K HM1M HM2M HMD
              have C8 := Below.thru C7 hbd (Nat.le_refl _)
              have E8 := Below.thru B9 C8 (Nat.le_refl _)
              have r1 := cell_keep g1 E8
              have lr := cell_lt r1
              have n1 := cell_keep m1 E8
              have n2_ := cell_keep m2 E8
              have n3_ := cell_keep m3 E8
              have ln := cell_lt n1
              obtain ⟨s0, s1, s2, s3, s4, s5, s6⟩ := ev_cells (kx9.keep C8)
              have ls := (kx9.keep C8).lt
              have hVb8 := (hVb.keep hbc).keep hbd
              have hVc8 := hVc.keep hbd
              clear t0 t1 t2 t3 t4 t5 t6 v0 v1 v2 v3 v4 v5 v6 lt lv hVb hVc
              go_wp2
              refine wp_region_ext (by kernel_rfl) (by kernel_rfl) ?_
              repeat (go_big_quiet_step (fail))
              refine wpQuiet_nil ?_
              rintro _ ⟨rr, rfl⟩
              have b9 := rr.ok
              generalize rr.wd = w9 at *
              have CI := Ints_int pc pd cd ce cc d w9 (hVc8.keep b9) (hVd.keep b9) (by omega)
              rw [decide_eq_true HBM.out.symm] at CI
              have hdn : d.length = cc.length := by rw [HBM.out]
              have HDN : Hid _ := hdn
              have dge : decide (cc.length ≤ d.length) = true := decide_eq_true (by omega)
              have dge2 : decide ((cc.length : Int) ≤ (d.length : Int)) = true := decide_eq_true (by omega)
              clear hdn
              go_wp2_with (go_at_call 12; refine CI.mono ?_; clear CI; rintro e wz ⟨rfl, hbz⟩)
              go_ret
              exact ⟨rfl, Below.thru (Below.thru E8 b9 (Nat.le_refl _)) hbz (Nat.le_refl _)⟩
          · have z1' : (z.kd == 1) = false := by simp [z1]
            rw [z1', Bool.false_and, if_neg (by simp), List.append_nil] at hbm
            have HBM : Hid _ := hbm
            clear z1 hbm
            have HM1K : Hid _ := hM1k
            have HM2K : Hid _ := hM2k
            have HM1M : Hid _ := hM1m
            have HM2M : Hid _ := hM2m
            clear hM1k hM2k hM1m hM2m
            have F1 := trivial
            go_upto_region 12 with (first
              | (go_at_call 13; clear F1; refine (HM1K.out wc (Below.refl _ _)).mono ?_; rintro e w5 ⟨va, rfl, hVa, hba⟩; obtain ⟨pa, ca, rfl⟩ := hVa.len; have C5 := hba; replace t0 := cell_keep t0 hba; replace t1 := cell_keep t1 hba; replace t2 := cell_keep t2 hba; replace t3 := cell_keep t3 hba; replace t4 := cell_keep t4 hba; replace t5 := cell_keep t5 hba; replace t6 := cell_keep t6 hba; replace v0 := cell_keep v0 hba; replace v1 := cell_keep v1 hba; replace v2 := cell_keep v2 hba; replace v3 := cell_keep v3 hba; replace v4 := cell_keep v4 hba; replace v5 := cell_keep v5 hba; replace v6 := cell_keep v6 hba; replace lt := cell_lt t0; replace lv := cell_lt v0; have F2 := trivial)
              | (go_at_call 13; clear F2; refine (HM2K.out w5 C5).mono ?_; rintro e w6 ⟨vb, rfl, hVb, hbb⟩; obtain ⟨pb, cb, rfl⟩ := hVb.len; have C6 := Below.thru C5 hbb (Nat.le_refl _); replace t0 := cell_keep t0 hbb; replace t1 := cell_keep t1 hbb; replace t2 := cell_keep t2 hbb; replace t3 := cell_keep t3 hbb; replace t4 := cell_keep t4 hbb; replace t5 := cell_keep t5 hbb; replace t6 := cell_keep t6 hbb; replace v0 := cell_keep v0 hbb; replace v1 := cell_keep v1 hbb; replace v2 := cell_keep v2 hbb; replace v3 := cell_keep v3 hbb; replace v4 := cell_keep v4 hbb; replace v5 := cell_keep v5 hbb; replace v6 := cell_keep v6 hbb; replace lt := cell_lt t0; replace lv := cell_lt v0; have F3 := trivial)
              | (go_at_call 13; clear F3; refine (HM1M.out w6 C6).mono ?_; rintro e w7 ⟨vc, rfl, hVc, hbc⟩; obtain ⟨pc, cd, rfl⟩ := hVc.len; have C7 := Below.thru C6 hbc (Nat.le_refl _); replace t0 := cell_keep t0 hbc; replace t1 := cell_keep t1 hbc; replace t2 := cell_keep t2 hbc; replace t3 := cell_keep t3 hbc; replace t4 := cell_keep t4 hbc; replace t5 := cell_keep t5 hbc; replace t6 := cell_keep t6 hbc; replace v0 := cell_keep v0 hbc; replace v1 := cell_keep v1 hbc; replace v2 := cell_keep v2 hbc; replace v3 := cell_keep v3 hbc; replace v4 := cell_keep v4 hbc; replace v5 := cell_keep v5 hbc; replace v6 := cell_keep v6 hbc; replace lt := cell_lt t0; replace lv := cell_lt v0; have F4 := trivial))
            go_upto_region 13 with (go_at_call 13; clear F4; refine (HM2M.out w7 C7).mono ?_; rintro e w8 ⟨vd, rfl, hVd, hbd⟩; obtain ⟨pd, ce, rfl⟩ := hVd.len; have F5 := trivial)
            clear F5
            clear HM1K HM2K HM1M HM2M HMD
            have C8 := Below.thru C7 hbd (Nat.le_refl _)
            have E8 := Below.thru B9 C8 (Nat.le_refl _)
            have r1 := cell_keep g1 E8
            have lr := cell_lt r1
            have n1 := cell_keep m1 E8
            have n2_ := cell_keep m2 E8
            have n3_ := cell_keep m3 E8
            have ln := cell_lt n1
            obtain ⟨s0, s1, s2, s3, s4, s5, s6⟩ := ev_cells (kx9.keep C8)
            have ls := (kx9.keep C8).lt
            have hVb8 := (hVb.keep hbc).keep hbd
            have hVc8 := hVc.keep hbd
            clear t0 t1 t2 t3 t4 t5 t6 v0 v1 v2 v3 v4 v5 v6 lt lv hVb hVc
            go_wp2
            refine wp_region_ext (by kernel_rfl) (by kernel_rfl) ?_
            repeat (go_big_quiet_step (fail))
            refine wpQuiet_nil ?_
            rintro _ ⟨rr, rfl⟩
            have b9 := rr.ok
            generalize rr.wd = w9 at *
            have CI := Ints_int pc pd cd ce cc d w9 (hVc8.keep b9) (hVd.keep b9) (by omega)
            rw [decide_eq_true HBM.out.symm] at CI
            have hdn : d.length = cc.length := by rw [HBM.out]
            have HDN : Hid _ := hdn
            have dge : decide (cc.length ≤ d.length) = true := decide_eq_true (by omega)
            have dge2 : decide ((cc.length : Int) ≤ (d.length : Int)) = true := decide_eq_true (by omega)
            clear hdn
            go_wp2_with (go_at_call 12; refine CI.mono ?_; clear CI; rintro e wz ⟨rfl, hbz⟩)
            go_ret
            exact ⟨rfl, Below.thru (Below.thru E8 b9 (Nat.le_refl _)) hbz (Nat.le_refl _)⟩
end Go.Proofs.Ytgffeihfcmbobaa
