/- The walk of RegsSets. -/
import Derived.Test.YtckaniemilmphaaDoorRegsShown
import Derived.Test.YtckaniemilmphaaDoorRegsFile
import Derived.Test.YtckaniemilmphaaDoorMix
namespace Go.Proofs.YtckaniemilmphaaDoor
open Go.RowKit
attribute [local go_sem] Ext.cell Ext.frozen four_same' fourD_same'

theorem set_shape (v d : Nat → Int) (n x y : Int) : ∃ gv gd, fileV (upd v n x) (upd d n y) = fileV gv gd ∧ ((0 ≤ n ∧ n < 4 ∧ atR gv n = x ∧ atR gd n = y ∧ ∀ k : Nat, k < 4 → (k : Int) ≠ n → gv k = v k ∧ gd k = d k) ∨ ((n < 0 ∨ 4 ≤ n) ∧ gv = v ∧ gd = d)) := by
  by_cases h : 0 ≤ n ∧ n < 4
  · obtain ⟨m, rfl⟩ : ∃ m : Nat, n = (m : Int) := ⟨n.toNat, by omega⟩
    refine ⟨_, _, rfl, .inl ⟨h.1, h.2, ?_, ?_, fun k _ hk => ⟨upd_other _ _ hk, upd_other _ _ hk⟩⟩⟩
    · rw [atR_in _ (by omega), upd_same]
    · rw [atR_in _ (by omega), upd_same]
  · have ho : n < 0 ∨ 4 ≤ n := by omega
    exact ⟨v, d, fileV_out v d x y ho, .inr ⟨ho, rfl, rfl⟩⟩

set_option maxHeartbeats 4000000 in
theorem RegsSets_true (v d : Nat → Int) (n x : Int) (y o : Nat) (w : World) (T : Tab w) : Calls Tryd.prog 5 #[fileV v d, .int .i64 n, .int .i64 x, .int .u32 y, .int .u8 o] w fun e w' => e = .returned (.bool true) ∧ Below w.heap.size w w' := by
  have hM := fun w => made_any v d w
  have hS := fun w => Set_any v d n x y w
  have hS9 := fun w => Set_any v d n 9 9 w
  have hT := fun w => Set_any (upd v n 9) (upd d n 9) n x y w
  have hV : upd (upd v n 9) n x = upd v n x := funext fun k => by simp only [upd]; split <;> rfl
  have hD : upd (upd d n 9) n y = upd d n y := funext fun k => by simp only [upd]; split <;> rfl
  rw [hV, hD] at hT
  clear hV hD
  obtain ⟨gv, gd, hg, hgg⟩ := set_shape v d n x y
  obtain ⟨nv, hnv⟩ : ∃ g, upd v n 9 = g := ⟨_, rfl⟩
  obtain ⟨nd, hnd⟩ : ∃ g, upd d n 9 = g := ⟨_, rfl⟩
  rw [hg] at hS hT
  have hG := fun m w => Get_any gv gd m w
  rw [hnv, hnd] at hS9 hT
  unfold fileV at hM hS hG hS9 hT ⊢
  have HM : Hid _ := hM
  have HS : Hid _ := hS
  have HG : Hid _ := hG
  have HN : Hid _ := hS9
  have HT : Hid _ := hT
  have Hgg : Hid _ := hgg
  clear hM hS hG hS9 hT hg hgg hnv hnd
  go_enter Tryd.func5, Tryd.ntmps5
  go_wp2_with fail
  have kf0 : FileAt _ _ v d 26 := FileAt.new (w := w)
  have B0 := below_new w (Obj.cells #[.int .i64 (v 0), .int .i64 (v 1), .int .i64 (v 2), .int .i64 (v 3), .int .u32 (d 0), .int .u32 (d 1), .int .u32 (d 2), .int .u32 (d 3)] 26)
  have T0 := T.below B0
  refine (shown_any _ T0).mono ?_
  rintro e w1 ⟨rfl, hb1⟩
  have kf1 := kf0.keep hb1
  have B1 : Below w.heap.size w w1 := Below.thru B0 hb1 (Nat.le_refl _)
  clear kf0 B0 T0 hb1
  generalize hbf : w.heap.size = bf at *
  obtain ⟨⟨f0, f1, f2, f3⟩, f4, f5, f6, f7⟩ := kf1.cells
  have lf := kf1.lt
  go_wp2_with fail
  refine (HM.out _).mono ?_
  rintro e w2 ⟨rfl, hb2⟩
  go_wp2_with fail
  refine (HS.out _).mono ?_
  rintro e w3 ⟨rfl, hb3⟩
  have hb13 := Below.thru hb2 hb3 (Nat.le_refl _)
  have kf3 := kf1.keep hb13
  have kg : FileAt _ _ gv gd 30 := FileAt.new (w := w3)
  have hb4 := below_new w3 (Obj.cells #[.int .i64 (gv 0), .int .i64 (gv 1), .int .i64 (gv 2), .int .i64 (gv 3), .int .u32 (gd 0), .int .u32 (gd 1), .int .u32 (gd 2), .int .u32 (gd 3)] 30)
  have kf4 := kf3.keep hb4
  have B4 : Below bf w _ := Below.thru (Below.thru B1 hb13 (by omega)) hb4 (by omega)
  clear kf1 kf3 f0 f1 f2 f3 f4 f5 f6 f7 lf hb13 hb2 hb3
  go_wp2_with fail
  generalize (w3.alloc (Obj.cells #[.int .i64 (gv 0), .int .i64 (gv 1), .int .i64 (gv 2), .int .i64 (gv 3), .int .u32 (gd 0), .int .u32 (gd 1), .int .u32 (gd 2), .int .u32 (gd 3)] 30)) = w4 at *
  generalize w3.heap.size = bg at *
  refine (HG.out _ _).mono ?_
  rintro e w5 ⟨rfl, hb5⟩
  obtain ⟨a, ha⟩ : ∃ a, atR gv n = a := ⟨_, rfl⟩
  obtain ⟨b, hb⟩ : ∃ a, atR gd n = a := ⟨_, rfl⟩
  rw [ha, hb]
  have Ha : Hid _ := ha
  have Hb : Hid _ := hb
  clear ha hb
  have kf5 := kf4.keep hb5
  have kg5 := kg.keep hb5
  have B5 : Below bf w w5 := Below.thru B4 hb5 (by omega)
  clear kf4 kg hb5 B4
  obtain ⟨⟨g0, g1, g2, g3⟩, g4, g5, g6, g7⟩ := kg5.cells
  have lg := kg5.lt
  go_wp2_with fail
  obtain ⟨k, hk, hk4⟩ : ∃ k : Nat, ((o : Int) % 4) = (k : Int) ∧ k < 4 := ⟨o % 4, by omega, Nat.mod_lt _ (by decide)⟩
  rw [hk]
  clear hk
  refine (HG.out _ _).mono ?_
  rintro e w6 ⟨rfl, hb6⟩
  rw [atR_in _ hk4, atR_in _ hk4]
  have kf6 := kf5.keep hb6
  have kg6 := kg5.keep hb6
  have B6 : Below bf w w6 := Below.thru B5 hb6 (by omega)
  clear kf5 kg5 hb6 B5 g0 g1 g2 g3 g4 g5 g6 g7 lg
  obtain ⟨⟨f0, f1, f2, f3⟩, f4, f5, f6, f7⟩ := kf6.cells
  have lf := kf6.lt
  go_wp2_with fail
  refine (HM.out _).mono ?_
  rintro e w7 ⟨rfl, hb7⟩
  go_wp2_with fail
  refine (HN.out _).mono ?_
  rintro e w8 ⟨rfl, hb8⟩
  go_wp2_with fail
  refine (HT.out _).mono ?_
  rintro e w9 ⟨rfl, hb9⟩
  have hb69 := Below.thru (Below.thru hb7 hb8 (Nat.le_refl _)) hb9 (Nat.le_refl _)
  have kh : FileAt _ _ gv gd 30 := FileAt.new (w := w9)
  have hb10 := below_new w9 (Obj.cells #[.int .i64 (gv 0), .int .i64 (gv 1), .int .i64 (gv 2), .int .i64 (gv 3), .int .u32 (gd 0), .int .u32 (gd 1), .int .u32 (gd 2), .int .u32 (gd 3)] 30)
  have hbA := Below.thru hb69 hb10 (Nat.le_refl _)
  have kf10 := kf6.keep hbA
  have kg10 := kg6.keep hbA
  have B10 : Below bf w _ := Below.thru B6 hbA (by omega)
  clear kf6 kg6 f0 f1 f2 f3 f4 f5 f6 f7 lf hb69 hb7 hb8 hb9 hb10 hbA B6
  obtain ⟨c1, c2⟩ := kf10.at hk4
  obtain ⟨⟨f0, f1, f2, f3⟩, f4, f5, f6, f7⟩ := kf10.cells
  obtain ⟨⟨g0, g1, g2, g3⟩, g4, g5, g6, g7⟩ := kg10.cells
  obtain ⟨⟨h0, h1, h2, h3⟩, h4, h5, h6, h7⟩ := kh.cells
  have lf := kf10.lt
  have lg := kg10.lt
  have lh := kh.lt
  have Er := fun w => real_any gv gd w
  unfold fileV at Er
  have HR : Hid _ := Er
  clear Er
  have hne : ∀ w, Nonempty (Ext w) := ext_some
  have hk0 : (0 : Int) ≤ (k : Int) := by omega
  have hk4' : (k : Int) < 4 := by omega
  rcases Hgg.out with ⟨hn0, hn4, hax, hby, hoth⟩ | ⟨hout, rfl, rfl⟩
  · have hn3 : n ≤ 3 := by omega
    have hax : a = x := by rw [← Ha.out, hax]
    have hby : b = (y : Int) := by rw [← Hb.out, hby]
    subst hax hby
    go_wp2
    generalize (w9.alloc (Obj.cells #[.int .i64 (gv 0), .int .i64 (gv 1), .int .i64 (gv 2), .int .i64 (gv 3), .int .u32 (gd 0), .int .u32 (gd 1), .int .u32 (gd 2), .int .u32 (gd 3)] 30)) = w10 at *
    generalize w9.heap.size = bh at *
    by_cases hkn : (k : Int) = n
    · have hkb : ((k : Int) == n) = true := by simpa using hkn
      clear hoth
      refine wp_region_mix [([0, 1, 2, 3, 4, 5, 6, 7, 8, 9, 10, 11, 12, 13, 14, 15, 16, 17, 18, 19, 20, 21, 22, 23, 24, 25, 27], 26)] [28, 29, 30, 31, 32, 33, 34, 35, 36, 37, 38, 39, 40, 41, 42, 43, 44, 45, 46, 47, 48, 49, 50, 51, 52, 53, 54, 55, 56, 57, 58] (by kernel_rfl) (by kernel_rfl) (fun _ _ d _ _ h => by cases d <;> exact h) ?_
      dsimp only [List.map, opAt]
      refine wpMix_stage ?_
      repeat (go_big_quiet_step (fail))
      refine wpQuiet_nil ?_
      go_wp2
      refine ⟨(Below.refl _ _).drew, ?_⟩
      refine wpMix_last ?_
      repeat (go_big_quiet_step (fail))
      refine wpQuiet_nil ?_
      go_wp2
      go_ret
      rw [hbf]
      exact ⟨rfl, B10.drew⟩
    · have hkb : ((k : Int) == n) = false := by simpa using hkn
      obtain ⟨hvk, hdk⟩ := hoth k hk4 hkn
      clear hoth
      refine wp_region_mix [([0, 1, 2, 3, 4, 5, 6, 7, 8, 9, 10, 11, 12, 13, 14, 15, 16, 17, 18, 19, 20, 21, 22, 23, 24, 25, 27], 26)] [28, 29, 30, 31, 32, 33, 34, 35, 36, 37, 38, 39, 40, 41, 42, 43, 44, 45, 46, 47, 48, 49, 50, 51, 52, 53, 54, 55, 56, 57, 58] (by kernel_rfl) (by kernel_rfl) (fun _ _ d _ _ h => by cases d <;> exact h) ?_
      dsimp only [List.map, opAt]
      refine wpMix_stage ?_
      repeat (go_big_quiet_step (fail))
      refine wpQuiet_nil ?_
      go_wp2
      refine ⟨(Below.refl _ _).drew, ?_⟩
      refine wpMix_last ?_
      repeat (go_big_quiet_step (fail))
      refine wpQuiet_nil ?_
      go_wp2
      go_ret
      rw [hbf]
      exact ⟨rfl, B10.drew⟩
  · have ha0 : a = 0 := by rw [← Ha.out, atR_out _ hout]
    have hb0 : b = 0 := by rw [← Hb.out, atR_out _ hout]
    have hkn : (k : Int) ≠ n := by omega
    have hkb : ((k : Int) == n) = false := by simpa using hkn
    subst ha0 hb0
    rcases hout with hout | hout
    · have hn0 : ¬ 0 ≤ n := by omega
      go_wp2
      generalize (w9.alloc (Obj.cells #[.int .i64 (gv 0), .int .i64 (gv 1), .int .i64 (gv 2), .int .i64 (gv 3), .int .u32 (gd 0), .int .u32 (gd 1), .int .u32 (gd 2), .int .u32 (gd 3)] 30)) = w10 at *
      generalize w9.heap.size = bh at *
      refine wp_region_mix [([0, 1, 2, 3, 4, 5, 6, 7, 8, 9, 10, 11, 12, 13, 14, 15, 16, 17, 18, 19, 20, 21, 22, 23, 24, 25, 27], 26)] [28, 29, 30, 31, 32, 33, 34, 35, 36, 37, 38, 39, 40, 41, 42, 43, 44, 45, 46, 47, 48, 49, 50, 51, 52, 53, 54, 55, 56, 57, 58] (by kernel_rfl) (by kernel_rfl) (fun _ _ d _ _ h => by cases d <;> exact h) ?_
      dsimp only [List.map, opAt]
      refine wpMix_stage ?_
      repeat (go_big_quiet_step (fail))
      refine wpQuiet_nil ?_
      go_wp2_with (go_at_call 13; refine (HR.out _).mono ?_; rintro e w11 ⟨rfl, hb11⟩)
      have B11 : Below w10.heap.size w10 w11 := Below.thru (Below.drew (Below.refl _ _)) hb11 (Nat.le_refl _)
      refine ⟨B11, ?_⟩
      refine wpMix_last ?_
      repeat (go_big_quiet_step (fail))
      refine wpQuiet_nil ?_
      go_wp2
      go_ret
      rw [hbf]
      exact ⟨rfl, Below.thru B10 B11 (by omega)⟩
    · have hn0 : 0 ≤ n := by omega
      have hn3 : decide (n ≤ 3) = false := decide_eq_false (by omega)
      go_wp2
      generalize (w9.alloc (Obj.cells #[.int .i64 (gv 0), .int .i64 (gv 1), .int .i64 (gv 2), .int .i64 (gv 3), .int .u32 (gd 0), .int .u32 (gd 1), .int .u32 (gd 2), .int .u32 (gd 3)] 30)) = w10 at *
      generalize w9.heap.size = bh at *
      refine wp_region_mix [([0, 1, 2, 3, 4, 5, 6, 7, 8, 9, 10, 11, 12, 13, 14, 15, 16, 17, 18, 19, 20, 21, 22, 23, 24, 25, 27], 26)] [28, 29, 30, 31, 32, 33, 34, 35, 36, 37, 38, 39, 40, 41, 42, 43, 44, 45, 46, 47, 48, 49, 50, 51, 52, 53, 54, 55, 56, 57, 58] (by kernel_rfl) (by kernel_rfl) (fun _ _ d _ _ h => by cases d <;> exact h) ?_
      dsimp only [List.map, opAt]
      refine wpMix_stage ?_
      repeat (go_big_quiet_step (fail))
      refine wpQuiet_nil ?_
      go_wp2_with (go_at_call 13; refine (HR.out _).mono ?_; rintro e w11 ⟨rfl, hb11⟩)
      have B11 : Below w10.heap.size w10 w11 := Below.thru (Below.drew (Below.refl _ _)) hb11 (Nat.le_refl _)
      refine ⟨B11, ?_⟩
      refine wpMix_last ?_
      repeat (go_big_quiet_step (fail))
      refine wpQuiet_nil ?_
      go_wp2
      go_ret
      rw [hbf]
      exact ⟨rfl, Below.thru B10 B11 (by omega)⟩
end Go.Proofs.YtckaniemilmphaaDoor
