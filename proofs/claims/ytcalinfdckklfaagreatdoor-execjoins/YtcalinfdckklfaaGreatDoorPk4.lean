/- What an instruction of registers alone makes of a file. -/
import Derived.Test.YtcalinfdckklfaaGreatDoorPk3
import Derived.Test.YtcalinfdckklfaaGreatDoorPk1
namespace Go.Proofs.YtcalinfdckklfaaGreatDoor
open Go.RowKit
attribute [local go_sem] Ext.cell Ext.frozen

/-- What Do makes of the numbers, and of the sets. -/
def doV (v : Nat → Int) (op xd xa xb i : Int) : Nat → Int := upd v xd (makeZ op (atR v xa) (atR v xb) i)
def doD (d : Nat → Int) (op xd xa xb : Int) : Nat → Int := upd d xd (hangF d (usesL op xa xb) 0)

set_option maxHeartbeats 4000000 in
theorem Do_in (v d : Nat → Int) (op xd xa xb l i : Int) (w : World) (T : Tab w) (h1 : 1 ≤ op) (h4 : op ≤ 4) : Calls Tryz.prog 127 #[fileV v d, .agg #[.int .i64 op, .int .i64 xd, .int .i64 xa, .int .i64 xb, .int .i64 l, .int .i64 i]] w fun e w' =>
    e = .returned (fileV (doV v op xd xa xb i) (doD d op xd xa xb)) ∧ Below w.heap.size w w' := by
  obtain ⟨f, hop⟩ : ∃ f, (op = 1 ∧ f = 152) ∨ (op = 2 ∧ f = 153) ∨ (op = 3 ∧ f = 154) ∨ (op = 4 ∧ f = 155) := by
    by_cases e1 : op = 1
    · exact ⟨_, .inl ⟨e1, rfl⟩⟩
    · by_cases e2 : op = 2
      · exact ⟨_, .inr (.inl ⟨e2, rfl⟩)⟩
      · by_cases e3 : op = 3
        · exact ⟨_, .inr (.inr (.inl ⟨e3, rfl⟩))⟩
        · exact ⟨_, .inr (.inr (.inr ⟨by omega, rfl⟩))⟩
  have hG : givesZ op xd = xd := by
    unfold givesZ
    have : hasDB op = true := by rcases hop with h | h | h | h <;> (rw [h.1]; decide)
    rw [this]
    rfl
  have HG : Hid _ := hG
  have HF : Hid _ := hop
  clear hop hG
  have HMake : Hid (∀ a b i w, Calls Tryz.prog f #[.int .i64 a, .int .i64 b, .int .i64 i] w fun e w' => e = .returned (.int .i64 (makeZ op a b i)) ∧ w' = w) := fun a b i w => make_any op f HF.out a b i w
  have hcf : ∀ args w, Sem.run Tryz.prog (callFunc f args) w = .ok (.enter f args) w := fun args w => by
    rcases HF.out with h | h | h | h <;> (rw [h.2]; kernel_rfl)
  have hGet := fun n w => Get_any v d n w
  have hHang := fun w T => hangs_any v d op xd xa xb l i w T
  have hSet := fun n x y w => Set_any v d n x y w
  unfold fileV at hGet hHang hSet ⊢
  have HGet : Hid _ := hGet
  have HHang : Hid _ := hHang
  have HSet : Hid _ := hSet
  clear hGet hHang hSet
  go_enter Tryz.func127, Tryz.ntmps127
  go_wp2
  obtain ⟨w0, hw0, B0, kF, kI, kR⟩ : ∃ w0, w0 = (((w.alloc (Obj.cells #[.int .i64 (v 0), .int .i64 (v 1), .int .i64 (v 2), .int .i64 (v 3), .int .u32 (d 0), .int .u32 (d 1), .int .u32 (d 2), .int .u32 (d 3)] 35)).alloc (Obj.cells #[.int .i64 op, .int .i64 xd, .int .i64 xa, .int .i64 xb, .int .i64 l, .int .i64 i] 72)).alloc (Obj.cells #[.int .i64 0, .int .i64 0, .int .i64 0, .int .i64 0, .int .u32 0, .int .u32 0, .int .u32 0, .int .u32 0] 35)) ∧
      Below w.heap.size w w0 ∧ FileAt w0 w.heap.size v d 35 ∧ InsB w0 (w.heap.size + 1) op xd xa xb l i ∧ FileAt w0 (w.heap.size + 1 + 1) (fun _ => 0) (fun _ => 0) 35 :=
    ⟨_, rfl, by go_grown, (Blk.new.alloc _).alloc _, (Blk.newAt (by simp)).alloc _, Blk.newAt (by simp)⟩
  rw [← hw0]
  clear hw0
  have T0 := T.below B0
  generalize hbf : w.heap.size = bf at *
  have hne : ∀ w, Nonempty (Ext w) := ext_some
  obtain ⟨i0, i1, i2, i3, i4, i5⟩ := kI.cells
  have lI := kI.lt
  refine wp_region_mix [([1, 2], 0), ([], 3)] [4, 5, 7, 6, 8] (by kernel_rfl) (by kernel_rfl) (fun _ _ d _ _ h => by cases d <;> exact h) ?_
  dsimp only [List.map, opAt]
  refine wpMix_stage ?_
  repeat (go_big_quiet_step (fail))
  refine wpQuiet_nil ?_
  go_wp2_with (go_at_call 142; refine (makers_any _).mono ?_; rintro e w1 ⟨bm, rfl, hown, hbm, hb1⟩)
  have B1 : Below w0.heap.size w0 w1 := Below.thru (Below.drew (Below.refl _ _)) hb1 (Nat.le_refl _)
  refine ⟨B1, ?_⟩
  refine wpMix_stage ?_
  refine wpQuiet_nil ?_
  have hlook := look_in hown op f HF.out
  go_wp2
  refine ⟨B1, ?_⟩
  refine wpMix_last ?_
  repeat (go_big_quiet_step (fail))
  refine wpQuiet_nil ?_
  have kF1 := kF.keep B1
  have kI1 := kI.keep B1
  have kR1 := kR.keep B1
  have T1 := T0.below B1
  have BB1 : Below bf w w1 := B0.trans (B1.mono (by rw [← hbf] at B0 ⊢; exact B0.size))
  clear kF kI kR i0 i1 i2 i3 i4 i5 lI hown hlook hb1 B0 T0 B1
  obtain ⟨⟨f0, f1, f2, f3⟩, f4, f5, f6, f7⟩ := kF1.cells
  obtain ⟨i0, i1, i2, i3, i4, i5⟩ := kI1.cells
  have lF := kF1.lt
  have lI := kI1.lt
  go_wp2_with fail
  refine (HGet.out _ _).mono ?_
  rintro e w2 ⟨rfl, hb2⟩
  obtain ⟨hc2, hf2⟩ := bcell hb2
  go_wp2_with fail
  have B2 := hb2
  have kF2 := kF1.keep B2
  have kI2 := kI1.keep B2
  have kR2 := kR1.keep B2
  have T2 := T1.below B2
  have BB2 : Below bf w w2 := Below.thru BB1 B2 (by omega)
  clear kF1 kI1 kR1 f0 f1 f2 f3 f4 f5 f6 f7 i0 i1 i2 i3 i4 i5 lF lI T1 B2 hb2 hc2 hf2
  refine (HGet.out _ _).mono ?_
  rintro e w3 ⟨rfl, hb3⟩
  have kF3 := kF2.keep hb3
  have kI3 := kI2.keep hb3
  have kR3 := kR2.keep hb3
  have T3 := T2.below hb3
  have BB3 : Below bf w w3 := Below.thru BB2 hb3 (by omega)
  clear kF2 kI2 kR2 T2 hb3
  obtain ⟨⟨f0, f1, f2, f3⟩, f4, f5, f6, f7⟩ := kF3.cells
  obtain ⟨i0, i1, i2, i3, i4, i5⟩ := kI3.cells
  have lF := kF3.lt
  have lI := kI3.lt
  go_wp2
  refine wp_region_mixL [([0, 1, 3, 4, 5, 6, 7, 9, 10], 2, false), ([], 8, false), ([], 11, false), ([], 12, false), ([], 13, true)] [] [13] (by kernel_rfl) (by kernel_rfl) (fun _ _ d _ _ h => by cases d <;> exact h) ?_
  dsimp only [mapL, List.map, opAt]
  refine wpMixL_stage ?_
  repeat (go_big_quiet_step (fail))
  refine wpQuiet_nil ?_
  go_wp2_with (go_at_call 143; refine (Gives_any _ _ _ _ _ _ _ (T3.below (Below.drew (Below.refl _ _)))).mono ?_; rintro e w4 ⟨rfl, hb4⟩; rw [HG.out])
  have B4 : Below w3.heap.size w3 w4 := Below.thru (Below.drew (Below.refl _ _)) hb4 (Nat.le_refl _)
  refine ⟨.inr B4, ?_⟩
  refine wpMixL_stage ?_
  refine wpQuiet_nil ?_
  go_wp2_with fail
  refine (HMake.out _ _ _ _).mono ?_
  rintro e w5 ⟨rfl, rfl⟩
  go_wp2
  refine ⟨.inr B4, ?_⟩
  refine wpMixL_stage ?_
  refine wpQuiet_nil ?_
  go_wp2_with (go_at_call 144; refine (HHang.out _ (T3.below B4)).mono ?_; rintro e w6 ⟨rfl, hb6⟩)
  have B6 : Below w3.heap.size w3 w6 := Below.thru B4 hb6 (Nat.le_refl _)
  refine ⟨.inr B6, ?_⟩
  refine wpMixL_stage ?_
  refine wpQuiet_nil ?_
  go_wp2_with (go_at_call 123; refine (HSet.out _ _ _ _).mono ?_; rintro e w7 ⟨rfl, hb7⟩)
  have B7 : Below w3.heap.size w3 w7 := Below.thru B6 hb7 (Nat.le_refl _)
  refine ⟨.inr B7, ?_⟩
  refine wpMixL_stage ?_
  refine wpQuiet_nil ?_
  have kR7 := kR3.keep B7
  obtain ⟨⟨r0, r1, r2, r3⟩, r4, r5, r6, r7⟩ := kR7.cells
  obtain ⟨⟨s0, s1, s2, s3⟩, s4, s5, s6, s7⟩ := kR7.frozen
  go_wp2
  have BB7 : Below bf w w7 := BB3.trans (B7.mono (by rw [← hbf] at BB3 ⊢; exact BB3.size))
  obtain ⟨wL, hwL, kL, BL⟩ : ∃ wL, wL = put8 w7 (bf + 1 + 1) (upd v xd (makeZ op (atR v xa) (atR v xb) i)) (upd d xd (hangF d (usesL op xa xb) 0)) ∧ FileAt wL (bf + 1 + 1) (upd v xd (makeZ op (atR v xa) (atR v xb) i)) (upd d xd (hangF d (usesL op xa xb) 0)) 35 ∧ Below bf w wL :=
    ⟨_, rfl, kR7.put, below_put8 BB7 (by omega) _ _⟩
  unfold put8 at hwL
  rw [← hwL]
  clear hwL
  refine ⟨.inl trivial, ?_⟩
  refine wpMixL_last ?_
  refine wpQuiet_nil ?_
  obtain ⟨⟨r0, r1, r2, r3⟩, r4, r5, r6, r7⟩ := kL.cells
  go_wp2
  rw [← hbf] at BL
  exact bodyPost_ret (v := fileV (doV v op xd xa xb i) (doD d op xd xa xb)) (by simp [results, Tryz.results127, go_sem, fileV, doV, doD, r0, r1, r2, r3, r4, r5, r6, r7]) rfl ⟨rfl, BL⟩
end Go.Proofs.YtcalinfdckklfaaGreatDoor
