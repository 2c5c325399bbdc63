/- Executions of events alone; the document's example of layer 11. -/
import Derived.Test.YtgffeihfcmbobaaSrcAll2
import Derived.Test.YtgffeihfcmbobaaSrcMay2
import Derived.Test.YtgffeihfcmbobaaNumsI
namespace Go.Proofs.Ytgffeihfcmbobaa
open Go.RowKit
attribute [local go_sem] Ext.cell Ext.frozen

def nilR : Nat → Value := fun _ => .slice none 0 0
theorem made11_any (p : Option Addr) (n c : Nat) (w : World) : Calls Try.prog 10 #[.slice p n c] w fun e w' => e = .returned (exV (.slice p n c) nilR) ∧ Below w.heap.size w w' := by
  have hb := below_new w (.cells #[.slice p n c, .slice none 0 0, .slice none 0 0, .slice none 0 0, .slice none 0 0, .slice none 0 0, .slice none 0 0] 30)
  have kb : Blk (w.alloc (.cells #[.slice p n c, .slice none 0 0, .slice none 0 0, .slice none 0 0, .slice none 0 0, .slice none 0 0, .slice none 0 0] 30)) w.heap.size #[.slice p n c, nilR 1, nilR 2, nilR 3, nilR 4, nilR 5, nilR 6] 30 := Blk.new
  obtain ⟨z0, z1, z2, z3, z4, z5, z6⟩ := ex_cells kb
  go_enter Try.func10, Try.ntmps10
  go_wp2
  exact bodyPost_ret (v := .agg #[.slice p n c, nilR 1, nilR 2, nilR 3, nilR 4, nilR 5, nilR 6]) (by simp [results, Try.results10, go_sem, z0, z1, z2, z3, z4, z5, z6]) rfl ⟨rfl, hb⟩
theorem want11_any (p : Option Addr) (n c : Nat) (w : World) : Calls Try.prog 11 #[.slice p n c] w fun e w' => e = .returned (exV (.slice p n c) nilR) ∧ Below w.heap.size w w' := by
  have hb := below_new w (.cells #[.slice p n c, .slice none 0 0, .slice none 0 0, .slice none 0 0, .slice none 0 0, .slice none 0 0, .slice none 0 0] 33)
  have kb : Blk (w.alloc (.cells #[.slice p n c, .slice none 0 0, .slice none 0 0, .slice none 0 0, .slice none 0 0, .slice none 0 0, .slice none 0 0] 33)) w.heap.size #[.slice p n c, nilR 1, nilR 2, nilR 3, nilR 4, nilR 5, nilR 6] 33 := Blk.new
  obtain ⟨z0, z1, z2, z3, z4, z5, z6⟩ := ex_cells kb
  go_enter Try.func11, Try.ntmps11
  go_wp2
  exact bodyPost_ret (v := .agg #[.slice p n c, nilR 1, nilR 2, nilR 3, nilR 4, nilR 5, nilR 6]) (by simp [results, Try.results11, go_sem, z0, z1, z2, z3, z4, z5, z6]) rfl ⟨rfl, hb⟩

def demoW : Ev := ⟨0, 2, 0, 0, false, false, false⟩
def demoR : Ev := ⟨0, 1, 0, 0, false, false, false⟩
theorem demo_may : mayZ [demoW, demoR] [0] 1 = [-1, 0] := by decide
theorem demo_all : (srcZ [demoW, demoR] [0]).length = 2 := by decide +kernel
theorem sl_demo11 {w : World} {b : Nat} {t : TypeId} (h : Blk w b (demoW.cells ++ demoR.cells).toArray t) : Sl EvE w (.slice (some ⟨b, 0, none⟩) 2 2) [demoW, demoR] := by
  refine ⟨_, 2, rfl, ⟨(fun e => by cases e), Nat.le_refl _⟩, fun _ => ⟨b, 0, rfl, trivial, fun i hi => ?_⟩⟩
  have hi' : i < 2 := hi
  match i, hi' with
  | 0, _ =>
    refine ⟨_, rfl, fun j u hu => ?_⟩
    rw [Blk.cell h]
    match j, hu with
    | 0, hu | 1, hu | 2, hu | 3, hu | 4, hu | 5, hu | 6, hu => exact hu
    | j + 7, hu => simp [Ev.cells] at hu
  | 1, _ =>
    refine ⟨_, rfl, fun j u hu => ?_⟩
    rw [Blk.cell h]
    match j, hu with
    | 0, hu | 1, hu | 2, hu | 3, hu | 4, hu | 5, hu | 6, hu => exact hu
    | j + 7, hu => simp [Ev.cells] at hu
theorem sl_ints1 {w : World} {b : Nat} {t : TypeId} {x : Int} (h : Blk w b #[.int .i64 x] t) : Sl IntE w (.slice (some ⟨b, 0, none⟩) 1 1) [x] := sl_single trivial rfl (fun j u hj => (h.cell j).trans (by simpa using hj)) (Nat.le_refl _)
theorem sl_ints2 {w : World} {b : Nat} {t : TypeId} {x y : Int} (h : Blk w b #[.int .i64 x, .int .i64 y] t) : Sl IntE w (.slice (some ⟨b, 0, none⟩) 2 2) [x, y] := by
  refine ⟨_, 2, rfl, ⟨(fun e => by cases e), Nat.le_refl _⟩, fun _ => ⟨b, 0, rfl, trivial, fun i hi => ?_⟩⟩
  have hi' : i < 2 := hi
  match i, hi' with
  | 0, _ | 1, _ =>
    refine ⟨_, rfl, fun j u hu => ?_⟩
    rw [Blk.cell h]
    match j, hu with
    | 0, hu => exact hu
    | j + 1, hu => simp at hu

set_option maxRecDepth 20000 in
set_option maxHeartbeats 8000000 in
theorem shown11_any (w : World) : Calls Try.prog 9 #[] w fun e w' => e = .returned (.bool true) ∧ Below w.heap.size w w' := by
  have hM := fun q pi W hl hi => May_any (.slice q 2 2) nilR q pi 2 1 [demoW, demoR] [0] 1 W rfl hl hi (by decide)
  have hA := fun q pi W hl hi => All_any (.slice q 2 2) nilR q pi 2 1 [demoW, demoR] [0] W rfl hl hi (by decide)
  rw [demo_may] at hM
  have HM : Hid _ := hM
  have HA : Hid _ := hA
  have HL : Hid _ := demo_all
  clear hM hA
  generalize srcZ [demoW, demoR] [0] = S at *
  obtain ⟨w1, hw1⟩ : ∃ w1, w.alloc (.cells #[.int .i64 0, .int .i64 2, .int .i64 0, .int .i64 0, .bool false, .bool false, .bool false, .int .i64 0, .int .i64 1, .int .i64 0, .int .i64 0, .bool false, .bool false, .bool false] 49) = w1 := ⟨_, rfl⟩
  have k1 : Blk w1 w.heap.size (demoW.cells ++ demoR.cells).toArray 49 := by rw [← hw1]; exact Blk.new
  have b1 : Below w.heap.size w w1 := by rw [← hw1]; exact below_new _ _
  have F1 := trivial
  go_enter Try.func9, Try.ntmps9
  go_wp2_with (first
    | (clear F1; refine wpList_toldX (w := w1) (T := 30) (by kernel_rfl) (by rfl) (.tmp 1) (.tmp 5) (by rfl) #[.slice (some ⟨w.heap.size, 0, none⟩) 2 2, .slice none 0 0, .slice none 0 0, .slice none 0 0, .slice none 0 0, .slice none 0 0, .slice none 0 0] (by rfl) (by simp [Value.oneCell']) (by rfl) (by rfl) ?_; intro w2 k2 b2; simp only [Act.put]; obtain ⟨z0, z1, z2, z3, z4, z5, z6⟩ := ex_cells (r := nilR) k2; have z0l := k2.lt; have b3 := below_new w2 (.cells #[.int .i64 0] 2); have k3 : Blk (w2.alloc (.cells #[.int .i64 0] 2)) w2.heap.size #[.int .i64 0] 2 := Blk.new; have b23 := Below.thru b2 b3 (Nat.le_refl _); have hE3 := (sl_demo11 k1).keep b23; have hI3 := sl_ints1 k3; have B3 := Below.thru b1 b23 (Nat.le_refl _); have F2 := trivial)
    | (go_at_call 13; clear F2; refine (HM.out (some ⟨w.heap.size, 0, none⟩) (some ⟨w2.heap.size, 0, none⟩) _ hE3 hI3).mono ?_; rintro e w4 ⟨v4, rfl, hV4, hb4⟩; obtain ⟨p4, c4, rfl⟩ := hV4.len; have b5 := below_new w4 (.cells #[.int .i64 (-1), .int .i64 0] 3); have k5 : Blk (w4.alloc (.cells #[.int .i64 (-1), .int .i64 0] 3)) w4.heap.size #[.int .i64 (-1), .int .i64 0] 3 := Blk.new; have F3 := trivial)
    | (go_at_call 12; clear F3; have CI := Ints_int (A := fun k => (w2.alloc (.cells #[.int .i64 0] 2)).heap.size ≤ k) (B := fun _ => True) p4 (some ⟨w4.heap.size, 0, none⟩) c4 2 [-1, 0] [-1, 0] _ (hV4.keep b5) (sl_ints2 k5) (by decide); rw [decide_eq_true rfl] at CI; refine CI.mono ?_; clear CI; rintro e w6 ⟨rfl, hb6⟩; have B46 := Below.thru b3 (Below.thru hb4 (Below.thru b5 hb6 (Nat.le_refl _)) (Nat.le_refl _)) (Nat.le_refl _); have B6 := Below.thru b1 (Below.thru b2 B46 (Nat.le_refl _)) (Nat.le_refl _); have k26 := k2.keep B46; obtain ⟨y0, y1, y2, y3, y4, y5, y6⟩ := ex_cells (r := nilR) k26; have ly := k26.lt; have hE6 := ((sl_demo11 k1).keep b2).keep B46; have b7 := below_new w6 (.cells #[.int .i64 0] 2); have k7 : Blk (w6.alloc (.cells #[.int .i64 0] 2)) w6.heap.size #[.int .i64 0] 2 := Blk.new; have F4 := trivial)
    | (go_at_call 16; clear F4; refine (HA.out (some ⟨w.heap.size, 0, none⟩) (some ⟨w6.heap.size, 0, none⟩) _ (hE6.keep b7) (sl_ints1 k7)).mono ?_; rintro e w8 ⟨u8, rfl, hU8, hb8⟩; obtain ⟨p8, c8, rfl⟩ := hU8.len; rw [HL.out]; have B8 := Below.thru (Below.thru B6 b7 (Nat.le_refl _)) hb8 (Nat.le_refl _); have F5 := trivial))
  go_ret
  exact ⟨rfl, B8⟩
end Go.Proofs.Ytgffeihfcmbobaa
