/- ValsShown: ValsDemo, ValsShown, ValsReal, in one text. -/
import Derived.Test.YtgaannoghefbbaaDoorValsP
import Derived.Test.YtgaannoghefbbaaDoorValsCalls
import Derived.Test.YtgaannoghefbbaaDoorTestSame
import Derived.Test.YtgaannoghefbbaaDoorFlowShown
/- The example of layer 9, reckoned. -/
namespace Go.Proofs.YtgaannoghefbbaaDoor
def demo9 : List Ins := [⟨5, 1, -1, 0, 0, 0⟩, ⟨1, 2, 0, 0, 0, 1⟩, ⟨2, 1, 1, 2, 0, 0⟩, ⟨6, 0, -1, 1, 0, 0⟩]
theorem demo9_of : ofZ [0] [demo9] = ([0, 1], 0) := by decide +kernel
theorem demo9_tr : (tracesT demo9 1 [0, 5, 9]).length = 3 := by decide +kernel
end Go.Proofs.YtgaannoghefbbaaDoor

/- The document's example, and a trace as the document has it (layer 9). -/
namespace Go.Proofs.YtgaannoghefbbaaDoor
open Go.RowKit
attribute [local go_sem] Ext.cell Ext.frozen

theorem sl_demo9 {w : World} {b : Nat} {t : TypeId} (h : Blk w b #[.int .i64 5, .int .i64 1, .int .i64 (-1), .int .i64 0, .int .i64 0, .int .i64 0, .int .i64 1, .int .i64 2, .int .i64 0, .int .i64 0, .int .i64 0, .int .i64 1, .int .i64 2, .int .i64 1, .int .i64 1, .int .i64 2, .int .i64 0, .int .i64 0, .int .i64 6, .int .i64 0, .int .i64 (-1), .int .i64 1, .int .i64 0, .int .i64 0] t) : Sl InsE w (.slice (some ⟨b, 0, none⟩) 4 4) demo9 := by
  refine ⟨_, 4, rfl, ⟨(fun e => by cases e), by decide⟩, fun _ => ⟨b, 0, rfl, trivial, fun i hi => ?_⟩⟩
  have hi' : i < 4 := hi
  match i, hi' with
  | 0, _ | 1, _ | 2, _ | 3, _ =>
    refine ⟨_, rfl, fun j u hu => ?_⟩
    rw [Blk.cell h]
    match j, hu with
    | 0, hu | 1, hu | 2, hu | 3, hu | 4, hu | 5, hu => exact hu
    | j + 6, hu => simp [Ins.cells] at hu
theorem sl_ints {w : World} {b : Nat} {t : TypeId} {l : List Int} (h : Blk w b (l.map (Value.int .i64)).toArray t) (_ : l ≠ []) : Sl IntE w (.slice (some ⟨b, 0, none⟩) l.length l.length) l := by
  refine ⟨_, _, rfl, ⟨(fun e => by cases e), Nat.le_refl _⟩, fun _ => ⟨b, 0, rfl, trivial, fun i hi => ⟨_, rfl, fun j u hu => ?_⟩⟩⟩
  rw [Blk.cell h]
  match j, hu with
  | 0, hu =>
    simp at hu
    subst hu
    simp [IntE, hi]
  | j + 1, hu => simp at hu

set_option maxHeartbeats 8000000 in
theorem shown9_any (w : World) (T : FEnv w) : Calls Tryd.prog 7 #[] w fun e w' => e = .returned (.bool true) ∧ Below w.heap.size w w' := by
  have hOf := fun W pi pt ci ct (T : FEnv W) hi ht => Of_any pi pt ci ct [0] [demo9] W T hi ht (by decide) (fun x hx => by rw [List.mem_singleton.1 hx]; exact inZ0)
  have hTr := fun W p pl c cl (T : FEnv W) ht hl => Traces_any p pl c cl demo9 1 [0, 5, 9] W T (by decide) (by decide) ht hl
  rw [demo9_of] at hOf
  have d3 := demo9_tr
  generalize tracesT demo9 1 [0, 5, 9] = L at *
  have HO : Hid _ := hOf
  have HT : Hid _ := hTr
  have H3 : Hid _ := d3
  clear hOf hTr d3
  have F1 := trivial
  obtain ⟨w1, hw1⟩ : ∃ w1, w1 = w.alloc (.cells #[.int .i64 5, .int .i64 1, .int .i64 (-1), .int .i64 0, .int .i64 0, .int .i64 0, .int .i64 1, .int .i64 2, .int .i64 0, .int .i64 0, .int .i64 0, .int .i64 1, .int .i64 2, .int .i64 1, .int .i64 1, .int .i64 2, .int .i64 0, .int .i64 0, .int .i64 6, .int .i64 0, .int .i64 (-1), .int .i64 1, .int .i64 0, .int .i64 0] 29) := ⟨_, rfl⟩
  have k1 : Blk w1 w.heap.size #[.int .i64 5, .int .i64 1, .int .i64 (-1), .int .i64 0, .int .i64 0, .int .i64 0, .int .i64 1, .int .i64 2, .int .i64 0, .int .i64 0, .int .i64 0, .int .i64 1, .int .i64 2, .int .i64 1, .int .i64 1, .int .i64 2, .int .i64 0, .int .i64 0, .int .i64 6, .int .i64 0, .int .i64 (-1), .int .i64 1, .int .i64 0, .int .i64 0] 29 := by rw [hw1]; exact Blk.new
  have b1 : Below w.heap.size w w1 := by rw [hw1]; exact below_new _ _
  have s1 : w1.heap.size = w.heap.size + 1 := by rw [hw1]; simp
  obtain ⟨w2, hw2⟩ : ∃ w2, w2 = w1.alloc (.cells #[.int .i64 0] 2) := ⟨_, rfl⟩
  have k2 : Blk w2 (w.heap.size + 1) #[.int .i64 0] 2 := by rw [hw2]; exact Blk.newAt s1
  have b2 : Below w1.heap.size w1 w2 := by rw [hw2]; exact below_new _ _
  have s2 : w2.heap.size = w.heap.size + 1 + 1 := by rw [hw2]; simp [s1]
  obtain ⟨w3, hw3⟩ : ∃ w3, w3 = w2.alloc (.cells #[.slice (some ⟨w.heap.size, 0, none⟩) 4 4] 22) := ⟨_, rfl⟩
  have k3 : Blk w3 (w.heap.size + 1 + 1) #[.slice (some ⟨w.heap.size, 0, none⟩) 4 4] 22 := by rw [hw3]; exact Blk.newAt s2
  have b3 : Below w2.heap.size w2 w3 := by rw [hw3]; exact below_new _ _
  have s3 : w3.heap.size = w.heap.size + 1 + 1 + 1 := by rw [hw3]; simp [s2]
  have B3 : Below w.heap.size w w3 := Below.thru (Below.thru b1 b2 (Nat.le_refl _)) b3 (Nat.le_refl _)
  have hD3 : Sl InsE w3 (.slice (some ⟨w.heap.size, 0, none⟩) 4 4) demo9 := sl_demo9 ((k1.keep b2).keep b3)
  have hI3 : Sl IntE w3 (.slice (some ⟨w.heap.size + 1, 0, none⟩) 1 1) [0] := sl_ints (l := [0]) (k2.keep b3) (by simp)
  have hT3 : Sl ThrE w3 (.slice (some ⟨w.heap.size + 1 + 1, 0, none⟩) 1 1) [demo9] := sl_one trivial (by rw [Blk.cell k3]; rfl) hD3 (Nat.le_refl _)
  have F2 := trivial
  have HW1 : Hid _ := hw1
  have HW2 : Hid _ := hw2
  have HW3 : Hid _ := hw3
  clear hw1 hw2 hw3 k1 k2 k3 b1 b2 b3 s1 s2
  go_enter Tryd.func7, Tryd.ntmps7
  go_wp2_with (first
    | (go_at_call 13; clear F1; rw [← HW1.out, ← HW2.out, ← HW3.out]; refine (HO.out _ _ _ _ _ (T.below B3) hI3 hT3).mono ?_; rintro e w4 ⟨u, rfl, hU, hb4⟩; obtain ⟨pu, cu, rfl⟩ := hU.len; have B4 := Below.thru B3 hb4 (Nat.le_refl _); have hD4 := hD3.keep hb4; have F3 := trivial)
    | (go_at_call 17; clear F3; refine (Nums_any pu _ cu _ [0, 1] [0, 1] _ (hU.keep (below_new _ _)) (sl_ints (l := [0, 1]) Blk.new (by simp)) (by decide)).mono ?_; rintro e w5 ⟨rfl, nd, rfl⟩; have F4 := trivial)
    | (go_at_call 8; clear F4; have b5 : Below w4.heap.size w4 (((w4.alloc (.cells #[.int .i64 0, .int .i64 1] 2)).drewN nd).alloc (.cells #[.int .i64 0, .int .i64 5, .int .i64 9] 2)) := (below_drewN nd (below_new _ _)).alloc (by simp) _; have B5 := Below.thru B4 b5 (Nat.le_refl _); refine (HT.out _ _ _ _ _ (T.below B5) (hD4.keep b5) (sl_ints (l := [0, 5, 9]) (Blk.newAt (by simp)) (by simp))).mono ?_; rintro e w6 ⟨v6, rfl, hV6, hb6⟩; obtain ⟨p6, c6, rfl⟩ := hV6.len; rw [H3.out]; have B6 := Below.thru B5 hb6 (Nat.le_refl _)))
  go_ret
  exact ⟨rfl, B6⟩
end Go.Proofs.YtgaannoghefbbaaDoor

/- A trace as the document has it (layer 9). -/
namespace Go.Proofs.YtgaannoghefbbaaDoor
open Go.RowKit
attribute [local go_sem] Ext.cell Ext.frozen

end Go.Proofs.YtgaannoghefbbaaDoor
