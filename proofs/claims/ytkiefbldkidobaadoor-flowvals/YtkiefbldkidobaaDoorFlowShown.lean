/- The document's example, and a trace as the document has it. -/
import Derived.Test.YtkiefbldkidobaaDoorFlowRun2
import Derived.Test.YtkiefbldkidobaaDoorFlowSame
namespace Go.Proofs.YtkiefbldkidobaaDoor
open Go.RowKit
attribute [local go_sem] Ext.cell Ext.frozen

set_option maxHeartbeats 4000000 in
theorem real_is (r : Nat → Value) (s : St) (w : World) (h : TrIs w r s) : Calls Tryd.prog 11 #[trV r s] w fun e w' => e = .returned (trV r s) ∧ Below w.heap.size w w' := by
  obtain ⟨p0, c0, h0⟩ := h.e0.len
  obtain ⟨p1, c1, h1⟩ := h.e1.len
  obtain ⟨p2, c2, h2⟩ := h.e2.len
  obtain ⟨p3, c3, h3⟩ := h.e3.len
  obtain ⟨p4, c4, h4⟩ := h.e4.len
  clear h
  unfold trV trC
  have F1 := trivial
  have ka : TrB (w.alloc (.cells (trC r s) 40)) w.heap.size r s 40 := Blk.new
  go_enter Tryd.func11, Tryd.ntmps11
  go_wp2
  go_returns
  exact ⟨by rw [h0, h1, h2, h3, h4], by go_grown⟩

def demoT : List Ins := [⟨5, 1, -1, 0, 0, 0⟩, ⟨6, 0, -1, 1, 0, 0⟩]
theorem demo_is : (runT demoT 1 [7] []).more = 0 ∧ (runT demoT 1 [7] []).da = [0, 1] ∧ (runT demoT 1 [7] []).evs = [⟨0, 1, 0, 7, false, false, false⟩, ⟨0, 2, 0, 7, false, false, false⟩] := by
  refine ⟨?_, ?_, ?_⟩ <;> rfl

theorem sl_demo {w : World} {b : Nat} {t : TypeId} (h : Blk w b #[.int .i64 5, .int .i64 1, .int .i64 (-1), .int .i64 0, .int .i64 0, .int .i64 0, .int .i64 6, .int .i64 0, .int .i64 (-1), .int .i64 1, .int .i64 0, .int .i64 0] t) : Sl InsE w (.slice (some ⟨b, 0, none⟩) 2 2) demoT := by
  refine ⟨_, 2, rfl, ⟨(fun e => by cases e), by decide⟩, fun _ => ⟨b, 0, rfl, trivial, fun i hi => ?_⟩⟩
  have hi' : i < 2 := hi
  match i, hi' with
  | 0, _ =>
    refine ⟨_, rfl, fun j u hu => ?_⟩
    rw [Blk.cell h]
    match j, hu with
    | 0, hu | 1, hu | 2, hu | 3, hu | 4, hu | 5, hu => exact hu
    | j + 6, hu => simp [Ins.cells] at hu
  | 1, _ =>
    refine ⟨_, rfl, fun j u hu => ?_⟩
    rw [Blk.cell h]
    match j, hu with
    | 0, hu | 1, hu | 2, hu | 3, hu | 4, hu | 5, hu => exact hu
    | j + 6, hu => simp [Ins.cells] at hu
theorem sl_int1 {w : World} {b : Nat} {t : TypeId} {x : Int} (h : Blk w b #[.int .i64 x] t) : Sl IntE w (.slice (some ⟨b, 0, none⟩) 1 1) [x] := sl_single trivial rfl (fun j u hu => by rw [Blk.cell h]; simpa using hu) (Nat.le_refl _)

theorem one16T {w : World} {r : Nat → Value} {s : St} (h : TrIs w r s) : (trC r s).all (·.oneCell') = true := by
  obtain ⟨p0, c0, h0⟩ := h.e0.len
  obtain ⟨p1, c1, h1⟩ := h.e1.len
  obtain ⟨p2, c2, h2⟩ := h.e2.len
  obtain ⟨p3, c3, h3⟩ := h.e3.len
  obtain ⟨p4, c4, h4⟩ := h.e4.len
  simp [trC, Value.oneCell', h0, h1, h2, h3, h4]
/-- The variables that the calls read. -/
structure FEnv (w : World) : Prop where
  tab : Tab w
  bar : Bar w
theorem FEnv.below {w w' : World} (h : FEnv w) (hb : Below w.heap.size w w') : FEnv w' := ⟨h.tab.below hb, h.bar.below hb⟩

set_option maxHeartbeats 8000000 in
theorem shown8_any (w : World) (T : FEnv w) : Calls Tryd.prog 9 #[] w fun e w' => e = .returned (.bool true) ∧ Below w.heap.size w w' := by
  obtain ⟨d1, d2, d3⟩ := demo_is
  have hRun := fun W p c pv cv (T : FEnv W) ht hv => Run_any p pv none c cv 0 demoT 1 [7] [] W T.tab T.bar ht hv SlA.nil (by decide) (by decide)
  have HRun : Hid _ := hRun
  generalize runT demoT 1 [7] [] = D at *
  have HD1 : Hid _ := d1
  have HD2 : Hid _ := d2
  have HD3 : Hid _ := d3
  clear d1 d2 d3 hRun
  have Ba := below_new w (.cells #[.int .i64 5, .int .i64 1, .int .i64 (-1), .int .i64 0, .int .i64 0, .int .i64 0, .int .i64 6, .int .i64 0, .int .i64 (-1), .int .i64 1, .int .i64 0, .int .i64 0] 51)
  have Bb := below_new (w.alloc (.cells #[.int .i64 5, .int .i64 1, .int .i64 (-1), .int .i64 0, .int .i64 0, .int .i64 0, .int .i64 6, .int .i64 0, .int .i64 (-1), .int .i64 1, .int .i64 0, .int .i64 0] 51)) (.cells #[.int .i64 7] 2)
  go_enter Tryd.func9, Tryd.ntmps9
  have kA : Blk ((w.alloc (.cells #[.int .i64 5, .int .i64 1, .int .i64 (-1), .int .i64 0, .int .i64 0, .int .i64 0, .int .i64 6, .int .i64 0, .int .i64 (-1), .int .i64 1, .int .i64 0, .int .i64 0] 51)).alloc (.cells #[.int .i64 7] 2)) w.heap.size #[.int .i64 5, .int .i64 1, .int .i64 (-1), .int .i64 0, .int .i64 0, .int .i64 0, .int .i64 6, .int .i64 0, .int .i64 (-1), .int .i64 1, .int .i64 0, .int .i64 0] 51 := Blk.new.alloc _
  have kC : Blk ((w.alloc (.cells #[.int .i64 5, .int .i64 1, .int .i64 (-1), .int .i64 0, .int .i64 0, .int .i64 0, .int .i64 6, .int .i64 0, .int .i64 (-1), .int .i64 1, .int .i64 0, .int .i64 0] 51)).alloc (.cells #[.int .i64 7] 2)) (w.heap.size + 1) #[.int .i64 7] 2 := Blk.newAt (by simp)
  have B0 : Below w.heap.size w ((w.alloc (.cells #[.int .i64 5, .int .i64 1, .int .i64 (-1), .int .i64 0, .int .i64 0, .int .i64 0, .int .i64 6, .int .i64 0, .int .i64 (-1), .int .i64 1, .int .i64 0, .int .i64 0] 51)).alloc (.cells #[.int .i64 7] 2)) := Ba.trans (Bb.mono (by simp))
  have FR := trivial
  go_wp2_with (first
    | (go_at_call 12; clear FR; refine (HRun.out _ _ _ _ _ (T.below B0) (sl_demo kA) (sl_int1 kC)).mono ?_; rintro e w2 ⟨r, rfl, hT, hb2⟩; have FS := trivial)
    | (clear FS; refine wpList_storeB (by rfl) 40 (.tmp 1) (.tmp 6) (by rfl) w2.heap.size (trC r D) #[.slice none 0 0, .slice none 0 0, .slice none 0 0, .slice none 0 0, .slice none 0 0, .int .i64 0, .int .i64 0, .int .i64 0, .int .i64 0, .int .u32 0, .int .u32 0, .int .u32 0, .int .u32 0, .int .i64 0, .int .i64 0, .int .i64 0] 40 (by rfl) (by rfl) Blk.new (by kernel_rfl) (by rfl) (one16T hT) ?_; intro w4 kL oL zL; simp only [Act.put]; have B24 : Below w2.heap.size w2 w4 := (below_new _ _).trans (oL.below (by simp) (fun k hk => by omega)); have hE := hT.e0.keep B24; rw [HD3.out] at hE; have hDa := hT.e2.keep B24; rw [HD2.out] at hDa; obtain ⟨p0, c0, h0⟩ := hE.len; obtain ⟨p2, c2, h2⟩ := hDa.len; rw [h0] at hE; rw [h2] at hDa; obtain ⟨gb, go, rfl, -, -, -, gv, -⟩ := (ev_at hE).2 1 (by decide); obtain ⟨gd, gq, rfl, gm⟩ := (msk_at hDa).2 1 (by decide); obtain ⟨x0, -, x2, -⟩ := TrB.rows (r := r) (s := D) kL; obtain ⟨-, -, xf⟩ := TrB.more (r := r) (s := D) kL; rw [h0] at x0; rw [h2] at x2; rw [HD1.out] at xf; simp only [List.length_cons, List.length_nil, Nat.zero_add, Nat.reduceAdd, List.getElem_cons_succ, List.getElem_cons_zero, Nat.one_mul] at x0 x2 gv gm; have lk := Blk.lt kL; have lgv := cell_lt gv; have lgm := cell_lt gm))
  go_returns
  exact ⟨rfl, Below.thru (Below.thru B0 hb2 (Nat.le_refl _)) B24 (Nat.le_refl _)⟩
end Go.Proofs.YtkiefbldkidobaaDoor
