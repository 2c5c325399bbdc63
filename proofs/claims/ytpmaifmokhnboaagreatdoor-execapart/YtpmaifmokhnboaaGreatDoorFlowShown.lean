/- The document's example, and a trace as the document has it. -/
import Derived.Test.YtpmaifmokhnboaaGreatDoorFlowRun2
import Derived.Test.YtpmaifmokhnboaaGreatDoorFlowSame
namespace Go.Proofs.YtpmaifmokhnboaaGreatDoor
open Go.RowKit
attribute [local go_sem] Ext.cell Ext.frozen

def demoT : List Ins := [⟨5, 1, -1, 0, 0, 0⟩, ⟨6, 0, -1, 1, 0, 0⟩]
theorem demo_is : (runT demoT 1 [7] []).more = 0 ∧ (runT demoT 1 [7] []).da = [0, 1] ∧ (runT demoT 1 [7] []).evs = [⟨0, 1, 0, 7, false, false, false⟩, ⟨0, 2, 0, 7, false, false, false⟩] := by
  refine ⟨?_, ?_, ?_⟩ <;> rfl

theorem sl_demo {w : World} {b : Nat} {t : TypeId} (h : Blk w b #[.int .i64 5, .int .i64 1, .int .i64 (-1), .int .i64 0, .int .i64 0, .int .i64 0, .int .i64 6, .int .i64 0, .int .i64 (-1), .int .i64 1, .int .i64 0, .int .i64 0] t) : Sl InsE w (.slice (some ⟨b, 0, none⟩) 2 2) demoT := by
  refine ⟨_, 2, rfl, ⟨(fun e => by cases e), by decide⟩, fun _ => ⟨b, 0, rfl, trivial, fun i hi => ?_⟩⟩
  have hi' : i < 2 := hi
  match i, hi' with
  | 0, _ =>
    refine ⟨_, rfl, fun j u hu => ?_⟩
    rw [Blk.cell h]
    match j, hu with
    | 0, hu | 1, hu | 2, hu | 3, hu | 4, hu | 5, hu => exact hu
    | j + 6, hu => simp [Ins.cells] at hu
  | 1, _ =>
    refine ⟨_, rfl, fun j u hu => ?_⟩
    rw [Blk.cell h]
    match j, hu with
    | 0, hu | 1, hu | 2, hu | 3, hu | 4, hu | 5, hu => exact hu
    | j + 6, hu => simp [Ins.cells] at hu
theorem sl_int1 {w : World} {b : Nat} {t : TypeId} {x : Int} (h : Blk w b #[.int .i64 x] t) : Sl IntE w (.slice (some ⟨b, 0, none⟩) 1 1) [x] := sl_single trivial rfl (fun j u hu => by rw [Blk.cell h]; simpa using hu) (Nat.le_refl _)

theorem one16T {w : World} {r : Nat → Value} {s : St} (h : TrIs w r s) : (trC r s).all (·.oneCell') = true := by
  obtain ⟨p0, c0, h0⟩ := h.e0.len
  obtain ⟨p1, c1, h1⟩ := h.e1.len
  obtain ⟨p2, c2, h2⟩ := h.e2.len
  obtain ⟨p3, c3, h3⟩ := h.e3.len
  obtain ⟨p4, c4, h4⟩ := h.e4.len
  simp [trC, Value.oneCell', h0, h1, h2, h3, h4]
/-- The variables that the calls read. -/
structure FEnv (w : World) : Prop where
  tab : Tab w
  bar : Bar w
theorem FEnv.below {w w' : World} (h : FEnv w) (hb : Below w.heap.size w w') : FEnv w' := ⟨h.tab.below hb, h.bar.below hb⟩

end Go.Proofs.YtpmaifmokhnboaaGreatDoor
