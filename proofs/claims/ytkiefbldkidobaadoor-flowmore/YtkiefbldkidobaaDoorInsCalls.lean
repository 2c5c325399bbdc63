/- Contracts of package ins: what each of its functions returns, whatever world it is called in that holds the table. -/
import Derived.Test.YtkiefbldkidobaaDoorProg
import Derived.Test.YtkiefbldkidobaaDoorKit
import Derived.Test.YtkiefbldkidobaaDoorInsPlain
namespace Go.Proofs.YtkiefbldkidobaaDoor
open Go.RowKit

/-- The table of shapes lies in its block. -/
structure Tab (w : World) : Prop where
  pos : 1 < w.heap.size
  name : ∀ op : Int, 0 ≤ op → op < 15 → w.cell? ⟨1, op.toNat * 3, none⟩ = some (.string (nameS op))
  kind : ∀ op : Int, 0 ≤ op → op < 15 → w.cell? ⟨1, op.toNat * 3 + 1, none⟩ = some (.int .i64 (kindZ op))
  fields : ∀ op : Int, 0 ≤ op → op < 15 → w.cell? ⟨1, op.toNat * 3 + 2, none⟩ = some (.int .i64 (fieldsZ op))

theorem Tab.below {w w' : World} (h : Tab w) (hb : Below w.heap.size w w') : Tab w' :=
  ⟨Nat.lt_of_lt_of_le h.pos hb.size, fun op h0 h1 => (hb.cell (p := ⟨_, _, none⟩) h.pos).trans (h.name op h0 h1), fun op h0 h1 => (hb.cell (p := ⟨_, _, none⟩) h.pos).trans (h.kind op h0 h1), fun op h0 h1 => (hb.cell (p := ⟨_, _, none⟩) h.pos).trans (h.fields op h0 h1)⟩
theorem Tab.alloc {w : World} (h : Tab w) (o : Obj) : Tab (w.alloc o) := h.below ((Below.refl _ _).alloc (Nat.le_refl _) _)

def shapeV (op : Int) : Value := .agg #[.string (nameS op), .int .i64 (kindZ op), .int .i64 (fieldsZ op)]
def insV (op d a b l i : Int) : Value := .agg #[.int .i64 op, .int .i64 d, .int .i64 a, .int .i64 b, .int .i64 l, .int .i64 i]

theorem name_out {op : Int} (h : op < 0 ∨ 15 ≤ op) : nameS op = ⟨#[]⟩ ∧ kindZ op = 0 ∧ fieldsZ op = 0 := by
  unfold nameS kindZ fieldsZ
  refine ⟨?_, ?_, ?_⟩
  · repeat rw [if_neg (by omega)]
  · repeat rw [if_neg (by omega)]
  · repeat rw [if_neg (by omega)]

set_option maxHeartbeats 400000 in
theorem shapeOf_out (op : Int) (w : World) (h : op < 0 ∨ 15 ≤ op) :
    Calls Tryd.prog 43 #[.int .i64 op] w fun e w' => e = .returned (.agg #[.string ⟨#[]⟩, .int .i64 0, .int .i64 0]) ∧ Below w.heap.size w w' := by
  rcases h with h | h
  all_goals
    go_enter Tryd.func43, Tryd.ntmps43
    go_wp2
    go_returns
    exact ⟨rfl, by go_grown⟩
set_option maxHeartbeats 400000 in
theorem shapeOf_in (op : Int) (w : World) (h : 0 ≤ op) (h' : op < 15) (hz : 1 < w.heap.size) (a : ByteArray) (k f : Int)
  (h0 : w.cell? ⟨1, op.toNat * 3, none⟩ = some (.string a))
  (h1 : w.cell? ⟨1, op.toNat * 3 + 1, none⟩ = some (.int .i64 k))
  (h2 : w.cell? ⟨1, op.toNat * 3 + 2, none⟩ = some (.int .i64 f)) :
    Calls Tryd.prog 43 #[.int .i64 op] w fun e w' => e = .returned (.agg #[.string a, .int .i64 k, .int .i64 f]) ∧ Below w.heap.size w w' := by
  have hne : w.heap.size ≠ 0 := by omega
  go_enter Tryd.func43, Tryd.ntmps43
  go_wp2
  go_returns
  exact ⟨rfl, by go_grown⟩
theorem shapeOf_any (op : Int) (w : World) (T : Tab w) :
    Calls Tryd.prog 43 #[.int .i64 op] w fun e w' => e = .returned (.agg #[.string (nameS op), .int .i64 (kindZ op), .int .i64 (fieldsZ op)]) ∧ Below w.heap.size w w' := by
  by_cases h : op < 0 ∨ 15 ≤ op
  · obtain ⟨e1, e2, e3⟩ := name_out h
    rw [e1, e2, e3]
    exact shapeOf_out op w h
  · exact shapeOf_in op w (by omega) (by omega) T.pos _ _ _ (T.name op (by omega) (by omega)) (T.kind op (by omega) (by omega)) (T.fields op (by omega) (by omega))

set_option maxHeartbeats 400000 in
theorem has_any (a : ByteArray) (k f b : Int) (w : World) :
    Calls Tryd.prog 45 #[.agg #[.string a, .int .i64 k, .int .i64 f], .int .i64 b] w fun e w' => e = .returned (.bool (bits BinOp.and IntKind.i64 f b != 0)) ∧ Below w.heap.size w w' := by
  go_enter Tryd.func45, Tryd.ntmps45
  go_wp2
  go_ret
  exact ⟨rfl, by go_grown⟩
theorem has_is (a : ByteArray) (k f b : Int) (r : Bool) (w : World) (h : (bits BinOp.and IntKind.i64 f b != 0) = r) :
    Calls Tryd.prog 45 #[.agg #[.string a, .int .i64 k, .int .i64 f], .int .i64 b] w fun e w' => e = .returned (.bool r) ∧ Below w.heap.size w w' := by
  subst h; exact has_any a k f b w

/-- The bits of the fields, one by one. -/
theorem bit_D (op : Int) : (bits BinOp.and IntKind.i64 (fieldsZ op) 1 != 0) = hasDB op := by
  rcases op_cases op with h | h | h | h | h | h | h | h | h | h | h | h | h | h | h
  · have e : fieldsZ op = 0 := by unfold fieldsZ; repeat rw [if_neg (by omega)]
    rw [e]; unfold hasDB; rw [decide_eq_false (by omega)]; decide
  all_goals subst h; decide
theorem bit_A (op : Int) : (bits BinOp.and IntKind.i64 (fieldsZ op) 2 != 0) = hasAB op := by
  rcases op_cases op with h | h | h | h | h | h | h | h | h | h | h | h | h | h | h
  · have e : fieldsZ op = 0 := by unfold fieldsZ; repeat rw [if_neg (by omega)]
    rw [e]; unfold hasAB; rw [decide_eq_false (by omega)]; decide
  all_goals subst h; decide
theorem bit_B (op : Int) : (bits BinOp.and IntKind.i64 (fieldsZ op) 4 != 0) = hasBB op := by
  rcases op_cases op with h | h | h | h | h | h | h | h | h | h | h | h | h | h | h
  · have e : fieldsZ op = 0 := by unfold fieldsZ; repeat rw [if_neg (by omega)]
    rw [e]; unfold hasBB; rw [decide_eq_false (by omega)]; decide
  all_goals subst h; decide
theorem bit_L (op : Int) : (bits BinOp.and IntKind.i64 (fieldsZ op) 8 != 0) = hasLB op := by
  rcases op_cases op with h | h | h | h | h | h | h | h | h | h | h | h | h | h | h
  · have e : fieldsZ op = 0 := by unfold fieldsZ; repeat rw [if_neg (by omega)]
    rw [e]; unfold hasLB; rw [decide_eq_false (by omega)]; decide
  all_goals subst h; decide
theorem bit_I (op : Int) : (bits BinOp.and IntKind.i64 (fieldsZ op) 16 != 0) = hasIB op := by
  rcases op_cases op with h | h | h | h | h | h | h | h | h | h | h | h | h | h | h
  · have e : fieldsZ op = 0 := by unfold fieldsZ; repeat rw [if_neg (by omega)]
    rw [e]; unfold hasIB; rw [decide_eq_false (by omega)]; decide
  all_goals subst h; decide

theorem field_name (a : ByteArray) (k f : Int) (w : World) : Sem.run Tryd.prog (Instr.field 75 (.agg #[.string a, .int .i64 k, .int .i64 f]) 0) w = .ok (.string a) w := by kernel_rfl
theorem field_kind (a : ByteArray) (k f : Int) (w : World) : Sem.run Tryd.prog (Instr.field 75 (.agg #[.string a, .int .i64 k, .int .i64 f]) 1) w = .ok (.int .i64 k) w := by kernel_rfl
attribute [local go_sem] field_name field_kind

set_option maxHeartbeats 400000 in
theorem Kind_any (op d a b l i : Int) (w : World) (T : Tab w) :
    Calls Tryd.prog 56 #[.agg #[.int .i64 op, .int .i64 d, .int .i64 a, .int .i64 b, .int .i64 l, .int .i64 i]] w fun e w' => e = .returned (.int .i64 (kindZ op)) ∧ Below w.heap.size w w' := by
  go_enter Tryd.func56, Tryd.ntmps56
  go_wp2_with (go_at_call 43; refine (shapeOf_any _ _ (T.alloc _)).mono ?_; rintro e w' ⟨rfl, hb⟩)
  go_ret
  exact ⟨rfl, ((Below.refl _ _).alloc (Nat.le_refl _) _).trans (hb.mono (by simp))⟩
set_option maxHeartbeats 400000 in
theorem Gives_any (op d a b l i : Int) (w : World) (T : Tab w) :
    Calls Tryd.prog 60 #[.agg #[.int .i64 op, .int .i64 d, .int .i64 a, .int .i64 b, .int .i64 l, .int .i64 i]] w fun e w' => e = .returned (.int .i64 (givesZ op d)) ∧ Below w.heap.size w w' := by
  cases h : hasDB op
  all_goals
    have hbit := (bit_D op).trans h
    have hg : Hid (givesZ op d = givesZ op d) := rfl
    unfold givesZ
    rw [h]
    go_enter Tryd.func60, Tryd.ntmps60
    go_wp2_with fail
    refine (shapeOf_any _ _ (T.alloc _)).mono ?_
    rintro e w1 ⟨rfl, hb⟩
    obtain ⟨hc, hf⟩ := bcell hb
    go_wp2_with fail
    refine (has_is _ _ _ _ _ _ hbit).mono ?_
    rintro e w2 ⟨rfl, hb2⟩
    obtain ⟨hc2, hf2⟩ := bcell hb2
    have hz : w.heap.size < w1.heap.size := by have := hb.size; simp at this; omega
    go_wp2
    go_ret
    exact ⟨rfl, (((Below.refl _ _).alloc (Nat.le_refl _) _).trans (hb.mono (by simp))).trans (hb2.mono (by omega))⟩
end Go.Proofs.YtkiefbldkidobaaDoor
