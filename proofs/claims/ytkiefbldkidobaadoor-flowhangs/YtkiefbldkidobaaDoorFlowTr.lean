/- A trace as a value, and written into a block. -/
import Derived.Test.YtkiefbldkidobaaDoorFlowRep
namespace Go.Proofs.YtkiefbldkidobaaDoor
open Go.RowKit

def trC (r : Nat → Value) (s : St) : Array Value := #[r 0, r 1, r 2, r 3, r 4, .int .i64 (s.v 0), .int .i64 (s.v 1), .int .i64 (s.v 2), .int .i64 (s.v 3), .int .u32 (s.d 0), .int .u32 (s.d 1), .int .u32 (s.d 2), .int .u32 (s.d 3), .int .i64 (s.vals : Nat), .int .i64 (s.lucks : Nat), .int .i64 s.more]
def trV (r : Nat → Value) (s : St) : Value := .agg (trC r s)
/-- Its rows read as its lists. -/
structure TrIs (w : World) (r : Nat → Value) (s : St) : Prop where
  e0 : Sl EvE w (r 0) s.evs
  e1 : Sl MskE w (r 1) s.ad
  e2 : Sl MskE w (r 2) s.da
  e3 : Sl MskE w (r 3) s.ct
  e4 : Sl IntE w (r 4) s.pa
theorem TrIs.keep {w w' : World} {r : Nat → Value} {s : St} (h : TrIs w r s) (hb : Below w.heap.size w w') : TrIs w' r s := ⟨h.e0.keep hb, h.e1.keep hb, h.e2.keep hb, h.e3.keep hb, h.e4.keep hb⟩
theorem Five.tr {w : World} {base : Nat} {r : Nat → Value} {s : St} (h : Five w base r s.evs s.ad s.da s.ct s.pa) : TrIs w r s := ⟨h.e0.sl.any, h.e1.sl.any, h.e2.sl.any, h.e3.sl.any, h.e4.sl.any⟩
theorem run_five (w : World) (base : Nat) : Five w base (fun _ => .slice none 0 0) [] [] [] [] [] := ⟨Own.nil, Own.nil, Own.nil, Own.nil, Own.nil, fun _ _ _ _ _ _ h => by simp [Value.ownBlock] at h⟩
/-- Its rows are the call's own, and lie in memory that is new. -/
def TrO (w : World) (n : Nat) (r : Nat → Value) (s : St) : Prop := ∃ base, n ≤ base ∧ Five w base r s.evs s.ad s.da s.ct s.pa
theorem TrO.tr {w : World} {n : Nat} {r : Nat → Value} {s : St} (h : TrO w n r s) : TrIs w r s := by
  obtain ⟨_, _, h⟩ := h
  exact Five.tr h
theorem TrO.keep {w w' : World} {n : Nat} {r : Nat → Value} {s : St} (h : TrO w n r s) (hb : Below w.heap.size w w') : TrO w' n r s := by
  obtain ⟨b, hn, h⟩ := h
  exact ⟨b, hn, h.keep hb⟩
theorem tr_zero (w : World) : TrIs w (fun _ => .slice none 0 0) .zero := ⟨SlA.nil, SlA.nil, SlA.nil, SlA.nil, SlA.nil⟩
def TrB (w : World) (b : Nat) (r : Nat → Value) (s : St) (t : TypeId) : Prop := Blk w b (trC r s) t
theorem TrB.keep {w w' : World} {b : Nat} {r : Nat → Value} {s : St} {t : TypeId} (h : TrB w b r s t) (hb : Below w.heap.size w w') : TrB w' b r s t := Blk.keep h hb
theorem TrB.lt {w : World} {b : Nat} {r : Nat → Value} {s : St} {t : TypeId} (h : TrB w b r s t) : b < w.heap.size := Blk.lt h
theorem TrB.frozen {w : World} {b : Nat} {r : Nat → Value} {s : St} {t : TypeId} (h : TrB w b r s t) (i : Nat) : w.frozen? ⟨b, i, none⟩ = false := Blk.frozen h i
theorem TrB.rows {w : World} {b : Nat} {r : Nat → Value} {s : St} {t : TypeId} (h : TrB w b r s t) : w.cell? ⟨b, 0, none⟩ = some (r 0) ∧ w.cell? ⟨b, 1, none⟩ = some (r 1) ∧ w.cell? ⟨b, 2, none⟩ = some (r 2) ∧ w.cell? ⟨b, 3, none⟩ = some (r 3) ∧ w.cell? ⟨b, 4, none⟩ = some (r 4) :=
  ⟨(Blk.cell h 0).trans rfl, (Blk.cell h 1).trans rfl, (Blk.cell h 2).trans rfl, (Blk.cell h 3).trans rfl, (Blk.cell h 4).trans rfl⟩
theorem TrB.regs {w : World} {b : Nat} {r : Nat → Value} {s : St} {t : TypeId} (h : TrB w b r s t) : (w.cell? ⟨b, 5, none⟩ = some (.int .i64 (s.v 0)) ∧ w.cell? ⟨b, 6, none⟩ = some (.int .i64 (s.v 1)) ∧ w.cell? ⟨b, 7, none⟩ = some (.int .i64 (s.v 2)) ∧ w.cell? ⟨b, 8, none⟩ = some (.int .i64 (s.v 3))) ∧ w.cell? ⟨b, 9, none⟩ = some (.int .u32 (s.d 0)) ∧ w.cell? ⟨b, 10, none⟩ = some (.int .u32 (s.d 1)) ∧ w.cell? ⟨b, 11, none⟩ = some (.int .u32 (s.d 2)) ∧ w.cell? ⟨b, 12, none⟩ = some (.int .u32 (s.d 3)) :=
  ⟨⟨(Blk.cell h 5).trans rfl, (Blk.cell h 6).trans rfl, (Blk.cell h 7).trans rfl, (Blk.cell h 8).trans rfl⟩, (Blk.cell h 9).trans rfl, (Blk.cell h 10).trans rfl, (Blk.cell h 11).trans rfl, (Blk.cell h 12).trans rfl⟩
theorem TrB.more {w : World} {b : Nat} {r : Nat → Value} {s : St} {t : TypeId} (h : TrB w b r s t) : w.cell? ⟨b, 13, none⟩ = some (.int .i64 (s.vals : Nat)) ∧ w.cell? ⟨b, 14, none⟩ = some (.int .i64 (s.lucks : Nat)) ∧ w.cell? ⟨b, 15, none⟩ = some (.int .i64 s.more) :=
  ⟨(Blk.cell h 13).trans rfl, (Blk.cell h 14).trans rfl, (Blk.cell h 15).trans rfl⟩
/-- A whole trace written, cell by cell. -/
def put16 (w : World) (b : Nat) (r : Nat → Value) (s : St) : World := ((((((((((((((((w).setCell ⟨b, 0, none⟩ (r 0)).setCell ⟨b, 1, none⟩ (r 1)).setCell ⟨b, 2, none⟩ (r 2)).setCell ⟨b, 3, none⟩ (r 3)).setCell ⟨b, 4, none⟩ (r 4)).setCell ⟨b, 5, none⟩ (.int .i64 (s.v 0))).setCell ⟨b, 6, none⟩ (.int .i64 (s.v 1))).setCell ⟨b, 7, none⟩ (.int .i64 (s.v 2))).setCell ⟨b, 8, none⟩ (.int .i64 (s.v 3))).setCell ⟨b, 9, none⟩ (.int .u32 (s.d 0))).setCell ⟨b, 10, none⟩ (.int .u32 (s.d 1))).setCell ⟨b, 11, none⟩ (.int .u32 (s.d 2))).setCell ⟨b, 12, none⟩ (.int .u32 (s.d 3))).setCell ⟨b, 13, none⟩ (.int .i64 (s.vals : Nat))).setCell ⟨b, 14, none⟩ (.int .i64 (s.lucks : Nat))).setCell ⟨b, 15, none⟩ (.int .i64 s.more)
theorem blk_put16 {w : World} {b : Nat} {r0 r : Nat → Value} {s0 s : St} {t : TypeId} (h : TrB w b r0 s0 t) : TrB (put16 w b r s) b r s t := by
  have k := Blk.set (i := 15) (Blk.set (i := 14) (Blk.set (i := 13) (Blk.set (i := 12) (Blk.set (i := 11) (Blk.set (i := 10) (Blk.set (i := 9) (Blk.set (i := 8) (Blk.set (i := 7) (Blk.set (i := 6) (Blk.set (i := 5) (Blk.set (i := 4) (Blk.set (i := 3) (Blk.set (i := 2) (Blk.set (i := 1) (Blk.set (i := 0) (h) (r 0)) (r 1)) (r 2)) (r 3)) (r 4)) (.int .i64 (s.v 0))) (.int .i64 (s.v 1))) (.int .i64 (s.v 2))) (.int .i64 (s.v 3))) (.int .u32 (s.d 0))) (.int .u32 (s.d 1))) (.int .u32 (s.d 2))) (.int .u32 (s.d 3))) (.int .i64 (s.vals : Nat))) (.int .i64 (s.lucks : Nat))) (.int .i64 s.more)
  simp only [trC, List.setIfInBounds_toArray, List.set] at k
  exact k
theorem below_setT {w : World} {b i : Nat} {B : Nat} {a : World} (h : Below B a w) (hB : B ≤ b) (v : Value) : Below B a (w.setCell ⟨b, i, none⟩ v) :=
  ⟨h.os, h.tape, h.output, Nat.le_trans h.size (by simp [World.setCell]), fun k hk => (Below.heap_setCell _ _ _ _ (by simp; omega)).trans (h.block k hk)⟩
theorem below_put16 {w : World} {b : Nat} {B : Nat} {a : World} (h : Below B a w) (hB : B ≤ b) (r : Nat → Value) (s : St) : Below B a (put16 w b r s) :=
  below_setT (below_setT (below_setT (below_setT (below_setT (below_setT (below_setT (below_setT (below_setT (below_setT (below_setT (below_setT (below_setT (below_setT (below_setT (below_setT (h) hB _) hB _) hB _) hB _) hB _) hB _) hB _) hB _) hB _) hB _) hB _) hB _) hB _) hB _) hB _) hB _
theorem set_only {A : Nat → Prop} {w : World} {b i : Nat} {a : World} (h : Only A a w) (hB : A b) (v : Value) : Only A a (w.setCell ⟨b, i, none⟩ v) :=
  h.trans (grownBy_only (A := A) (grownBy_set w ⟨b, i, none⟩ v) (fun k hk => by cases hk; exact hB)) fun _ h => .inl h
theorem only_put16 {w : World} {b : Nat} {r : Nat → Value} {s : St} : Only (fun k => k = b) w (put16 w b r s) := by
  have k : ∀ {a c : World} {i : Nat} {u : Value}, Only (fun k => k = b) a c → Only (fun k => k = b) a (c.setCell ⟨b, i, none⟩ u) := fun h => set_only (A := fun k => k = b) h rfl _
  exact k (k (k (k (k (k (k (k (k (k (k (k (k (k (k (k (Only.refl))))))))))))))))
end Go.Proofs.YtkiefbldkidobaaDoor
