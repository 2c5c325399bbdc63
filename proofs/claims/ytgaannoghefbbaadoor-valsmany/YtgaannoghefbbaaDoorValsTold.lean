/- A trace that comes out of a call, stored whole into a new block; the sizes of traces and bools. -/
import Derived.Test.YtgaannoghefbbaaDoorValsRep
namespace Go.Proofs.YtgaannoghefbbaaDoor
open Go.RowKit

theorem info_boolP : ∃ i, Tryd.prog.info? 4 = some i ∧ i.zero = some (.bool false) ∧ i.size = 1 ∧ i.bytes = 1 := by
  have h : (Tryd.prog.info? 4).map (fun i => (i.zero, i.size, i.bytes)) = some (some (.bool false), 1, 1) := by kernel_rfl
  cases hi : Tryd.prog.info? 4 with
  | none => rw [hi] at h; cases h
  | some i =>
    rw [hi] at h
    simp only [Option.map_some, Option.some.injEq, Prod.mk.injEq] at h
    exact ⟨i, rfl, h.1, h.2.1, h.2.2⟩
theorem info_trP : ∃ i z, Tryd.prog.info? 40 = some i ∧ i.zero = some z ∧ z.cells.size = 16 ∧ i.size = 16 ∧ i.bytes = 192 := by
  have h : (Tryd.prog.info? 40).map (fun i => (i.zero.map (·.cells.size), i.size, i.bytes)) = some (some 16, 16, 192) := by kernel_rfl
  cases hi : Tryd.prog.info? 40 with
  | none => rw [hi] at h; cases h
  | some i =>
    rw [hi] at h
    simp only [Option.map_some, Option.some.injEq, Prod.mk.injEq] at h
    obtain ⟨h1, h2, h3⟩ := h
    cases hz : i.zero with
    | none => rw [hz] at h1; cases h1
    | some z =>
      rw [hz] at h1
      simp only [Option.map_some, Option.some.injEq] at h1
      exact ⟨i, z, rfl, hz, h1, h2, h3⟩
def zeroTrP : Array Value := #[.slice none 0 0, .slice none 0 0, .slice none 0 0, .slice none 0 0, .slice none 0 0, .int .i64 0, .int .i64 0, .int .i64 0, .int .i64 0, .int .u32 0, .int .u32 0, .int .u32 0, .int .u32 0, .int .i64 0, .int .i64 0, .int .i64 0]
section
variable {ops : Array Oper} {rest : List Oper} {o : Oper} {a : Act} {w : World} {Q : Exit → Act → World → Prop}
/-- A trace is stored into a new block. -/
theorem wpList_toldP {T : TypeId} (hi : (Tryd.prog.info? T).map (·.size) = some 16) (hgd : o.guard = none) (x y : Operand) (ho : o.op = .store T x y) {r : Nat → Value} {D : St} {A : Nat → Prop} (hz : TrZ A w r D) (hx : a.eval x = .pointer (some ⟨w.heap.size, 0, none⟩)) (hy : a.eval y = .agg (trC r D))
    (h : ∀ w', TrB w' w.heap.size r D T → Below w.heap.size w w' → wpList Tryd.prog ops Q rest (a.put o.dst undef) w') : wpList Tryd.prog ops Q (o :: rest) a (w.alloc (.cells zeroTrP T (0, 0))) := by
  refine wpList_storeB hgd T x y ho w.heap.size (trC r D) zeroTrP T hx hy Blk.new hi (by rfl) hz.one ?_
  intro w4 kL oL zL
  exact h w4 kL ((below_new _ _).trans (oL.below (by simp) (fun k hk => by omega)))
/-- An event is stored into a new block. -/
theorem wpList_toldE (hgd : o.guard = none) (x y : Operand) (ho : o.op = .store 42 x y) (e : Ev) (hx : a.eval x = .pointer (some ⟨w.heap.size, 0, none⟩)) (hy : a.eval y = .agg e.cells.toArray)
    (h : ∀ w', Blk w' w.heap.size e.cells.toArray 42 → Below w.heap.size w w' → wpList Tryd.prog ops Q rest (a.put o.dst undef) w') : wpList Tryd.prog ops Q (o :: rest) a (w.alloc (.cells #[.int .i64 0, .int .i64 0, .int .i64 0, .int .i64 0, .bool false, .bool false, .bool false] 42 (0, 0))) := by
  refine wpList_storeB hgd 42 x y ho w.heap.size e.cells.toArray _ 42 hx hy Blk.new (by kernel_rfl) (by rfl) (by simp [Value.oneCell', Ev.cells]) ?_
  intro w4 kL oL zL
  exact h w4 kL ((below_new _ _).trans (oL.below (by simp) (fun k hk => by omega)))
end
end Go.Proofs.YtgaannoghefbbaaDoor
