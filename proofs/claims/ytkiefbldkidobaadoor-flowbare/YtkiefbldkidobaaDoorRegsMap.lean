/- The map of functions that makers returns, what it holds, and what each of its functions returns. -/
import Derived.Test.YtkiefbldkidobaaDoorRegsRep
import Derived.Maps.OwnSet
import Derived.Maps.OwnOps
namespace Go.Proofs.YtkiefbldkidobaaDoor
open Go.RowKit Go.Maps

/-- A function of the program, as an entry reads. -/
def funElem : Value → Option (DataW Unit × List MemPlace)
  | .func (.func f) p c => if p.size = 0 ∧ c.size = 0 then some (.lit (.int .i64 (f : Nat)), []) else none
  | .nilFunc => some (.lit (.int .i64 (-1)), [])
  | _ => none
theorem funElem_mk (f : Nat) : funElem (.func (.func f) #[] #[]) = some (.lit (.int .i64 (f : Nat)), []) := rfl
/-- What the map reads as. -/
def makersD : DataW Unit := .map [(.int .i64 1, .lit (.int .i64 63)), (.int .i64 2, .lit (.int .i64 64)), (.int .i64 3, .lit (.int .i64 65)), (.int .i64 4, .lit (.int .i64 66))]

theorem makers_any (w : World) : Calls Tryd.prog 59 #[] w fun e w' => ∃ b, e = .returned (.map (some b)) ∧ w'.ownsMap Tryd.prog 3 funElem b 4 makersD ∧ w.heap.size ≤ b ∧ Below w.heap.size w w' := by
  have hmm := @run_makeMap Tryd.prog
  have K : Keyed Tryd.prog 3 := int_keyed Tryd.underlying3
  have key : ∀ k : Int, (Lit.int .i64 k).wf = true → keyOf Tryd.prog 3 (.int .i64 k) = some (.int .i64 k) := fun k h => keyOf_int_mk Tryd.underlying3 h
  have o0 := World.ownsMap_made w Tryd.prog 3 funElem
  obtain ⟨w1, r1, o1, g1⟩ := o0.update (t := 92) K Tryd.underlying92 (by decide) (key 1 rfl) (funElem_mk 63)
  obtain ⟨w2, r2, o2, g2⟩ := o1.update (t := 92) K Tryd.underlying92 (by decide) (key 2 rfl) (funElem_mk 64)
  obtain ⟨w3, r3, o3, g3⟩ := o2.update (t := 92) K Tryd.underlying92 (by decide) (key 3 rfl) (funElem_mk 65)
  obtain ⟨w4, r4, o4, g4⟩ := o3.update (t := 92) K Tryd.underlying92 (by decide) (key 4 rfl) (funElem_mk 66)
  go_enter Tryd.func59, Tryd.ntmps59
  go_wp2
  go_ret
  refine ⟨_, rfl, ?_, Nat.le_refl _, ?_⟩
  · exact o4
  · have q0 : w.heap.size ≤ (w.alloc (Obj.map #[] 0)).heap.size := by simp
    have hk : ∀ k : Nat, some w.heap.size = some k → w.heap.size ≤ k := fun k h => by cases h; exact Nat.le_refl _
    exact (((((Below.refl _ _).alloc (Nat.le_refl _) _).grown g1 q0 hk).grown g2 (Nat.le_trans q0 g1.size) hk).grown g3 (Nat.le_trans q0 (Nat.le_trans g1.size g2.size)) hk).grown g4 (Nat.le_trans q0 (Nat.le_trans g1.size (Nat.le_trans g2.size g3.size))) hk

theorem zeroFn (w : World) : (zeroValue 90).run Tryd.prog w = .ok .nilFunc w := by kernel_rfl
theorem funElem_inv {v : Value} {n : Int} {ps : List MemPlace} (h : funElem v = some (.lit (.int .i64 n), ps)) : (n = -1 ∧ v = .nilFunc) ∨ ∃ f : Nat, n = f ∧ v = .func (.func f) #[] #[] := by
  unfold funElem at h
  split at h
  · split at h
    · rename_i hs
      simp only [Option.some.injEq, Prod.mk.injEq, DataW.lit.injEq, Lit.int.injEq, true_and] at h
      refine .inr ⟨_, h.1.symm, ?_⟩
      rw [Array.eq_empty_of_size_eq_zero hs.1, Array.eq_empty_of_size_eq_zero hs.2]
    · cases h
  · simp only [Option.some.injEq, Prod.mk.injEq, DataW.lit.injEq, Lit.int.injEq, true_and] at h
    exact .inl ⟨h.1.symm, rfl⟩
  · cases h

theorem look_run {w : World} {b : Nat} (h : w.ownsMap Tryd.prog 3 funElem b 4 makersD) (op : Int) (hw : (Lit.int .i64 op).wf = true) : ∃ v ps, (Instr.lookup 92 (.map (some b)) (.int .i64 op) true).run Tryd.prog w = .ok (.tuple #[v, .bool (Maps.has makersD (.int .i64 op))]) w ∧ funElem v = some (makersD.atKey (.int .i64 op) (.lit (.int .i64 (-1))), ps) :=
  h.look_ok (t := 92) (int_keyed Tryd.underlying3) Tryd.underlying92 (zeroFn w) (zd := .lit (.int .i64 (-1))) (zp := []) rfl (keyOf_int_mk Tryd.underlying3 hw)
theorem look_in {w : World} {b : Nat} (h : w.ownsMap Tryd.prog 3 funElem b 4 makersD) (op : Int) (f : Nat) (hop : (op = 1 ∧ f = 63) ∨ (op = 2 ∧ f = 64) ∨ (op = 3 ∧ f = 65) ∨ (op = 4 ∧ f = 66)) :
    (Instr.lookup 92 (.map (some b)) (.int .i64 op) true).run Tryd.prog w = .ok (.tuple #[.func (.func f) #[] #[], .bool true]) w := by
  obtain ⟨v, ps, hr, hv⟩ := look_run h op (by rcases hop with h | h | h | h <;> (rw [h.1]; rfl))
  have hat : makersD.atKey (.int .i64 op) (.lit (.int .i64 (-1))) = .lit (.int .i64 (f : Nat)) := by rcases hop with h | h | h | h <;> (rw [h.1, h.2]; rfl)
  have hhas : Maps.has makersD (.int .i64 op) = true := by rcases hop with h | h | h | h <;> (rw [h.1]; rfl)
  rw [hat] at hv
  rw [hhas] at hr
  rcases funElem_inv hv with ⟨h1, _⟩ | ⟨g, h1, rfl⟩
  · omega
  · have : f = g := by omega
    subst this
    exact hr
theorem look_out {w : World} {b : Nat} (h : w.ownsMap Tryd.prog 3 funElem b 4 makersD) (op : Int) (hw : (Lit.int .i64 op).wf = true) (hop : op < 1 ∨ 4 < op) :
    (Instr.lookup 92 (.map (some b)) (.int .i64 op) true).run Tryd.prog w = .ok (.tuple #[.nilFunc, .bool false]) w := by
  obtain ⟨v, ps, hr, hv⟩ := look_run h op hw
  have ne : ∀ k : Int, 1 ≤ k → k ≤ 4 → (Lit.int .i64 k).sameKey (.int .i64 op) = false := fun k h1 h2 => by
    have : k ≠ op := by omega
    simp [Lit.sameKey, this]
  have hat : makersD.atKey (.int .i64 op) (.lit (.int .i64 (-1))) = .lit (.int .i64 (-1)) := by
    unfold makersD DataW.atKey
    simp [ne 1, ne 2, ne 3, ne 4]
  have hhas : Maps.has makersD (.int .i64 op) = false := by
    unfold makersD Maps.has
    simp [ne 1, ne 2, ne 3, ne 4]
  rw [hat] at hv
  rw [hhas] at hr
  rcases funElem_inv hv with ⟨_, rfl⟩ | ⟨g, h1, _⟩
  · exact hr
  · omega

/-- What an operation makes of two numbers, and of Imm. -/
def makeZ (op a b i : Int) : Int := if op = 1 then i else if op = 2 then wrap64 (a + b) else if op = 3 then bits .xor .i64 a b else bits .and .i64 a b
theorem make1_any (a b i : Int) (w : World) : Calls Tryd.prog 63 #[.int .i64 a, .int .i64 b, .int .i64 i] w fun e w' => e = .returned (.int .i64 (makeZ 1 a b i)) ∧ w' = w := by
  rw [show makeZ 1 a b i = i from rfl]
  go_enter Tryd.func63, Tryd.ntmps63
  go_wp2
  go_ret
  exact ⟨rfl, rfl⟩
theorem make2_any (a b i : Int) (w : World) : Calls Tryd.prog 64 #[.int .i64 a, .int .i64 b, .int .i64 i] w fun e w' => e = .returned (.int .i64 (makeZ 2 a b i)) ∧ w' = w := by
  rw [show makeZ 2 a b i = wrap64 (a + b) from rfl]
  go_enter Tryd.func64, Tryd.ntmps64
  go_wp2
  go_ret
  exact ⟨rfl, rfl⟩
theorem make3_any (a b i : Int) (w : World) : Calls Tryd.prog 65 #[.int .i64 a, .int .i64 b, .int .i64 i] w fun e w' => e = .returned (.int .i64 (makeZ 3 a b i)) ∧ w' = w := by
  rw [show makeZ 3 a b i = bits .xor .i64 a b from rfl]
  go_enter Tryd.func65, Tryd.ntmps65
  go_wp2
  go_ret
  exact ⟨rfl, rfl⟩
theorem make4_any (a b i : Int) (w : World) : Calls Tryd.prog 66 #[.int .i64 a, .int .i64 b, .int .i64 i] w fun e w' => e = .returned (.int .i64 (makeZ 4 a b i)) ∧ w' = w := by
  rw [show makeZ 4 a b i = bits .and .i64 a b from rfl]
  go_enter Tryd.func66, Tryd.ntmps66
  go_wp2
  go_ret
  exact ⟨rfl, rfl⟩
theorem make_any (op : Int) (f : Nat) (hop : (op = 1 ∧ f = 63) ∨ (op = 2 ∧ f = 64) ∨ (op = 3 ∧ f = 65) ∨ (op = 4 ∧ f = 66)) (a b i : Int) (w : World) : Calls Tryd.prog f #[.int .i64 a, .int .i64 b, .int .i64 i] w fun e w' => e = .returned (.int .i64 (makeZ op a b i)) ∧ w' = w := by
  rcases hop with ⟨rfl, rfl⟩ | ⟨rfl, rfl⟩ | ⟨rfl, rfl⟩ | ⟨rfl, rfl⟩
  · exact make1_any a b i w
  · exact make2_any a b i w
  · exact make3_any a b i w
  · exact make4_any a b i w
end Go.Proofs.YtkiefbldkidobaaDoor
