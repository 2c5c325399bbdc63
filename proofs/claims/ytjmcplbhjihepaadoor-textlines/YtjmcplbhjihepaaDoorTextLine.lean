/- Contracts of text's small functions, and of text.Line. -/
import Derived.Test.YtjmcplbhjihepaaDoorTextLib
namespace Go.Proofs.YtjmcplbhjihepaaDoor
open Go.RowKit

set_option maxHeartbeats 1000000 in
theorem fieldsOf_any (op d a b l i : Int) (w : World) :
    Calls Tryd.prog 25 #[.agg #[.int .i64 op, .int .i64 d, .int .i64 a, .int .i64 b, .int .i64 l, .int .i64 i]] w fun e w' => e = .returned (.agg #[.int .i64 d, .int .i64 a, .int .i64 b, .int .i64 l, .int .i64 i]) ∧ Below w.heap.size w w' := by
  go_enter Tryd.func25, Tryd.ntmps25
  go_wp2
  go_returns
  exact ⟨rfl, by go_grown⟩
set_option maxHeartbeats 1000000 in
theorem instruction_any (op d a b l i : Int) (w : World) :
    Calls Tryd.prog 15 #[.agg #[.int .i64 d, .int .i64 a, .int .i64 b, .int .i64 l, .int .i64 i], .int .i64 op] w fun e w' => e = .returned (.agg #[.int .i64 op, .int .i64 d, .int .i64 a, .int .i64 b, .int .i64 l, .int .i64 i]) ∧ Below w.heap.size w w' := by
  go_enter Tryd.func15, Tryd.ntmps15
  go_wp2
  go_returns
  exact ⟨rfl, by go_grown⟩
set_option maxHeartbeats 1000000 in
theorem pointers_any (F : Nat) (w : World) :
    Calls Tryd.prog 12 #[.pointer (some ⟨F, 0, none⟩)] w fun e w' => e = .returned (.agg #[.pointer (some ⟨F, 0, none⟩), .pointer (some ⟨F, 1, none⟩), .pointer (some ⟨F, 2, none⟩), .pointer (some ⟨F, 3, none⟩), .pointer (some ⟨F, 4, none⟩)]) ∧ Below w.heap.size w w' := by
  have mixed : Tryd.prog.follows .mixedOrders = true := by kernel_rfl
  go_enter Tryd.func12, Tryd.ntmps12
  go_wp2
  go_region
  go_wp2
  go_returns
  exact ⟨rfl, by go_grown⟩

theorem ptr0_at (F : Nat) (w : World) : Sem.run Tryd.prog (Instr.index 44 (.agg #[.pointer (some ⟨F, 0, none⟩), .pointer (some ⟨F, 1, none⟩), .pointer (some ⟨F, 2, none⟩), .pointer (some ⟨F, 3, none⟩), .pointer (some ⟨F, 4, none⟩)]) (.int .i64 0)) w = .ok (.pointer (some ⟨F, 0, none⟩)) w := by kernel_rfl
theorem ptr1_at (F : Nat) (w : World) : Sem.run Tryd.prog (Instr.index 44 (.agg #[.pointer (some ⟨F, 0, none⟩), .pointer (some ⟨F, 1, none⟩), .pointer (some ⟨F, 2, none⟩), .pointer (some ⟨F, 3, none⟩), .pointer (some ⟨F, 4, none⟩)]) (.int .i64 1)) w = .ok (.pointer (some ⟨F, 1, none⟩)) w := by kernel_rfl
theorem ptr2_at (F : Nat) (w : World) : Sem.run Tryd.prog (Instr.index 44 (.agg #[.pointer (some ⟨F, 0, none⟩), .pointer (some ⟨F, 1, none⟩), .pointer (some ⟨F, 2, none⟩), .pointer (some ⟨F, 3, none⟩), .pointer (some ⟨F, 4, none⟩)]) (.int .i64 2)) w = .ok (.pointer (some ⟨F, 2, none⟩)) w := by kernel_rfl
theorem ptr3_at (F : Nat) (w : World) : Sem.run Tryd.prog (Instr.index 44 (.agg #[.pointer (some ⟨F, 0, none⟩), .pointer (some ⟨F, 1, none⟩), .pointer (some ⟨F, 2, none⟩), .pointer (some ⟨F, 3, none⟩), .pointer (some ⟨F, 4, none⟩)]) (.int .i64 3)) w = .ok (.pointer (some ⟨F, 3, none⟩)) w := by kernel_rfl
theorem ptr4_at (F : Nat) (w : World) : Sem.run Tryd.prog (Instr.index 44 (.agg #[.pointer (some ⟨F, 0, none⟩), .pointer (some ⟨F, 1, none⟩), .pointer (some ⟨F, 2, none⟩), .pointer (some ⟨F, 3, none⟩), .pointer (some ⟨F, 4, none⟩)]) (.int .i64 4)) w = .ok (.pointer (some ⟨F, 4, none⟩)) w := by kernel_rfl
attribute [local go_sem] ptr0_at ptr1_at ptr2_at ptr3_at ptr4_at

theorem may_has (op : Int) (hop : 1 ≤ op ∧ op ≤ 14) : mayB op 1 0 0 0 0 1 2 = hasDB op ∧ mayB op 0 1 0 0 0 1 2 = hasAB op ∧ mayB op 0 0 1 0 0 1 2 = hasBB op ∧ mayB op 0 0 0 1 0 1 2 = hasLB op ∧ mayB op 0 0 0 0 1 1 2 = hasIB op := by
  rcases op_cases op with h | h | h | h | h | h | h | h | h | h | h | h | h | h | h
  · omega
  all_goals subst h; decide
set_option maxRecDepth 100000 in
set_option maxHeartbeats 2000000 in
theorem hasT_any (op : Int) (k : Nat) (hk : k < 5) (hop : 1 ≤ op ∧ op ≤ 14) (w : World) (E : Env w) :
    Calls Tryd.prog 13 #[.int .i64 op, .int .i64 k] w fun e w' => e = .returned (.bool (hasF op k)) ∧ Below w.heap.size w w' := by
  obtain ⟨m0, m1, m2, m3, m4⟩ := may_has op hop
  have M : Hid _ := (⟨m0, m1, m2, m3, m4⟩ : _ ∧ _ ∧ _ ∧ _ ∧ _)
  clear m0 m1 m2 m3 m4
  have hk' : k = 0 ∨ k = 1 ∨ k = 2 ∨ k = 3 ∨ k = 4 := by omega
  rcases hk' with rfl | rfl | rfl | rfl | rfl
  all_goals
    first | rw [show ((0 : Nat) : Int) = 0 from rfl] | rw [show ((1 : Nat) : Int) = 1 from rfl] | rw [show ((2 : Nat) : Int) = 2 from rfl] | rw [show ((3 : Nat) : Int) = 3 from rfl] | rw [show ((4 : Nat) : Int) = 4 from rfl]
    go_enter Tryd.func13, Tryd.ntmps13
    go_wp2_with fail
    refine (pointers_any _ _).mono ?_
    rintro e w1 ⟨rfl, hb1⟩
    have hB1 : Below w.heap.size w w1 := ((Below.refl _ _).alloc (Nat.le_refl _) _).trans (hb1.mono (by simp))
    have hK : Blk w1 w.heap.size #[.int .i64 0, .int .i64 0, .int .i64 0, .int .i64 0, .int .i64 0] 42 := Blk.keep Blk.new hb1
    clear hb1
    have hz := hK.lt
    have hB : w.heap.size ≤ w.heap.size := Nat.le_refl _
    generalize hF : w.heap.size = F at hK hz ⊢
    have HF : Hid _ := hF
    clear hF
    have hc : ∀ j, w1.cell? ⟨F, j, none⟩ = #[Value.int .i64 0, .int .i64 0, .int .i64 0, .int .i64 0, .int .i64 0][j]? := fun j => hK.cell j
    have hf : ∀ j, w1.frozen? ⟨F, j, none⟩ = false := fun j => hK.frozen j
    go_wp2_with fail
    have hB2 : ∀ j v, Below w.heap.size w (w1.setCell ⟨F, j, none⟩ v) := fun j v => hB1.setCell (p := ⟨F, j, none⟩) (show w.heap.size ≤ F from Nat.le_of_eq HF.out) v
    refine (instruction_any _ _ _ _ _ _ _).mono ?_
    rintro e w3 ⟨rfl, hb3⟩
    have hB3 := (hB2 _ _).trans (hb3.mono (hB2 _ _).size)
    go_wp2_with fail
    refine (May_any _ _ _ _ _ _ _ _ _ (E.below hB3).tab).mono ?_
    rintro e w4 ⟨rfl, hb4⟩
    go_wp2
    go_ret
    exact ⟨by first | rw [M.out.1]; rfl | rw [M.out.2.1]; rfl | rw [M.out.2.2.1]; rfl | rw [M.out.2.2.2.1]; rfl | rw [M.out.2.2.2.2]; rfl, hB3.trans (hb4.mono hB3.size)⟩
end Go.Proofs.YtjmcplbhjihepaaDoor
