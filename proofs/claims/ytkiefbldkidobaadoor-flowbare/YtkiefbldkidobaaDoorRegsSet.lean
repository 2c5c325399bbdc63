/- Set, the file of the document as one of the program, and back. -/
import Derived.Test.YtkiefbldkidobaaDoorRegsRep
namespace Go.Proofs.YtkiefbldkidobaaDoor
open Go.RowKit

theorem Set_0 (v d : Nat → Int) (x y : Int) : fileV (upd v 0 x) (upd d 0 y) = .agg #[.int .i64 x, .int .i64 (v 1), .int .i64 (v 2), .int .i64 (v 3), .int .u32 y, .int .u32 (d 1), .int .u32 (d 2), .int .u32 (d 3)] := by simp [fileV, upd]
theorem Set_1 (v d : Nat → Int) (x y : Int) : fileV (upd v 1 x) (upd d 1 y) = .agg #[.int .i64 (v 0), .int .i64 x, .int .i64 (v 2), .int .i64 (v 3), .int .u32 (d 0), .int .u32 y, .int .u32 (d 2), .int .u32 (d 3)] := by simp [fileV, upd]
theorem Set_2 (v d : Nat → Int) (x y : Int) : fileV (upd v 2 x) (upd d 2 y) = .agg #[.int .i64 (v 0), .int .i64 (v 1), .int .i64 x, .int .i64 (v 3), .int .u32 (d 0), .int .u32 (d 1), .int .u32 y, .int .u32 (d 3)] := by simp [fileV, upd]
theorem Set_3 (v d : Nat → Int) (x y : Int) : fileV (upd v 3 x) (upd d 3 y) = .agg #[.int .i64 (v 0), .int .i64 (v 1), .int .i64 (v 2), .int .i64 x, .int .u32 (d 0), .int .u32 (d 1), .int .u32 (d 2), .int .u32 y] := by simp [fileV, upd]

set_option maxHeartbeats 2000000 in
theorem Set_any (v d : Nat → Int) (n x y : Int) (w : World) : Calls Tryd.prog 51 #[fileV v d, .int .i64 n, .int .i64 x, .int .u32 y] w fun e w' => e = .returned (fileV (upd v n x) (upd d n y)) ∧ Below w.heap.size w w' := by
  rcases reg_cases n with h | h | h | h | h
  case inr.inr.inr.inr =>
    rw [fileV_out v d x y h]
    unfold fileV
    have hr : decide (0 ≤ n ∧ n < 4) = false := decide_eq_false (by omega)
    go_enter Tryd.func51, Tryd.ntmps51
    go_wp2_with (go_at_call 58; refine (regsReg_is _ _ _ hr).mono ?_; rintro e w' ⟨rfl, rfl⟩)
    go_returns
    exact ⟨rfl, by go_grown⟩
  all_goals
    subst h
    first | rw [Set_0] | rw [Set_1] | rw [Set_2] | rw [Set_3]
    unfold fileV
    go_enter Tryd.func51, Tryd.ntmps51
    go_wp2_with (go_at_call 58; refine (regsReg_is _ _ _ rfl).mono ?_; rintro e w' ⟨rfl, rfl⟩)
    go_returns
    exact ⟨rfl, by go_grown⟩

end Go.Proofs.YtkiefbldkidobaaDoor
