/- The document's example; files that are the same. -/
import Derived.Test.YtckaniemilmphaaDoorRegsSet
import Derived.Test.YtckaniemilmphaaDoorRegsPlace
import Derived.Test.YtckaniemilmphaaDoorRep
import Derived.OwnWalk
namespace Go.Proofs.YtckaniemilmphaaDoor
open Go.RowKit

theorem info_i64 : ((Tryd.prog.info? 2).map fun i => (i.zero, i.size, i.bytes)) = some (some (.int .i64 0), 1, 8) := by kernel_rfl
theorem info_u32 : ((Tryd.prog.info? 23).map fun i => (i.zero, i.size, i.bytes)) = some (some (.int .u32 0), 1, 4) := by kernel_rfl
theorem four_same (n : Nat) (a b c d : Int) (w : World) : (Op.equalIn (n + 2) 22 (.agg #[.int .i64 a, .int .i64 b, .int .i64 c, .int .i64 d]) (.agg #[.int .i64 a, .int .i64 b, .int .i64 c, .int .i64 d])).run Tryd.prog w = .ok true w := by
  have h1 : Tryd.prog.underlying 22 = some (.array 4 2) := by kernel_rfl
  have h3 : Tryd.prog.underlying 2 = some (.int .i64) := by kernel_rfl
  obtain ⟨i0, j1, j2, j3, j4⟩ := info_parts info_i64
  rw [Op.equalIn]
  simp only [Sem.run_bind, run_underlying h1, Result.andThen_ok]
  simp [sizeOf, typeInfo, j1, j3, List.range', part, run_equalIn_int _ n 2 .i64 .i64 _ _ h3]
theorem fourD_same (n : Nat) (a b c d : Int) (w : World) : (Op.equalIn (n + 2) 24 (.agg #[.int .u32 a, .int .u32 b, .int .u32 c, .int .u32 d]) (.agg #[.int .u32 a, .int .u32 b, .int .u32 c, .int .u32 d])).run Tryd.prog w = .ok true w := by
  have h1 : Tryd.prog.underlying 24 = some (.array 4 23) := by kernel_rfl
  have h3 : Tryd.prog.underlying 23 = some (.int .u32) := by kernel_rfl
  obtain ⟨i0, j1, j2, j3, j4⟩ := info_parts info_u32
  rw [Op.equalIn]
  simp only [Sem.run_bind, run_underlying h1, Result.andThen_ok]
  simp [sizeOf, typeInfo, j1, j3, List.range', part, run_equalIn_int _ n 23 .u32 .u32 _ _ h3]

theorem four_same' (a b c d : Int) (w : World) : (Op.equalIn 9999 22 (.agg #[.int .i64 a, .int .i64 b, .int .i64 c, .int .i64 d]) (.agg #[.int .i64 a, .int .i64 b, .int .i64 c, .int .i64 d])).run Tryd.prog w = .ok true w := four_same 9997 a b c d w
theorem fourD_same' (a b c d : Int) (w : World) : (Op.equalIn 9999 24 (.agg #[.int .u32 a, .int .u32 b, .int .u32 c, .int .u32 d]) (.agg #[.int .u32 a, .int .u32 b, .int .u32 c, .int .u32 d])).run Tryd.prog w = .ok true w := fourD_same 9997 a b c d w

set_option maxHeartbeats 2000000 in
theorem shown_any (w : World) (T : Tab w) : Calls Tryd.prog 7 #[] w fun e w' => e = .returned (.bool true) ∧ Below w.heap.size w w' := by
  have hS := fun w => Set_any (fun _ => 0) (fun _ => 0) 1 3 4 w
  rw [Set_1] at hS
  unfold fileV at hS
  have HS : Hid _ := hS
  clear hS
  have hP := fun w T => Place_any (upd (fun _ => 0) 1 3) (upd (fun _ => 0) 1 4) 5 0 1 0 1 0 2 w T (by decide)
  have e1 : placeZ (upd (fun _ => 0) 1 3) 5 1 1 2 = 0 := by decide
  have e2 : placeD (upd (fun _ => 0) 1 4) 5 1 2 = 4 := by decide
  rw [e1, e2, Set_1] at hP
  have HP : Hid _ := hP
  clear hP e1 e2
  go_enter Tryd.func7, Tryd.ntmps7
  go_wp2_with fail
  refine (HS.out _).mono ?_
  rintro e w1 ⟨rfl, hb1⟩
  go_wp2_with fail
  refine (HP.out _ ((T.below hb1).alloc _)).mono ?_
  rintro e w2 ⟨rfl, hb2⟩
  obtain ⟨hc2, hf2⟩ := bcell hb2
  go_wp2
  go_ret
  exact ⟨rfl, (hb1.alloc hb1.size _).trans (hb2.mono (by simp; exact Nat.le_succ_of_le hb1.size))⟩
end Go.Proofs.YtckaniemilmphaaDoor
