/- The document's example; files that are the same. -/
import Derived.Test.YtkiefbldkidobaaDoorRegsSet
import Derived.Test.YtkiefbldkidobaaDoorRegsPlace
import Derived.Test.YtkiefbldkidobaaDoorRep
import Derived.OwnWalk
namespace Go.Proofs.YtkiefbldkidobaaDoor
open Go.RowKit

theorem info_i64 : ((Tryd.prog.info? 2).map fun i => (i.zero, i.size, i.bytes)) = some (some (.int .i64 0), 1, 8) := by kernel_rfl
theorem info_u32 : ((Tryd.prog.info? 31).map fun i => (i.zero, i.size, i.bytes)) = some (some (.int .u32 0), 1, 4) := by kernel_rfl
theorem four_same (n : Nat) (a b c d : Int) (w : World) : (Op.equalIn (n + 2) 30 (.agg #[.int .i64 a, .int .i64 b, .int .i64 c, .int .i64 d]) (.agg #[.int .i64 a, .int .i64 b, .int .i64 c, .int .i64 d])).run Tryd.prog w = .ok true w := by
  have h1 : Tryd.prog.underlying 30 = some (.array 4 2) := by kernel_rfl
  have h3 : Tryd.prog.underlying 2 = some (.int .i64) := by kernel_rfl
  obtain ⟨i0, j1, j2, j3, j4⟩ := info_parts info_i64
  rw [Op.equalIn]
  simp only [Sem.run_bind, run_underlying h1, Result.andThen_ok]
  simp [sizeOf, typeInfo, j1, j3, List.range', part, run_equalIn_int _ n 2 .i64 .i64 _ _ h3]
theorem fourD_same (n : Nat) (a b c d : Int) (w : World) : (Op.equalIn (n + 2) 32 (.agg #[.int .u32 a, .int .u32 b, .int .u32 c, .int .u32 d]) (.agg #[.int .u32 a, .int .u32 b, .int .u32 c, .int .u32 d])).run Tryd.prog w = .ok true w := by
  have h1 : Tryd.prog.underlying 32 = some (.array 4 31) := by kernel_rfl
  have h3 : Tryd.prog.underlying 31 = some (.int .u32) := by kernel_rfl
  obtain ⟨i0, j1, j2, j3, j4⟩ := info_parts info_u32
  rw [Op.equalIn]
  simp only [Sem.run_bind, run_underlying h1, Result.andThen_ok]
  simp [sizeOf, typeInfo, j1, j3, List.range', part, run_equalIn_int _ n 31 .u32 .u32 _ _ h3]

theorem four_same' (a b c d : Int) (w : World) : (Op.equalIn 9999 30 (.agg #[.int .i64 a, .int .i64 b, .int .i64 c, .int .i64 d]) (.agg #[.int .i64 a, .int .i64 b, .int .i64 c, .int .i64 d])).run Tryd.prog w = .ok true w := four_same 9997 a b c d w
theorem fourD_same' (a b c d : Int) (w : World) : (Op.equalIn 9999 32 (.agg #[.int .u32 a, .int .u32 b, .int .u32 c, .int .u32 d]) (.agg #[.int .u32 a, .int .u32 b, .int .u32 c, .int .u32 d])).run Tryd.prog w = .ok true w := fourD_same 9997 a b c d w

end Go.Proofs.YtkiefbldkidobaaDoor
