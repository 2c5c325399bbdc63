/- Contracts of the document's Plus, Acyclic, Same; of the law's pairs. -/
import Derived.Test.YtpgbedaonjfpnaaRelRef3
namespace Go.Proofs.Ytpgbedaonjfpnaa
open Go.RowKit
attribute [local go_sem] Ext.cell Ext.frozen

theorem hasR_mk {n : Nat} (f : Nat → Nat → Bool) (hn : n ≤ 32) {i k : Nat} (hi : i < n) (hk : k < n) : hasR (mkR n f) i k = f i k := by
  rw [mkR_has f hn]; simp [hi, hk]
theorem info_int : ((Try.prog.info? 3).map fun i => (i.zero, i.size, i.bytes)) = some (some (.int .i64 0), 1, 8) := by kernel_rfl
theorem pair_same (d : Nat) (a b : Int) (w : World) : (Op.equalIn (d + 2) 45 (.agg #[.int .i64 a, .int .i64 b]) (.agg #[.int .i64 a, .int .i64 b])).run Try.prog w = .ok true w := by
  have h1 : Try.prog.underlying 45 = some (.array 2 3) := by kernel_rfl
  have h3 : Try.prog.underlying 3 = some (.int .i64) := by kernel_rfl
  obtain ⟨i0, j1, j2, j3, j4⟩ := get_info info_int
  rw [Op.equalIn]
  simp only [Sem.run_bind, run_underlying h1, Result.andThen_ok]
  simp [sizeOf, typeInfo, j1, j3, List.range', part, run_equalIn_int _ d 3 .i64 .i64 _ _ h3]
theorem pair_same' (a b : Int) (w : World) : (Op.equalIn 10000 45 (.agg #[.int .i64 a, .int .i64 b]) (.agg #[.int .i64 a, .int .i64 b])).run Try.prog w = .ok true w := pair_same 9998 a b w
attribute [local go_sem] pair_same'
end Go.Proofs.Ytpgbedaonjfpnaa
