/- Contracts of rel's small functions: things, isThing, hasBit, allBits, New. -/
import Derived.Test.YtpgbedaonjfpnaaRelRep
import Derived.Test.YtpgbedaonjfpnaaProg
namespace Go.Proofs.Ytpgbedaonjfpnaa
open Go.RowKit

set_option maxHeartbeats 1000000 in
theorem hasBit_any (x k : Nat) (w : World) (hx : x < 4294967296) (_hk : k < 64) : Calls Try.prog 29 #[.int .u32 (x : Int), .int .i64 (k : Int)] w fun e w' => e = .returned (.bool (x.testBit k)) ∧ Below w.heap.size w w' := by
  go_enter Try.func29, Try.ntmps29
  go_wp2
  go_ret
  exact ⟨by rw [← shr_bit hx]; rfl, Below.refl _ _⟩
set_option maxHeartbeats 1000000 in
theorem allBits_any (n : Nat) (w : World) (hn : n ≤ 32) : Calls Try.prog 41 #[.int .i64 (n : Int)] w fun e w' => e = .returned (.int .u32 ((2 ^ n - 1 : Nat) : Int)) ∧ Below w.heap.size w w' := by
  go_enter Try.func41, Try.ntmps41
  go_wp2
  go_ret
  exact ⟨by rw [← ones_u32 hn]; rfl, Below.refl _ _⟩
set_option maxHeartbeats 1000000 in
theorem things_any (p : Option Addr) (c : Nat) (xs : List Nat) (w : World) : Calls Try.prog 32 #[.slice p xs.length c] w fun e w' => e = .returned (.int .i64 (szR xs : Nat)) ∧ Below w.heap.size w w' := by
  unfold szR
  by_cases h : 32 < xs.length
  · have h' : (32 : Int) < (xs.length : Int) := by omega
    rw [if_pos h]
    go_enter Try.func32, Try.ntmps32
    go_wp2
    go_ret
    exact ⟨rfl, by go_grown⟩
  · have h' : ¬ (32 : Int) < (xs.length : Int) := by omega
    rw [if_neg h]
    go_enter Try.func32, Try.ntmps32
    go_wp2
    go_ret
    exact ⟨rfl, by go_grown⟩
theorem info_u32 : ((Try.prog.info? 37).map fun i => (i.zero, i.size, i.bytes)) = some (some (.int .u32 0), 1, 4) := by kernel_rfl
theorem get_info {P : Program} {t : TypeId} {z : Value} {b c : Nat} (h : ((P.info? t).map fun i => (i.zero, i.size, i.bytes)) = some (some z, b, c)) : ∃ i, P.info? t = some i ∧ i.zero = some z ∧ i.size = b ∧ i.bytes = c := by
  cases hi : P.info? t with
  | none => rw [hi] at h; simp at h
  | some i => rw [hi] at h; simp at h; exact ⟨i, rfl, h.1, h.2.1, h.2.2⟩
def newN (n : Int) : Nat := if n < 0 ∨ 32 < n then 0 else n.toNat
theorem made_zero (n : Nat) : madeCells (Value.int .u32 0).cells (n * 1) = rowsV n (fun _ => 0) := by
  unfold madeCells rowsV
  apply Array.ext (by simp)
  intro i h1 h2
  simp [Value.cells, Nat.mod_one]
theorem make_rel (n : Int) (w : World) (h0 : 0 ≤ n) (hn : n ≤ 100) : (Instr.makeSlice 33 (.int .i64 n) (.int .i64 n)).run Try.prog w = .ok (.slice (some ⟨w.heap.size, 0, none⟩) n.toNat n.toNat) (w.alloc (.cells (rowsV n.toNat (fun _ => 0)) 37)) := by
  obtain ⟨i, j1, j2, j3, j4⟩ := get_info info_u32
  rw [run_makeSlice (P := Try.prog) w 33 37 _ _ Try.underlying33 j1 j2 .i64 .i64 n n h0 (Int.le_refl _) (by rw [j3]; omega) (by rw [j4]; omega) (by omega), j3, made_zero]
set_option maxHeartbeats 1000000 in
theorem New_any (n : Int) (w : World) : Calls Try.prog 14 #[.int .i64 n] w fun e w' => ∃ b, e = .returned (.slice (some ⟨b, 0, none⟩) (newN n) (newN n)) ∧ Row w' b 37 (newN n) (fun _ => 0) ∧ w.heap.size ≤ b ∧ Below w.heap.size w w' := by
  unfold newN
  by_cases h : n < 0 ∨ 32 < n
  · rw [if_pos h]
    rcases h with h | h
    · go_enter Try.func14, Try.ntmps14
      go_wp2
      go_ret
      exact ⟨_, rfl, Blk.new, Nat.le_refl _, by go_grown⟩
    · have h0 : ¬ n < 0 := by omega
      go_enter Try.func14, Try.ntmps14
      go_wp2
      go_ret
      exact ⟨_, rfl, Blk.new, Nat.le_refl _, by go_grown⟩
  · rw [if_neg h]
    have h0 : ¬ n < 0 := by omega
    have h32 : ¬ 32 < n := by omega
    have hmk := make_rel n w (by omega) (by omega)
    go_enter Try.func14, Try.ntmps14
    go_wp2
    go_ret
    exact ⟨_, rfl, Blk.new, Nat.le_refl _, by go_grown⟩
end Go.Proofs.Ytpgbedaonjfpnaa
