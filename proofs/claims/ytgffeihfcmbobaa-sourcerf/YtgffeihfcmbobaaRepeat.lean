/- Contract of slices.Repeat at one number, over and over. -/
import Derived.Test.YtgffeihfcmbobaaEvP
import Derived.Test.YtgffeihfcmbobaaCloneI
import Derived.Test.YtgffeihfcmbobaaRelP
import Derived.Laws.CopyOwn
import Derived.Laws.MathBits
namespace Go.Proofs.Ytgffeihfcmbobaa
open Go.RowKit
attribute [local go_sem] Ext.cell Ext.frozen

theorem and_small {n : Nat} (hn : n ≤ 1000) : bits .and .u64 (n : Int) 4294967295 = (n : Int) := by
  rw [and_low32 _ (by omega) (by omega)]
  omega
set_option maxHeartbeats 1000000 in
theorem Mul64_one (n : Nat) (w : World) (hn : n ≤ 1000) : Calls Try.prog 48 #[.int .u64 1, .int .u64 (n : Int)] w fun e w' => e = .returned (.tuple #[.int .u64 0, .int .u64 (n : Int)]) ∧ w' = w := by
  have h1 := and_small hn
  have h2 : (n : Int) / 4294967296 = 0 := by omega
  have h3 : bits .and .u64 1 4294967295 = 1 := by kernel_rfl
  have h4 : bits .and .u64 0 4294967295 = 0 := by kernel_rfl
  have h5 : IntKind.u64.wrap (n : Int) = (n : Int) := by rw [IntKind.wrap_u64]; omega
  go_enter Try.func48, Try.ntmps48
  go_wp2
  go_ret2
  exact ⟨rfl, rfl⟩
set_option maxHeartbeats 1000000 in
theorem Mul_one (n : Nat) (w : World) (hn : n ≤ 1000) : Calls Try.prog 44 #[.int .u64 1, .int .u64 (n : Int)] w fun e w' => e = .returned (.tuple #[.int .u64 0, .int .u64 (n : Int)]) ∧ w' = w := by
  have C := Mul64_one n w hn
  go_enter Try.func44, Try.ntmps44
  go_wp2_with (go_at_call 48; refine C.mono ?_; rintro e w1 ⟨rfl, rfl⟩)
  go_ret2
  exact ⟨rfl, rfl⟩

theorem elemInt : Try.prog.elem 24 = 3 := by kernel_rfl
theorem cut_low (g n m : Nat) (h : m < n) (w : World) : (Instr.slice 24 (.slice (some ⟨g, 0, none⟩) n n) (some (.int .i64 (m : Int))) none none).run Try.prog w = .ok (.slice (some ⟨g, m, none⟩) (n - m) (n - m)) w := by
  have hs : ∀ w, (Go.sizeOf (Try.prog.elem 24)).run Try.prog w = .ok 1 w := fun w => by rw [elemInt]; exact Try.sizeOf3 w
  rw [run_slice_l (ht := by rw [elemInt]; exact Try.underlying24) (h0 := by omega) (h1 := by omega), hs]
  simp [sliced, Result.andThen, Addr.add]
  rw [if_neg (by omega)]
  congr 1
  by_cases h0 : m = 0
  · rw [if_pos h0, h0]
  · rw [if_neg h0]
theorem cut_high (g n m : Nat) (h : m < n) (w : World) : (Instr.slice 24 (.slice (some ⟨g, 0, none⟩) n n) none (some (.int .i64 (m : Int))) none).run Try.prog w = .ok (.slice (some ⟨g, 0, none⟩) m n) w := by
  have hs : ∀ w, (Go.sizeOf (Try.prog.elem 24)).run Try.prog w = .ok 1 w := fun w => by rw [elemInt]; exact Try.sizeOf3 w
  rw [run_slice_h (ht := by rw [elemInt]; exact Try.underlying24) (h0 := by omega) (h2 := by omega), hs]
  simp [sliced, Result.andThen, Addr.add]
  try omega
def repV (y : Int) (m n : Nat) : List Value := List.replicate m (.int .i64 y) ++ List.replicate (n - m) (.int .i64 0)
theorem repV_len (y : Int) {m n : Nat} (h : m ≤ n) : (repV y m n).length = n := by simp [repV]; omega
theorem repV_step (y : Int) {m n j : Nat} (_ : m + j ≤ n) : splice (repV y m n) m (List.replicate j (.int .i64 y)) = repV y (m + j) n := by
  unfold splice repV
  rw [List.take_left' (by simp), List.length_replicate, List.drop_append, List.drop_eq_nil_of_le (by simp), List.nil_append, ← List.append_assoc, List.replicate_append_replicate]
  congr 1
  rw [List.drop_replicate]
  congr 1
  simp
  omega
theorem make_ints (n : Nat) (w : World) (hn : n ≤ 1000) : (Instr.makeSlice 24 (.int .i64 (n : Int)) (.int .i64 (n : Int))).run Try.prog w = .ok (.slice (some ⟨w.heap.size, 0, none⟩) n n) (w.alloc (.cells (repV 0 0 n).toArray 3)) := by
  obtain ⟨i, j1, j2, j3, j4⟩ := get_info (show ((Try.prog.info? 3).map fun i => (i.zero, i.size, i.bytes)) = some (some (.int .i64 0), 1, 8) by kernel_rfl)
  rw [run_makeSlice (P := Try.prog) w 24 3 _ _ Try.underlying24 j1 j2 .i64 .i64 n n (by omega) (Int.le_refl _) (by rw [j3]; omega) (by rw [j4]; omega) (by omega), j3]
  simp only [Int.toNat_natCast]
  congr 2
  congr 1
  unfold madeCells repV
  apply Array.ext (by simp)
  intro i h1 h2
  simp [Value.cells, Nat.mod_one]

set_option maxRecDepth 20000 in
set_option maxHeartbeats 4000000 in
theorem Repeat_any (y : Int) (b n : Nat) (w : World) (hk : Blk w b #[.int .i64 y] 3) (hn : n ≤ 1000) :
    Calls Try.prog 37 #[.slice (some ⟨b, 0, none⟩) 1 1, .int .i64 (n : Int)] w fun e w' => ∃ g, e = .returned (.slice (some ⟨g, 0, none⟩) n n) ∧ Blk w' g (repV y n n).toArray 3 ∧ w.heap.size ≤ g ∧ Below w.heap.size w w' := by
  have C := Mul_one n w hn
  have hmk := make_ints n w hn
  have HC : Hid (Calls _ _ _ _ _) := C
  clear C
  have h5 : IntKind.u64.wrap (n : Int) = (n : Int) := by rw [IntKind.wrap_u64]; omega
  have src : ∀ W, Blk W b #[.int .i64 y] 3 → ∀ j v, (List.replicate (min 1 n) (Value.int .i64 y))[j]? = some v → W.cell? ((⟨b, 0, none⟩ : Addr).add j) = some v := fun W hB j v hj => by
    rw [List.getElem?_replicate] at hj
    split at hj
    · have : j = 0 := by omega
      subst this
      rw [addr_add, hB.cell 0]
      exact hj
    · cases hj
  have src2 : ∀ W g m k, Blk W g (repV y m n).toArray 3 → k ≤ m → ∀ j v, (List.replicate k (Value.int .i64 y))[j]? = some v → W.cell? ((⟨g, 0, none⟩ : Addr).add j) = some v := fun W g m k hB hkm j v hj => by
    rw [List.getElem?_replicate] at hj
    split at hj
    · rw [addr_add, hB.cell (0 + j), ← hj]
      simp only [List.getElem?_toArray, Nat.zero_add]
      unfold repV
      rw [List.getElem?_append_left (by simp; omega), List.getElem?_replicate, if_pos (by omega)]
    · cases hj
  have hne2 : Nonempty AnyW := anyW_some
  have hne : ∀ w, Nonempty (Ext w) := ext_some
  have SRC : Hid _ := src
  have SRC2 : Hid _ := src2
  clear src src2
  have F1 := trivial
  go_enter Try.func37, Try.ntmps37
  go_wp2_with (first
    | (go_at_call 44; clear F1; refine HC.out.mono ?_; rintro e w1 ⟨rfl, rfl⟩; have F2 := trivial)
    | (clear F2; refine wpList_copy_splice (by rfl) (.tmp 31) (.tmp 32) 24 24 (by rfl) 3 Try.underlying24 (by kernel_rfl) _ _ n n 1 1 (by rfl) (by rfl) w1.heap.size 0 (repV 0 0 n) 3 Blk.new (List.replicate (min 1 n) (.int .i64 y)) (by simp) (fun _ => ⟨rfl, _, rfl, SRC.out _ (hk.keep (below_new _ _))⟩) (by simp [repV]; omega) (fun v hv => by rw [(List.mem_replicate.1 hv).2]; rfl) w1.heap.size w1 (below_new _ _) (Nat.le_refl _) ?_; intro w2 HG2 hB2; have F3 := trivial))
  have HK : Hid (Blk w2 w1.heap.size (repV y (min 1 n) n).toArray 3) := by
    have h := HG2.out
    have e : repV 0 0 n = repV y 0 n := by simp [repV]
    rw [e, repV_step y (by omega), Nat.zero_add] at h
    exact h
  clear HG2 hmk
  go_loopw [8] (fun i wr => ∃ m : Nat, m ≤ n ∧ (n = 0 ∨ 1 ≤ m) ∧ i = .int .i64 m ∧ Hid (Blk wr w1.heap.size (repV y m n).toArray 3) ∧ Below w1.heap.size w1 wr) (fun i _ => n - (Go.RowKit.intOf i).toNat)
  case atStart => exact ⟨min 1 n, by omega, by omega, by simp, HK, hB2⟩
  case round =>
    obtain ⟨m, hm, hm1, rfl, HKm, hbr⟩ := hrel
    by_cases hlt : m < n
    · have hlt' : (m : Int) < (n : Int) := by omega
      have hs1 := cut_low w1.heap.size n m hlt
      have hs2 := cut_high w1.heap.size n m hlt
      go_wp2
      refine wp_region_mixL [([0, 1, 2, 3, 4, 5, 6], 7, true)] [8, 9] [7] (by kernel_rfl) (by kernel_rfl) (fun _ _ d _ _ h => by cases d <;> exact h) ?_
      dsimp only [List.map, mapL, opAt]
      refine wpMixL_stage ?_
      repeat (go_big_quiet_step (fail))
      refine wpQuiet_nil ?_
      obtain ⟨j, hj⟩ : ∃ j, min m (n - m) = j := ⟨_, rfl⟩
      have hj1 : m + j ≤ n := by omega
      have hj2 : 1 ≤ j := by omega
      have hj3 : j ≤ m := by omega
      have hw : wrap64 ((m : Int) + (j : Int)) = ((m + j : Nat) : Int) := by unfold wrap64; omega
      have HJ : Hid _ := hj
      clear hj
      have kd : Blk wr.drew w1.heap.size (repV y m n).toArray 3 := HKm.out.drew
      have bd : Below w1.heap.size w1 wr.drew := hbr.drew
      have hlen : (List.replicate j (Value.int .i64 y)).length = j := List.length_replicate
      go_wp2_with (refine wpList_copy_splice (by rfl) (.tmp 41) (.tmp 44) 24 24 (by rfl) 3 Try.underlying24 (by kernel_rfl) (some ⟨w1.heap.size, m, none⟩) (some ⟨w1.heap.size, 0, none⟩) (n - m) (n - m) m n (by rfl) (by rfl) w1.heap.size m (repV y m n) 3 kd (List.replicate j (.int .i64 y)) (by rw [hlen]; exact HJ.out.symm) (fun _ => ⟨rfl, _, rfl, SRC2.out _ _ _ _ kd hj3⟩) (by rw [hlen, repV_len y hm]; exact hj1) (fun v hv => by rw [(List.mem_replicate.1 hv).2]; rfl) w1.heap.size w1 bd (Nat.le_refl _) ?_; intro w5 HG5 hB5; rw [hlen, show goInt j = Value.int .i64 (j : Int) from rfl]; simp only [Act.put, List.setIfInBounds_toArray, List.set])
      refine ⟨.inl trivial, ?_⟩
      refine wpMixL_last ?_
      repeat (go_big_quiet_step (fail))
      refine wpQuiet_nil ?_
      go_wp2
      go_roundw
      case rel => exact ⟨m + j, hj1, by omega, by go_num, (by have h := HG5.out; rw [repV_step y hj1] at h; exact h), hB5⟩
      case measure => simp [Go.RowKit.intOf]; omega
    · have e : m = n := by omega
      subst e
      go_wp2
      go_ret
      exact ⟨_, rfl, HKm.out, Nat.le_refl _, hbr⟩
end Go.Proofs.Ytgffeihfcmbobaa
