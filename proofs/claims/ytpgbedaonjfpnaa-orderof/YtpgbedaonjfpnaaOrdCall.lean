/- Contracts of order's small functions, and of slices.Clone at ints. -/
import Derived.Test.YtpgbedaonjfpnaaOrdRep
import Derived.Test.YtpgbedaonjfpnaaRelList
import Derived.Laws.BitsAllLaws
namespace Go.Proofs.Ytpgbedaonjfpnaa
open Go.RowKit

/-- May k stand behind the placed ones, by bits? -/
def mayB (rs : List Nat) (p k : Nat) : Bool := decide (k < rs.length) && (!p.testBit k && (rs.getD k 0 &&& (4294967295 - p) == 0))

theorem shr_bit0 {x k : Nat} (hx : x < 4294967296) : (bits .and .u32 ((x : Int) / 2 ^ min k 32) 1 == 0) = !x.testBit k := by
  have h := shr_bit (k := k) hx
  have e : (x : Int) / 2 ^ min k 32 = (((x : Nat) / 2 ^ min k 32 : Nat) : Int) := by simp
  have hs : x / 2 ^ min k 32 < 4294967296 := Nat.lt_of_le_of_lt (Nat.div_le_self _ _) hx
  have h1 := and_u32 (a := x / 2 ^ min k 32) (b := 1) hs (by decide)
  rw [e, show (1 : Int) = ((1 : Nat) : Int) from rfl, h1] at h ⊢
  rw [Nat.and_comm, Nat.one_and_eq_mod_two] at h ⊢
  rw [← h]
  rcases Nat.mod_two_eq_zero_or_one (x / 2 ^ min k 32) with h2 | h2 <;> rw [h2] <;> rfl
theorem andNot_z {a b : Nat} (ha : a < 4294967296) (hb : b < 4294967296) : (bits .andNot .u32 (a : Int) (b : Int) == 0) = (a &&& (4294967295 - b) == 0) := by
  rw [u32_andNot_nat a b ha hb]
  generalize a &&& (4294967295 - b) = z
  cases z <;> simp <;> omega

set_option maxHeartbeats 2000000 in
theorem mayStand_any (p : Option Addr) (c : Nat) (rs : List Nat) (k pl : Nat) (w : World) (hx : Sl U32E w (.slice p rs.length c) rs) (hl : rs.length ≤ 32) (hp : pl < 4294967296) :
    Calls Try.prog 26 #[.int .i64 (k : Int), .slice p rs.length c, .int .u32 (pl : Int)] w fun e w' => e = .returned (.bool (mayB rs pl k)) ∧ Below w.heap.size w w' := by
  unfold mayB
  have h0 : (0 : Int) ≤ (k : Int) := by omega
  by_cases hk : k < rs.length
  · have hk' : (k : Int) < (rs.length : Int) := by omega
    obtain ⟨_, hat⟩ := u32_at hx
    obtain ⟨hr, b, o, rfl, hc⟩ := hat k hk
    have e1 : decide (k < rs.length) = true := by simp [hk]
    have e2 : rs.getD k 0 = rs[k] := by simp [hk]
    rw [e1, e2, Bool.true_and, ← shr_bit0 hp, ← andNot_z hr hp, Nat.min_eq_left (show k ≤ 32 by omega)]
    generalize rs[k] = z at *
    clear hx hat e1 e2
    go_enter Try.func26, Try.ntmps26
    go_wp2
    · go_ret
      exact ⟨rfl, by go_grown⟩
    · have h5 : ¬ bits BinOp.and IntKind.u32 ((pl : Int) / 2 ^ k) 1 = 0 := by assumption
      go_ret
      exact ⟨by rw [beq_eq_false_iff_ne.2 h5]; rfl, by go_grown⟩
  · have hk' : ¬ (k : Int) < (rs.length : Int) := by omega
    have e1 : decide (k < rs.length) = false := by simp [hk]
    rw [e1, Bool.false_and]
    go_enter Try.func26, Try.ntmps26
    go_wp2
    go_ret
    exact ⟨rfl, by go_grown⟩

set_option maxHeartbeats 1000000 in
theorem things_ord (p : Option Addr) (c : Nat) (xs : List Nat) (w : World) : Calls Try.prog 23 #[.slice p xs.length c] w fun e w' => e = .returned (.int .i64 (szR xs : Nat)) ∧ Below w.heap.size w w' := by
  go_enter Try.func23, Try.ntmps23
  go_wp2_with (first | (go_at_call 14; refine (New_any (xs.length : Int) w).mono ?_; rintro e w1 ⟨b, rfl, _, _, hb⟩))
  go_ret
  exact ⟨by rw [← newN_len]; rfl, hb⟩

theorem info_intO : ((Try.prog.info? 3).map fun i => (i.zero, i.size, i.bytes)) = some (some (.int .i64 0), 1, 8) := by kernel_rfl
theorem eqlInts (w : World) (a : Option Addr) (l c : Nat) : (binOp .eql 24 (.slice a l c) (.slice none 0 0)).run Try.prog w = .ok (.bool a.isNone) w := eql_slice_nil w _ _ a l c Try.underlying24
attribute [local go_sem] eqlInts
set_option maxHeartbeats 1000000 in
theorem Clone_nat (p : Option Addr) (c : Nat) (xs : List Nat) (w : World) (hx : Sl NatE w (.slice p xs.length c) xs) (hz : xs.length ≤ 1000) :
    Calls Try.prog 38 #[.slice p xs.length c] w fun e w' => ∃ v, e = .returned v ∧ OwnN w' w.heap.size 3 v xs ∧ (v.ownBlock = none → v = .slice none 0 0) ∧ Below w.heap.size w w' := by
  obtain ⟨i0, j1, j2, j3, j4⟩ := get_info info_intO
  have J1 : Hid _ := j1
  have J2 : Hid _ := j2
  have J3 : Hid _ := j3
  have J4 : Hid _ := j4
  clear j1 j2 j3 j4
  cases p with
  | none =>
    have e := nil_of hx
    subst e
    clear hx
    go_enter Try.func38, Try.ntmps38
    go_wp2
    go_ret
    exact ⟨_, rfl, (Own.nil (A := fun _ => False)).n, fun _ => rfl, Below.refl _ _⟩
  | some ad =>
    go_enter Try.func38, Try.ntmps38
    have hb := (Below.refl w.heap.size w).alloc (Nat.le_refl _) (.cells #[] 3)
    have hk : Blk (w.alloc (.cells #[] 3)) w.heap.size #[] 3 := Blk.new
    have hx1 := hx.keep hb
    go_wp2_with (at_builtin; refine wpList_appB (R := NatE) (A := fun _ => False) (B := fun _ => True) (xs := []) (ys := xs) (by rfl) (.tmp 5) (.tmp 6) 24 3 i0 (.int .i64 0) 8 (by rfl) Try.underlying24 J1.out J2.out J3.out J4.out (by rfl) w.heap.size (.slice (some ⟨w.heap.size, 0, none⟩) 0 0) (.slice (some ad) xs.length c) (by rfl) (by rfl) (own_new (Nat.le_refl _) hk) hx1 (fun _ _ _ h => h) (by simp only [List.length_nil]; unfold maxLen; omega) (by simp only [List.length_nil]; omega) (by simp) ?_; intro p6 c6 w6 hO6 hg6 hw6; simp only [List.nil_append] at hO6 hw6 ⊢)
    go_ret
    refine ⟨_, rfl, hO6.n, fun h => ?_, hb.grown hg6 (by simp) (fun k hk => by simp [Value.ownBlock] at hk; omega)⟩
    have h' : (Value.slice p6 xs.length c6).ownBlock = none := h
    rcases hw6 with h1 | h1 <;> rw [h1] at h' <;> simp [Value.ownBlock] at h'
end Go.Proofs.Ytpgbedaonjfpnaa
