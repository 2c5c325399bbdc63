/- Bits of numbers of 64 bits, and of sets of 32: what the laws on registers ask. -/
import Derived.Test.YtkiefbldkidobaaDoorRegsMap
import Derived.Test.YtkiefbldkidobaaDoorRegsHangs
import Derived.Laws.BitsLemmas
namespace Go.Proofs.YtkiefbldkidobaaDoor
open Go.RowKit

/-- A row of 64 bits as a number with a sign. -/
def numB (x : BitVec 64) : Int := IntKind.i64.wrap (x.toNat : Int)
theorem xor_is (a b : Int) : bits .xor .i64 a b = numB (BitVec.ofInt 64 a ^^^ BitVec.ofInt 64 b) := rfl
theorem and_is (a b : Int) : bits .and .i64 a b = numB (BitVec.ofInt 64 a &&& BitVec.ofInt 64 b) := rfl
theorem andNot_is (a b : Int) : bits .andNot .i64 a b = numB (BitVec.ofInt 64 a &&& ~~~ BitVec.ofInt 64 b) := rfl
theorem numB_is (x : BitVec 64) : numB x = x.toInt := by
  have h := x.isLt
  unfold numB
  rw [BitVec.toInt_eq_toNat_cond, IntKind.wrap_i64]
  split <;> omega
theorem of_numB (x : BitVec 64) : BitVec.ofInt 64 (numB x) = x := by rw [numB_is, BitVec.ofInt_toInt]
theorem numB_of {a : Int} (h : -9223372036854775808 ≤ a) (h' : a < 9223372036854775808) : numB (BitVec.ofInt 64 a) = a := by
  rw [numB_is, BitVec.toInt_ofInt]
  exact Int.bmod_eq_of_le (by omega) (by omega)
theorem numB_0 : numB 0 = 0 := by decide

theorem xor_same (a : Int) : bits .xor .i64 a a = 0 := by rw [xor_is, BitVec.xor_self]; exact numB_0
theorem xor_swap (a b : Int) : bits .xor .i64 a b = bits .xor .i64 b a := by rw [xor_is, xor_is, BitVec.xor_comm]
theorem and_swap (a b : Int) : bits .and .i64 a b = bits .and .i64 b a := by rw [and_is, and_is, BitVec.and_comm]
theorem xor_back {a b : Int} (h : -9223372036854775808 ≤ b) (h' : b < 9223372036854775808) : bits .xor .i64 (bits .xor .i64 a b) a = b := by
  rw [xor_is (bits .xor .i64 a b), xor_is a b, of_numB, BitVec.xor_comm, ← BitVec.xor_assoc, BitVec.xor_self, BitVec.zero_xor, numB_of h h']
theorem and_less (a b : Int) : bits .andNot .i64 (bits .and .i64 a b) a = 0 := by
  rw [andNot_is, and_is, of_numB, BitVec.and_comm (BitVec.ofInt 64 a), BitVec.and_assoc, BitVec.and_not_self]; exact (congrArg numB (by simp)).trans numB_0
theorem and_less' (a b : Int) : bits .andNot .i64 (bits .and .i64 a b) b = 0 := by rw [and_swap, and_less]
theorem add_back {a b : Int} (h : -9223372036854775808 ≤ b) (h' : b < 9223372036854775808) : wrap64 (wrap64 (a + b) - a) = b := by unfold wrap64; omega

/-- Sets: numbers of 32 bits. -/
theorem or_nat {a b : Nat} (ha : a < 4294967296) (hb : b < 4294967296) : bits .or .u32 (a : Int) (b : Int) = ((a ||| b : Nat) : Int) := by
  have hx : a ||| b < 2 ^ 32 := Nat.or_lt_two_pow (by omega) (by omega)
  have h1 : (BitVec.ofInt 32 (a : Int)).toNat = a := by rw [BitVec.ofInt_natCast, BitVec.toNat_ofNat]; exact Nat.mod_eq_of_lt (by omega)
  have h2 : (BitVec.ofInt 32 (b : Int)).toNat = b := by rw [BitVec.ofInt_natCast, BitVec.toNat_ofNat]; exact Nat.mod_eq_of_lt (by omega)
  show IntKind.u32.wrap ((BitVec.ofInt 32 (a : Int) ||| BitVec.ofInt 32 (b : Int)).toNat : Int) = _
  rw [BitVec.toNat_or, h1, h2, IntKind.wrap_u32]
  omega
theorem or_0 {a : Int} (h : 0 ≤ a) (h' : a < 4294967296) : bits .or .u32 0 a = a := by
  obtain ⟨n, rfl⟩ : ∃ n : Nat, a = (n : Int) := ⟨a.toNat, by omega⟩
  have := or_nat (a := 0) (b := n) (by decide) (by omega)
  rw [Nat.zero_or] at this
  exact this
theorem or_same {a : Int} (h : 0 ≤ a) (h' : a < 4294967296) : bits .or .u32 a a = a := by
  obtain ⟨n, rfl⟩ : ∃ n : Nat, a = (n : Int) := ⟨a.toNat, by omega⟩
  rw [or_nat (by omega) (by omega), Nat.or_self]
theorem or_swap (a b : Int) : bits .or .u32 a b = bits .or .u32 b a := by
  show IntKind.u32.wrap ((BitVec.ofInt 32 a ||| BitVec.ofInt 32 b).toNat : Int) = IntKind.u32.wrap ((BitVec.ofInt 32 b ||| BitVec.ofInt 32 a).toNat : Int)
  rw [BitVec.or_comm]

/-- What may lie in a file: numbers of 64 bits, sets of 32. -/
def FileOk (v d : Nat → Int) : Prop := ∀ k, k < 4 → (-9223372036854775808 ≤ v k ∧ v k < 9223372036854775808) ∧ 0 ≤ d k ∧ d k < 4294967296

theorem uses_two {op : Int} (h : op = 2 ∨ op = 3 ∨ op = 4) (a b : Nat) : usesL op a b = [(a : Int), (b : Int)] := by
  have hA : hasAB op = true := by rcases h with rfl | rfl | rfl <;> decide
  have hB : hasBB op = true := by rcases h with rfl | rfl | rfl <;> decide
  unfold usesL
  rw [hA, hB]
  simp
theorem uses_mov (a b : Int) : usesL 1 a b = [] := by
  have hA : hasAB 1 = false := by decide
  have hB : hasBB 1 = false := by decide
  unfold usesL
  rw [hA, hB]
  simp
theorem hang_two {v d : Nat → Int} (ok : FileOk v d) {op : Int} (h : op = 2 ∨ op = 3 ∨ op = 4) {a b : Nat} (ha : a < 4) (hb : b < 4) : hangF d (usesL op a b) 0 = bits .or .u32 (d a) (d b) := by
  rw [uses_two h, hangF, hangF, hangF, atR_in _ ha, atR_in _ hb, or_0 (ok a ha).2.1 (ok a ha).2.2]
end Go.Proofs.YtkiefbldkidobaaDoor
