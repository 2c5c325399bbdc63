/- Numbers in figures, and texts as lists of bytes: small facts. No program. -/
import Derived.Lib.ItoaLen
import Derived.RowKit
namespace Go.Proofs.YtdealgleehbhlaaDoor

def in64 (n : Int) : Prop := -9223372036854775808 ≤ n ∧ n ≤ 9223372036854775807
theorem decDigits_small {u : Nat} (h : u < 10) : Lib.decDigits u = [UInt8.ofNat (48 + u)] := by rw [Lib.decDigits, dif_pos h]
theorem decDigits_big {u : Nat} (h : ¬ u < 10) : Lib.decDigits u = Lib.decDigits (u / 10) ++ [UInt8.ofNat (48 + u % 10)] := by rw [Lib.decDigits, dif_neg h]

theorem itoa_len {n : Int} (h : in64 n) : (Lib.itoa n).length ≤ 21 := Lib.itoa_length_le n h.1 h.2

theorem size_l (l : List UInt8) : (⟨l.toArray⟩ : ByteArray).size = l.length := by simp [ByteArray.size]

theorem data_l (l : List UInt8) : (⟨l.toArray⟩ : ByteArray).data.toList = l := by simp
theorem app_l (a b : List UInt8) : (⟨a.toArray⟩ : ByteArray) ++ ⟨b.toArray⟩ = ⟨(a ++ b).toArray⟩ := by
  apply ByteArray.ext
  simp

theorem itoa_m (n : Int) (h0 : -10 < n) (h1 : n < 0) : Lib.itoa n = [45, UInt8.ofNat (48 - n).toNat] := by
  unfold Lib.itoa
  rw [if_pos h1, decDigits_small (by omega), show (48 - n).toNat = 48 + n.natAbs by omega]
theorem itoa_p (n : Int) (h0 : 0 ≤ n) (h1 : n < 10) : Lib.itoa n = [UInt8.ofNat (48 + n).toNat] := by
  unfold Lib.itoa
  rw [if_neg (by omega), decDigits_small (by omega), show (48 + n).toNat = 48 + n.toNat by omega]
/-- One figure more. -/
theorem itoa_big (n q d : Int) (h : n ≤ -10 ∨ 10 ≤ n) (hq : q = (if n < 0 then -((n.natAbs / 10 : Nat) : Int) else ((n.natAbs / 10 : Nat) : Int))) (hd : d = (n.natAbs % 10 : Nat)) : Lib.itoa n = Lib.itoa q ++ [UInt8.ofNat (48 + d).toNat] := by
  subst hd
  rw [show (48 + ((n.natAbs % 10 : Nat) : Int)).toNat = 48 + n.natAbs % 10 by omega]
  unfold Lib.itoa
  rcases h with h | h
  · rw [if_pos (by omega)] at hq
    have e : q.natAbs = n.natAbs / 10 := by omega
    rw [if_pos (by omega), if_pos (by omega), decDigits_big (by omega), e]
    rfl
  · rw [if_neg (by omega)] at hq
    have e : q.toNat = n.toNat / 10 := by omega
    rw [if_neg (by omega), if_neg (by omega), decDigits_big (by omega), e, show n.natAbs % 10 = n.toNat % 10 by omega]
theorem tdiv_parts (n : Int) : n.tdiv 10 = (if n < 0 then -((n.natAbs / 10 : Nat) : Int) else ((n.natAbs / 10 : Nat) : Int)) ∧ n.tmod 10 = (if n < 0 then -((n.natAbs % 10 : Nat) : Int) else ((n.natAbs % 10 : Nat) : Int)) := by
  by_cases h : n < 0
  · obtain ⟨u, rfl⟩ : ∃ u : Nat, n = -(u : Int) := ⟨n.natAbs, by omega⟩
    rw [if_pos h, if_pos h, Int.neg_tdiv, Int.neg_tmod]
    simp only [Int.natAbs_neg, Int.natAbs_natCast]
    exact ⟨rfl, rfl⟩
  · obtain ⟨u, rfl⟩ : ∃ u : Nat, n = (u : Int) := ⟨n.natAbs, by omega⟩
    rw [if_neg h, if_neg h]
    exact ⟨rfl, rfl⟩
end Go.Proofs.YtdealgleehbhlaaDoor
