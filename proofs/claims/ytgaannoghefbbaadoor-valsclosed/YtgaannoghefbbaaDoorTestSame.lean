/- Contracts of cupolaref02.Nums and Same: whether two tests are the same. -/
import Derived.Test.YtgaannoghefbbaaDoorTestP
import Derived.Test.YtgaannoghefbbaaDoorProg
import Derived.Laws.StructEq
namespace Go.Proofs.YtgaannoghefbbaaDoor
open Go.RowKit Classical

theorem same_step {α : Type} [DecidableEq α] {x y : α} {xs ys : List α} (h : x = y) : decide (x :: xs = y :: ys) = decide (xs = ys) := by subst h; simp
theorem same_no {α : Type} [DecidableEq α] {x y : α} {xs ys : List α} (h : x ≠ y) : decide (x :: xs = y :: ys) = false := by simp [h]

set_option maxHeartbeats 1000000 in
theorem Nums_any (p q : Option Addr) (c d : Nat) (xs ys : List Int) (w : World) (hx : Sl IntE w (.slice p xs.length c) xs) (hy : Sl IntE w (.slice q ys.length d) ys) (hL : xs.length ≤ 1000000) :
    Calls Tryd.prog 17 #[.slice p xs.length c, .slice q ys.length d] w fun e w' => e = .returned (.bool (decide (xs = ys))) ∧ ∃ n, w' = w.drewN n := by
  by_cases hl : xs.length = ys.length
  · have HL : Hid _ := hl
    have hl' : ((xs.length : Int) != (ys.length : Int)) = false := by simp; omega
    have hl2 : xs.length ≤ ys.length := by omega
    clear hl
    go_enter Tryd.func17, Tryd.ntmps17
    go_wp2
    go_loopw [5] (fun i wr => ∃ k : Nat, k ≤ xs.length ∧ i = .int .i64 k ∧ decide (xs.drop k = ys.drop k) = decide (xs = ys) ∧ ∃ n, wr = w.drewN n) (fun i _ => xs.length - (intOf i).toNat)
    case atStart => exact ⟨0, Nat.zero_le _, rfl, rfl, 0, rfl⟩
    case round =>
      obtain ⟨k, hk, rfl, hF, nn, rfl⟩ := hrel
      have HF : Hid _ := hF
      clear hF
      by_cases hlt : k < xs.length
      · obtain ⟨b1, o1, rfl, hu⟩ := (ints_at hx).2 k hlt
        obtain ⟨b2, o2, rfl, hv⟩ := (ints_at hy).2 k (by rw [← HL.out]; exact hlt)
        generalize h1 : xs[k] = x at hu
        generalize h2 : ys[k]'(by rw [← HL.out]; exact hlt) = y at hv
        have H1 : Hid (xs.drop k = x :: xs.drop (k + 1)) := by rw [← h1]; exact drop_at hlt
        have H2 : Hid (ys.drop k = y :: ys.drop (k + 1)) := by rw [← h2]; exact drop_at (by rw [← HL.out]; exact hlt)
        clear h1 h2
        have hlt' : (k : Int) < (xs.length : Int) := by omega
        have hlt2 : (k : Int) < (ys.length : Int) := by omega
        go_wp2
        go_quiet (fail)
        by_cases hxy : x = y
        · have hxy' : (x != y) = false := by simpa using hxy
          have HXY : Hid _ := hxy
          clear hxy
          go_wp2
          go_roundw
          case rel => exact ⟨k + 1, by omega, by go_num, by have := HF.out; rw [H1.out, H2.out, same_step HXY.out] at this; exact this, nn + nq, by simp⟩
          case measure => simp [intOf]; omega
        · have hxy' : (x != y) = true := by simpa using hxy
          go_wp2
          go_ret
          exact ⟨by have := HF.out; rw [H1.out, H2.out, same_no hxy] at this; rw [← this]; rfl, nn + nq, by rw [World.drewN_drewN]⟩
      · go_wp2
        go_ret
        exact ⟨by have := HF.out; rw [List.drop_of_length_le (by omega), List.drop_of_length_le (by rw [← HL.out]; omega)] at this; rw [← this]; rfl, nn, rfl⟩
  · have hl' : ((xs.length : Int) != (ys.length : Int)) = true := by simp; omega
    have E : Hid (decide (xs = ys) = false) := decide_eq_false (fun e => hl (by rw [e]))
    go_enter Tryd.func17, Tryd.ntmps17
    go_wp2
    go_ret
    exact ⟨by rw [E.out]; rfl, 0, rfl⟩

theorem ins_ne {m n : Ins} (h : m ≠ n) : (m.op ≠ n.op) ∨ (m.op = n.op ∧ m.d ≠ n.d) ∨ (m.op = n.op ∧ m.d = n.d ∧ m.a ≠ n.a) ∨ (m.op = n.op ∧ m.d = n.d ∧ m.a = n.a ∧ m.b ≠ n.b) ∨
    (m.op = n.op ∧ m.d = n.d ∧ m.a = n.a ∧ m.b = n.b ∧ m.l ≠ n.l) ∨ (m.op = n.op ∧ m.d = n.d ∧ m.a = n.a ∧ m.b = n.b ∧ m.l = n.l ∧ m.i ≠ n.i) := by
  obtain ⟨x0, x1, x2, x3, x4, x5⟩ := m
  obtain ⟨y0, y1, y2, y3, y4, y5⟩ := n
  simp only [ne_eq, Ins.mk.injEq] at *
  by_cases h0 : x0 = y0
  · by_cases h1 : x1 = y1
    · by_cases h2 : x2 = y2
      · by_cases h3 : x3 = y3
        · by_cases h4 : x4 = y4
          · simp_all
          · simp_all
        · simp_all
      · simp_all
    · simp_all
  · simp_all

end Go.Proofs.YtgaannoghefbbaaDoor
