/- The contract of test.Count: how many loads and stores a test has. -/
import Derived.Test.YtgaannoghefbbaaDoorInsP
import Derived.Test.YtgaannoghefbbaaDoorTestPlain
namespace Go.Proofs.YtgaannoghefbbaaDoor
open Go.RowKit

set_option maxHeartbeats 1000000 in
theorem Count_any (pi pt : Option Addr) (ni ci ct : Nat) (ts : List (List Ins)) (w : World) (T : Tab w) (ht : Sl ThrE w (.slice pt ts.length ct) ts) (hM : sizeTs ts ≤ 1000000) (hL : ts.length ≤ 1000000) :
    Calls Tryd.prog 24 #[.agg #[.slice pi ni ci, .slice pt ts.length ct]] w fun e w' => e = .returned (.tuple #[.int .i64 (cntTs ts 0 0).1, .int .i64 (cntTs ts 0 0).2]) ∧ Below w.heap.size w w' := by
  generalize hG : cntTs ts 0 0 = G
  have HG : Hid _ := hG
  clear hG
  go_enter Tryd.func24, Tryd.ntmps24
  go_wp2
  go_loopw [4, 5, 13] (fun r s i wr => ∃ (k : Nat) (a b : Int), k ≤ ts.length ∧ i = .int .i64 k ∧ r = .int .i64 a ∧ s = .int .i64 b ∧ 0 ≤ a ∧ 0 ≤ b ∧ a + b + sizeTs (ts.drop k) ≤ 1000000 ∧ cntTs (ts.drop k) a b = G ∧ Below w.heap.size w wr) (fun _ _ i _ => ts.length - (intOf i).toNat)
  case atStart => exact ⟨0, 0, 0, Nat.zero_le _, rfl, rfl, rfl, Int.le_refl _, Int.le_refl _, by simp; omega, HG.out, by go_grown⟩
  case round =>
    obtain ⟨k, a, b, hk, rfl, rfl, rfl, ha, hb, hs, hg, hB⟩ := hrel
    have HGk : Hid _ := hg
    clear hg
    by_cases hlt : k < ts.length
    · obtain ⟨tb, to, rfl, u, hu, hU⟩ := (thr_at (ht.keep hB)).2 k hlt
      have Tr := T.below hB
      generalize hl : ts[k] = l at hU
      have HL : Hid (ts.drop k = l :: ts.drop (k + 1)) := by rw [← hl]; exact drop_at hlt
      clear hl
      have hs' : a + b + l.length + sizeTs (ts.drop (k + 1)) ≤ 1000000 := by have := hs; rw [HL.out] at this; simp only [sizeTs] at this; omega
      clear hs
      obtain ⟨pu, cu, rfl⟩ := hU.len
      go_wp2
      go_loopw [4, 5, 19] (fun r s i w2 => ∃ (j : Nat) (c d : Int), j ≤ l.length ∧ i = .int .i64 j ∧ r = .int .i64 c ∧ s = .int .i64 d ∧ 0 ≤ c ∧ 0 ≤ d ∧ c + d + (l.length - j) + sizeTs (ts.drop (k + 1)) ≤ 1000000 ∧ cntT (l.drop j) c d = cntT l a b ∧ Below wr.heap.size wr w2) (fun _ _ i _ => l.length - (intOf i).toNat)
      case atStart => exact ⟨0, a, b, Nat.zero_le _, rfl, rfl, rfl, ha, hb, by simpa using hs', rfl, by go_grown⟩
      case round =>
        obtain ⟨j, c, d, hj, rfl, rfl, rfl, hc, hd, hs2, hg2, hB2⟩ := hrel
        have HG2 : Hid _ := hg2
        clear hg2
        by_cases hjl : j < l.length
        · obtain ⟨ub, uo, rfl, e0, e1, e2, e3, e4, e5⟩ := (ins_at (hU.keep hB2)).2 j hjl
          have T2 := Tr.below hB2
          generalize hx : l[j] = x at e0 e1 e2 e3 e4 e5
          have HX : Hid (l.drop j = x :: l.drop (j + 1)) := by rw [← hx]; exact drop_at hjl
          clear hx
          rcases kind_cases x.op with hk0 | hk0 | hk0
          all_goals
            have HC : Hid (cntT l a b = cntT l a b) := rfl
            have HG3 : Hid _ := HG2.out
            rw [HX.out, cntT, hk0] at HG3
            simp only [if_true, if_false, show ((0 : Int) = 1) = False by simp, show ((0 : Int) = 2) = False by simp, show ((2 : Int) = 1) = False by simp] at HG3
            have HK : Hid _ := hk0
            clear hk0 HC HG2
            go_wp2_with (go_at_call 38; refine (Kind_any _ _ _ _ _ _ _ (T2.alloc _)).mono ?_; rintro e w3 ⟨rfl, hb3⟩; rw [HK.out])
            go_roundw
            case rel => exact ⟨j + 1, _, _, by omega, by go_num, rfl, rfl, by omega, by omega, by omega, HG3, (hB2.alloc hB2.size _).trans (hb3.mono (by simp; exact Nat.le_succ_of_le hB2.size))⟩
            case measure => simp [intOf]; omega
        · go_wp2
          go_roundw
          case rel => exact ⟨k + 1, c, d, by omega, by go_num, rfl, rfl, hc, hd, by omega, by
            have h := HGk.out
            rw [HL.out, cntTs] at h
            have h2 := HG2.out
            rw [List.drop_of_length_le (by omega), cntT] at h2
            rw [← h2] at h
            exact h, Below.thru hB hB2 (by omega)⟩
          case measure => simp [intOf]; omega
    · have h := HGk.out
      rw [List.drop_of_length_le (by omega), cntTs] at h
      have HF : Hid _ := h
      clear h
      go_wp2
      go_ret2
      exact ⟨by rw [← HF.out]; rfl, hB⟩
end Go.Proofs.YtgaannoghefbbaaDoor
