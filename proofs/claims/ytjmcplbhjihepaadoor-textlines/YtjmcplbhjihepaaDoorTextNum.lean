/- Contracts of the document's number and cut, over texts. -/
import Derived.Test.YtjmcplbhjihepaaDoorTextFig
namespace Go.Proofs.YtjmcplbhjihepaaDoor
open Go.RowKit

theorem wrap_is (x : Int) : IntKind.i64.wrap x = wrap64 x := by simp only [wrap64, IntKind.wrap_i64]
set_option maxRecDepth 100000 in
set_option maxHeartbeats 2000000 in
theorem refNumber_any (l : List UInt8) (hl : l.length ≤ 1000000) (w : World) :
    Calls Tryd.prog 19 #[.string ⟨l.toArray⟩] w fun e w' => e = .returned (.int .i64 (numR l)) ∧ w' = w := by
  have hsz := size_l l
  go_enter Tryd.func19, Tryd.ntmps19
  go_wp2
  go_loopw [3, 4] (fun q i wr => ∃ (k : Nat) (n : Int), k ≤ l.length ∧ i = .int .i64 k ∧ q = .int .i64 n ∧ in64 n ∧ numF (l.drop k) n = numF l 0 ∧ wr = w) (fun _ i _ => l.length - (intOf i).toNat)
  case atStart => exact ⟨0, 0, by omega, rfl, rfl, ⟨by decide, by decide⟩, rfl, rfl⟩
  case round =>
    obtain ⟨k, n, hk, rfl, rfl, ⟨n0, n1⟩, hg, rfl⟩ := hrel
    have HG : Hid _ := hg
    clear hg
    by_cases hlt : k < l.length
    · obtain ⟨c, hc⟩ : ∃ c, l[k] = c := ⟨_, rfl⟩
      have hck : (⟨l.toArray⟩ : ByteArray)[k]'(by rw [hsz]; exact hlt) = c := hc
      have HD : Hid (l.drop k = c :: l.drop (k + 1)) := by rw [← hc]; exact drop_at hlt
      have HG2 : Hid (numF (l.drop (k + 1)) (digF n c) = numF l 0) := by have := HG.out; rw [HD.out] at this; exact this
      clear hc HD HG
      have hin : in64 (digF n c) := by
        unfold in64 digF
        split
        · simp only [IntKind.wrap_i64]; omega
        · exact ⟨n0, n1⟩
      have hc2 := c.toNat_lt
      by_cases h1 : 48 ≤ c.toNat
      · by_cases h2 : c.toNat ≤ 57
        · have e : Hid (wrap64 (wrap64 (10 * n) - ((c.toNat : Int) - 48)) = digF n c) := by
            unfold Hid digF
            rw [if_pos ⟨h1, h2⟩]
            simp only [wrap64, IntKind.wrap_i64]
            omega
          go_wp2
          go_roundw
          case rel => exact ⟨k + 1, digF n c, by omega, by go_num, by rw [← e.out], hin, HG2.out, trivial⟩
          case measure => simp [intOf]; omega
        · have e : digF n c = n := by unfold digF; rw [if_neg (by omega)]
          rw [e] at HG2
          clear e hin
          go_wp2
          go_roundw
          case rel => exact ⟨k + 1, n, by omega, by go_num, rfl, ⟨n0, n1⟩, HG2.out, trivial⟩
          case measure => simp [intOf]; omega
      · have e : digF n c = n := by unfold digF; rw [if_neg (by omega)]
        rw [e] at HG2
        clear e hin
        go_wp2
        go_roundw
        case rel => exact ⟨k + 1, n, by omega, by go_num, rfl, ⟨n0, n1⟩, HG2.out, trivial⟩
        case measure => simp [intOf]; omega
    · have HF : Hid (n = numF l 0) := by have := HG.out; rw [List.drop_of_length_le (by omega)] at this; exact this
      clear HG
      have hkl : k = l.length := by omega
      by_cases hl0 : l.length = 0
      · have HR : Hid (numR l = wrap64 (-n)) := by
          unfold Hid numR
          rw [← HF.out, List.length_eq_zero_iff.1 hl0, wrap_is]
          rfl
        go_wp2
        go_ret
        exact ⟨by rw [HR.out]; rfl, rfl⟩
      · obtain ⟨c, hck, hneg⟩ : ∃ c, (⟨l.toArray⟩ : ByteArray)[0]'(by rw [hsz]; omega) = c ∧ negL l = (c.toNat == 45) := by
          match l, hl0 with
          | c :: r, _ => exact ⟨c, rfl, rfl⟩
        have hc2 := c.toNat_lt
        have hpos : 0 < l.length := by omega
        by_cases h45 : c.toNat = 45
        · have HR : Hid (numR l = n) := by
            unfold Hid numR
            rw [← HF.out, hneg, h45]; rfl
          clear hneg
          go_wp2
          go_ret
          exact ⟨by rw [HR.out]; rfl, rfl⟩
        · have HR : Hid (numR l = wrap64 (-n)) := by
            unfold Hid numR
            rw [← HF.out, hneg, show (c.toNat == 45) = false by rw [beq_eq_false_iff_ne]; exact h45, wrap_is]; rfl
          clear hneg
          go_wp2
          go_ret
          exact ⟨by rw [HR.out]; rfl, rfl⟩
end Go.Proofs.YtjmcplbhjihepaaDoor
