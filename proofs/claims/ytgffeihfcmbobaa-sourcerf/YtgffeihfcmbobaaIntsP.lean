/- The contract of cupolaref01.Ints: whether two lists are the same. -/
import Derived.Test.YtgffeihfcmbobaaBase
import Derived.Test.YtgffeihfcmbobaaProg
namespace Go.Proofs.Ytgffeihfcmbobaa
open Go.RowKit

/-- A slice of ints that reads as a list. -/
def IntSl (w : World) (v : Value) (xs : List Int) : Prop :=
  (v = .slice none 0 0 ∧ xs = []) ∨ ∃ b o cap, v = .slice (some ⟨b, o, none⟩) xs.length cap ∧ ∀ i, i < xs.length → w.cell? ⟨b, o + i, none⟩ = some (.int .i64 (xs.getD i 0))

theorem ints_step (xs ys : List Int) (k : Nat) (hx : k < xs.length) (hy : k < ys.length) (h : xs.take k = ys.take k) (e : xs.getD k 0 = ys.getD k 0) : xs.take (k + 1) = ys.take (k + 1) := by
  rw [List.take_succ_eq_append_getElem hx, List.take_succ_eq_append_getElem hy, h]
  simp [List.getD_eq_getElem?_getD, List.getElem?_eq_getElem hx, List.getElem?_eq_getElem hy] at e
  rw [e]

set_option maxHeartbeats 400000 in
theorem Ints_len (p q : Option Addr) (n m c c' : Nat) (w : World) (h : n ≠ m) :
    Calls Try.prog 12 #[.slice p n c, .slice q m c'] w fun e w' => e = .returned (.bool false) ∧ w' = w := by
  have h' : ((n : Int) != (m : Int)) = true := by simp; omega
  go_enter Try.func12, Try.ntmps12
  go_wp2
  go_ret
  exact ⟨rfl, rfl⟩
set_option maxHeartbeats 400000 in
theorem Ints_nil (p q : Option Addr) (c c' : Nat) (w : World) :
    Calls Try.prog 12 #[.slice p 0 c, .slice q 0 c'] w fun e w' => e = .returned (.bool true) ∧ w' = w := by
  go_enter Try.func12, Try.ntmps12
  go_wp2
  go_rounds 1
  go_ret
  exact ⟨rfl, rfl⟩
set_option maxHeartbeats 1000000 in
theorem Ints_same (b1 o1 b2 o2 c c' : Nat) (xs ys : List Int) (w : World) (hn : xs.length ≤ 1000000) (hm : ys.length = xs.length)
    (hx : ∀ i, i < xs.length → w.cell? ⟨b1, o1 + i, none⟩ = some (.int .i64 (xs.getD i 0))) (hy : ∀ i, i < xs.length → w.cell? ⟨b2, o2 + i, none⟩ = some (.int .i64 (ys.getD i 0))) :
    Calls Try.prog 12 #[.slice (some ⟨b1, o1, none⟩) xs.length c, .slice (some ⟨b2, o2, none⟩) xs.length c'] w fun e w' => e = .returned (.bool (decide (xs = ys))) ∧ ∃ n, w' = w.drewN n := by
  have HX : Hid _ := hx
  have HY : Hid _ := hy
  have HM : Hid _ := hm
  clear hx hy hm
  go_enter Try.func12, Try.ntmps12
  go_wp2
  go_loopw [5] (fun i wr => ∃ k : Nat, k ≤ xs.length ∧ i = .int .i64 k ∧ xs.take k = ys.take k ∧ ∃ n, wr = w.drewN n) (fun i _ => xs.length - (intOf i).toNat)
  case atStart => exact ⟨0, Nat.zero_le _, rfl, by simp, 0, rfl⟩
  case round =>
    obtain ⟨k, hk, rfl, htk, nn, rfl⟩ := hrel
    have HT : Hid _ := htk
    clear htk
    by_cases hlt : k < xs.length
    · have hxk := HX.out k hlt
      have hyk := HY.out k hlt
      have hyl : k < ys.length := by rw [HM.out]; exact hlt
      have b0 : (0 : Int) ≤ (k : Int) := by omega
      have b1 : (k : Int) < (xs.length : Int) := by omega
      generalize hX : xs.getD k 0 = x at hxk
      generalize hY : ys.getD k 0 = y at hyk
      have HX' : Hid _ := hX
      have HY' : Hid _ := hY
      clear hX hY
      go_wp2
      go_quiet (fail)
      by_cases hxy : x = y
      · subst hxy
        go_wp2
        go_roundw
        case rel => exact ⟨k + 1, by omega, by go_num, ints_step xs ys k hlt hyl HT.out (HX'.out.trans HY'.out.symm), nn + nq, rfl⟩
        case measure => simp [intOf]; omega
      · have hxy' : (x != y) = true := by simpa using hxy
        go_wp2
        go_ret
        refine ⟨?_, nn + nq, by rw [World.drewN_drewN]⟩
        rw [decide_eq_false (fun e => hxy (by rw [← HX'.out, ← HY'.out, e]))]
        rfl
    · go_wp2
      go_ret
      have e : xs = ys := by
        have := HT.out
        rwa [List.take_of_length_le (by omega), List.take_of_length_le (by rw [HM.out]; omega)] at this
      exact ⟨by rw [decide_eq_true e]; rfl, _, rfl⟩
theorem Ints_any (v u : Value) (xs ys : List Int) (w : World) (hn : xs.length ≤ 1000000) (hv : IntSl w v xs) (hu : IntSl w u ys) :
    Calls Try.prog 12 #[v, u] w fun e w' => e = .returned (.bool (decide (xs = ys))) ∧ ∃ n, w' = w.drewN n := by
  by_cases hl : xs.length = ys.length
  · by_cases h0 : xs.length = 0
    · have e1 : xs = [] := List.length_eq_zero_iff.1 h0
      have e2 : ys = [] := List.length_eq_zero_iff.1 (by omega)
      subst e1; subst e2
      obtain ⟨p, c, rfl⟩ : ∃ p c, v = .slice p 0 c := by rcases hv with ⟨rfl, _⟩ | ⟨b, o, c, rfl, _⟩ <;> exact ⟨_, _, rfl⟩
      obtain ⟨q, c', rfl⟩ : ∃ p c, u = .slice p 0 c := by rcases hu with ⟨rfl, _⟩ | ⟨b, o, c, rfl, _⟩ <;> exact ⟨_, _, rfl⟩
      refine (Ints_nil p q c c' w).mono ?_
      rintro e w' ⟨rfl, rfl⟩
      exact ⟨by simp, 0, rfl⟩
    · rcases hv with ⟨_, rfl⟩ | ⟨b1, o1, c, rfl, hx⟩
      · simp at h0
      rcases hu with ⟨_, rfl⟩ | ⟨b2, o2, c', rfl, hy⟩
      · simp at hl; exact absurd (by rw [hl]; rfl) h0
      rw [← hl] at hy ⊢
      exact Ints_same b1 o1 b2 o2 c c' xs ys w hn hl.symm hx hy
  · obtain ⟨p, c, rfl⟩ : ∃ p c, v = .slice p xs.length c := by rcases hv with ⟨rfl, rfl⟩ | ⟨b, o, c, rfl, _⟩ <;> exact ⟨_, _, rfl⟩
    obtain ⟨q, c', rfl⟩ : ∃ p c, u = .slice p ys.length c := by rcases hu with ⟨rfl, rfl⟩ | ⟨b, o, c, rfl, _⟩ <;> exact ⟨_, _, rfl⟩
    refine (Ints_len p q _ _ c c' w hl).mono ?_
    rintro e w' ⟨rfl, rfl⟩
    exact ⟨by rw [decide_eq_false (fun e => hl (by rw [e]))], 0, rfl⟩

/-- What the call owns reads so. -/
theorem ints_own {w : World} {base : Nat} {e : TypeId} {v : Value} {xs : List Int} (h : w.ownsRow base e 1 v xs.length (xs.map (Value.int .i64))) : IntSl w v xs := by
  rcases h.2 with ⟨rfl, h0⟩ | ⟨g, cap, cur, rfl, hb, hg, _, _, _, _⟩
  · exact .inl ⟨rfl, List.length_eq_zero_iff.1 h0⟩
  · refine .inr ⟨g, 0, cap, rfl, fun i hi => ?_⟩
    have := h.cells (g := g) rfl i (.int .i64 (xs.getD i 0)) (by simp [List.getElem?_map, List.getElem?_eq_getElem hi, List.getD_eq_getElem?_getD])
    by_cases h0 : i = 0
    · subst h0; simpa [Addr.add] using this
    · simpa [Addr.add, h0] using this
theorem IntSl.below {w w' : World} {v : Value} {xs : List Int} (h : IntSl w v xs) (hb : Below w.heap.size w w') : IntSl w' v xs := by
  rcases h with h | ⟨b, o, c, rfl, hx⟩
  · exact .inl h
  · refine .inr ⟨b, o, c, rfl, fun i hi => ?_⟩
    have h1 := hx i hi
    have hlt : b < w.heap.size := by
      rcases Nat.lt_or_ge b w.heap.size with hlt | hge
      · exact hlt
      · simp [World.cell?, Array.getElem?_eq_none hge] at h1
    exact (hb.cell (p := ⟨b, o + i, none⟩) hlt).trans h1
theorem intsl_at {w : World} {v : Value} {xs : List Int} (h : IntSl w v xs) {k : Nat} (hk : k < xs.length) : ∃ b o cap, v = .slice (some ⟨b, o, none⟩) xs.length cap ∧ w.cell? ⟨b, o + k, none⟩ = some (.int .i64 (xs.getD k 0)) := by
  rcases h with ⟨_, rfl⟩ | ⟨b, o, c, rfl, hx⟩
  · simp at hk
  · exact ⟨b, o, c, rfl, hx k hk⟩
theorem intsl_len {w : World} {v : Value} {xs : List Int} (h : IntSl w v xs) : ∃ p cap, v = .slice p xs.length cap := by
  rcases h with ⟨rfl, rfl⟩ | ⟨b, o, c, rfl, hx⟩ <;> exact ⟨_, _, rfl⟩

end Go.Proofs.Ytgffeihfcmbobaa
