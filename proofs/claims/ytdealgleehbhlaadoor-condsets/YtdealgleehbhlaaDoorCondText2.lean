/- Contracts of cond's writeAtoms and Text. -/
import Derived.Test.YtdealgleehbhlaaDoorCondText
namespace Go.Proofs.YtdealgleehbhlaaDoor
open Go.RowKit

theorem andL_more {l r : List Atm} {a : Atm} {k : Nat} {m : List UInt8} (h : l.drop k = a :: r) : m ++ andL (decide (k = 0)) (l.drop k) = (m ++ (if k = 0 then [] else [38]) ++ wordL a) ++ andL (decide (k + 1 = 0)) r := by
  rw [h]
  by_cases hk : k = 0
  · subst hk; simp [andL]
  · simp [andL, hk]
theorem listL_len {l : List Atm} (h : ∀ a ∈ l, Asz a) : (listL l).length ≤ 4 + 68 * l.length := by
  have := andL_len (first := true) h
  unfold listL
  split <;> simp <;> omega

set_option maxHeartbeats 1000000 in
theorem writeAtoms_any (b : Nat) (l0 : List UInt8) (p : Option Addr) (c : Nat) (l : List Atm) (w : World) (E : Pow w) (ha : ∀ a ∈ l, Asz a) (hl : SlA (fun k => k < b) AtmE w (.slice p l.length c) l) (h : Bld w b l0) (hlen : l0.length ≤ 800000) (hz : l.length ≤ 100) (hg : gTop < b) :
    Calls Tryd.prog 28 #[.pointer (some ⟨b, 0, none⟩), .slice p l.length c] w fun e w' => e = .returned (.tuple #[]) ∧ Bld w' b (l0 ++ listL l) ∧ KeptB b w w' := by
  by_cases h0 : l.length = 0
  · have hl0 : l = [] := List.length_eq_zero_iff.1 h0
    have h0' : ((l.length : Int) == 0) = true := by rw [h0]; rfl
    have HE : Hid (listL l = [116, 114, 117, 101]) := by rw [hl0]; rfl
    clear hl hl0
    go_enter Tryd.func28, Tryd.ntmps28
    go_wp2_with (go_at_call 27; refine (WriteString_any b l0 [116, 114, 117, 101] _ h (by simp; omega)).mono ?_; rintro e w1 ⟨rfl, hB, hK⟩)
    go_loopw [13] (fun i wr => i = .int .i64 0 ∧ wr = w1) (fun _ _ => 0)
    case atStart => exact ⟨rfl, rfl⟩
    case round =>
      obtain ⟨rfl, rfl⟩ := hrel
      have h9 : ¬ ((0 : Int) < (l.length : Int)) := by omega
      go_wp2
      go_end0
      exact ⟨rfl, by rw [HE.out]; exact hB, hK⟩
  · have h0' : ((l.length : Int) == 0) = false := by simp only [beq_eq_false_iff_ne, ne_eq]; omega
    have HE : Hid (listL l = andL true l) := by
      unfold listL
      rw [if_neg (fun e => h0 (by rw [e]; rfl))]; rfl
    go_enter Tryd.func28, Tryd.ntmps28
    go_wp2
    go_loopw [13] (fun i wr => ∃ k : Nat, k ≤ l.length ∧ i = .int .i64 k ∧ KeptB b w wr ∧ Pow wr ∧ ∃ m, Bld wr b m ∧ m ++ andL (decide (k = 0)) (l.drop k) = l0 ++ andL true l ∧ m.length ≤ l0.length + 68 * k) (fun i _ => l.length - (intOf i).toNat)
    case atStart => exact ⟨0, Nat.zero_le _, rfl, KeptB.refl _ _, E, l0, h, rfl, by omega⟩
    case round =>
      obtain ⟨k, hk, rfl, hK, hP, m, hB, hF, hm⟩ := hrel
      have HF : Hid _ := hF
      clear hF
      by_cases hlt : k < l.length
      · obtain ⟨bb, oo, rfl, f1, f2, f3, f4⟩ := (atm_at (hl.agree (Below.agreeAt hK.below (fun _ h => h)))).2 k hlt
        have haa := ha _ (List.getElem_mem hlt)
        generalize hx : l[k] = x at f1 f2 f3 f4 haa
        have HX : Hid (l.drop k = x :: l.drop (k + 1)) := by rw [← hx]; exact drop_at hlt
        clear hx
        obtain ⟨t, ps, v, n⟩ := x
        have hlt' : (k : Int) < (l.length : Int) := by omega
        have hb0 := (Below.refl wr.heap.size wr).alloc (Nat.le_refl _) (.cells #[.int .i64 t, .int .i64 ps, .int .i64 v, .bool n] 49)
        have hbw := hB.lt
        have S : WA b wr.heap.size wr ⟨t, ps, v, n⟩ (wr.alloc (.cells #[.int .i64 t, .int .i64 ps, .int .i64 v, .bool n] 49)) m := ⟨KeptB.of hb0 (Nat.le_of_lt hbw), Blk.new, hP.below hb0, hB.keep hb0⟩
        have hne : wr.heap.size ≠ b := by omega
        have hwl := wordL_len haa
        have HG := HF.out
        rw [andL_more HX.out] at HG
        by_cases hk0 : k = 0
        · subst hk0
          rw [if_pos rfl, List.append_nil] at HG
          have HG : Hid _ := HG
          simp only [Nat.zero_mul, Nat.add_zero] at f1 f2 f3 f4
          go_wp2_with (first
            | (go_at_call 41; refine (writeAtom_any b _ ⟨t, ps, v, n⟩ _ S.pow haa S.bld (by first | omega | (simp; omega)) hg).mono ?_; rintro e w3 ⟨rfl, hB3, hK3⟩))
          go_roundw
          case rel => exact ⟨0 + 1, by omega, by go_num, hK.trans (S.kept.trans hK3), (S.pow.belowAt hK3.below hg), _, hB3, HG.out, by simp; omega⟩
          case measure => simp [intOf]; omega
        · have hk1 : (0 : Int) < (k : Int) := by omega
          rw [if_neg hk0] at HG
          have HG : Hid _ := HG
          go_wp2_with (first
            | (go_at_call 27; refine (S.ws hg hne _ (by first | omega | (simp; omega))).mono ?_; rintro e w2 ⟨rfl, S'⟩; clear S; have S := S'; clear S'; obtain ⟨f0, f1, f2, f3⟩ := S.cells)
            | (go_at_call 41; refine (writeAtom_any b _ ⟨t, ps, v, n⟩ _ S.pow haa S.bld (by first | omega | (simp; omega)) hg).mono ?_; rintro e w3 ⟨rfl, hB3, hK3⟩))
          go_roundw
          case rel => exact ⟨k + 1, by omega, by go_num, hK.trans (S.kept.trans hK3), (S.pow.belowAt hK3.below hg), _, hB3, HG.out, by simp; omega⟩
          case measure => simp [intOf]; omega
      · have HG : Hid (m = l0 ++ andL true l) := by have := HF.out; rw [List.drop_of_length_le (by omega), andL, List.append_nil] at this; exact this
        go_wp2
        go_end0
        exact ⟨rfl, by rw [HE.out, ← HG.out]; exact hB, hK⟩

theorem orL_more {l r : List (List Atm)} {a : List Atm} {k : Nat} {m : List UInt8} (h : l.drop k = a :: r) : m ++ orL (decide (k = 0)) (l.drop k) = (m ++ (if k = 0 then [] else [32, 124]) ++ [32] ++ listL a) ++ orL (decide (k + 1 = 0)) r := by
  rw [h]
  by_cases hk : k = 0
  · subst hk; simp [orL]
  · simp [orL, hk]
theorem headL (all : Bool) (ls : List (List Atm)) : condL all ls = (bif all then [102, 111, 114, 97, 108, 108] else [101, 120, 105, 115, 116, 115]) ++ orL true ls := rfl

set_option maxHeartbeats 2000000 in
theorem Text_any (all : Bool) (p : Option Addr) (c : Nat) (ls : List (List Atm)) (w : World) (E : Pow w) (hl : Sl (SlE AtmE) w (.slice p ls.length c) ls) (ha : ∀ l ∈ ls, ∀ a ∈ l, Asz a) (hz : ls.length ≤ 100) (hzl : ∀ l ∈ ls, l.length ≤ 100) :
    Calls Tryd.prog 16 #[.agg #[.bool all, .slice p ls.length c]] w fun e w' => e = .returned (.string ⟨(condL all ls).toArray⟩) ∧ Below w.heap.size w w' := by
  have hg : gTop < w.heap.size + 1 := Nat.lt_succ_of_lt E.lt
  have hb1 := (((Below.refl w.heap.size w).alloc (Nat.le_refl _) (.cells #[.bool all, .slice p ls.length c] 31)).alloc (by simp) (.cells #[.pointer none, .slice none 0 0] 60))
  have hB1 : Bld ((w.alloc (.cells #[.bool all, .slice p ls.length c] 31)).alloc (.cells #[.pointer none, .slice none 0 0] 60)) (w.heap.size + 1) [] := Bld.newAt (by simp)
  have k1 : Blk ((w.alloc (.cells #[.bool all, .slice p ls.length c] 31)).alloc (.cells #[.pointer none, .slice none 0 0] 60)) w.heap.size #[.bool all, .slice p ls.length c] 31 := Blk.new.alloc _
  have hl1 : SlA (fun k => k < w.heap.size + 1) (SlE AtmE) _ (.slice p ls.length c) ls := SlA.mono (fun _ h => Nat.lt_succ_of_lt h) (hl.old.keep hb1)
  have E1 := E.below hb1
  have HT := headL all ls
  have hone : w.heap.size ≠ w.heap.size + 1 := by omega
  obtain ⟨T, hT⟩ : ∃ T, condL all ls = T := ⟨_, rfl⟩
  rw [hT] at HT ⊢
  have HT : Hid _ := HT
  have hbB : w.heap.size ≤ w.heap.size + 1 := by omega
  clear hT
  cases all
  all_goals
    have HT : Hid _ := HT.out
    go_enter Tryd.func16, Tryd.ntmps16
    go_wp2_with (go_at_call 27; refine (WriteString_any (w.heap.size + 1) [] _ _ hB1 (by simp)).mono ?_; rintro e w2 ⟨rfl, hB2, hK2⟩; have k2 := hK2.blk k1 hone (by decide); have c0 := k2.cell 0; have c1 := k2.cell 1; simp only [List.getElem?_toArray, List.getElem?_cons_zero, List.getElem?_cons_succ] at c0 c1)
    have E2 := E1.belowAt hK2.below hg
    have hl2 := hl1.agree (Below.agreeAt hK2.below (fun _ h => h))
    have hbw : Below w.heap.size w w2 := hb1.trans (hK2.below.mono hbB)
    generalize hbb : w.heap.size + 1 = b at *
    go_loopw [13] (fun i wr => ∃ k : Nat, k ≤ ls.length ∧ i = .int .i64 k ∧ KeptB b w2 wr ∧ Pow wr ∧ ∃ m, Bld wr b m ∧ m ++ orL (decide (k = 0)) (ls.drop k) = T ∧ m.length ≤ 6 + 6810 * k) (fun i _ => ls.length - (intOf i).toNat)
    case atStart => exact ⟨0, Nat.zero_le _, rfl, KeptB.refl _ _, E2, _, hB2, by rw [HT.out]; rfl, by simp⟩
    case round =>
      obtain ⟨k, hk, rfl, hK, hP, m, hB, hF, hm⟩ := hrel
      have HF : Hid _ := hF
      clear hF
      by_cases hlt : k < ls.length
      · obtain ⟨bb, oo, rfl, u, hu, hU⟩ := (sl_at (hl2.agree (Below.agreeAt hK.below (fun _ h => h)))).2 k hlt
        have haa := ha _ (List.getElem_mem hlt)
        have hzz := hzl _ (List.getElem_mem hlt)
        generalize hx : ls[k] = x at hU haa hzz
        have HX : Hid (ls.drop k = x :: ls.drop (k + 1)) := by rw [← hx]; exact drop_at hlt
        clear hx
        obtain ⟨pu, cu, rfl⟩ := hU.len
        have hlt' : (k : Int) < (ls.length : Int) := by omega
        have hll := listL_len haa
        have HG := HF.out
        rw [orL_more HX.out] at HG
        by_cases hk0 : k = 0
        · subst hk0
          rw [if_pos rfl, List.append_nil] at HG
          have HG : Hid _ := HG
          simp only [Nat.add_zero] at hu
          go_wp2_with (go_at_call 27; refine (WriteString_any b _ _ _ hB (by simp; omega)).mono ?_; rintro e w3 ⟨rfl, hB3, hK3⟩)
          go_wp2_with (go_at_call 28; refine (writeAtoms_any b _ pu cu x _ (hP.belowAt hK3.below hg) haa (hU.agree (Below.agreeAt hK3.below (fun _ h => h))) hB3 (by simp; omega) hzz hg).mono ?_; rintro e w4 ⟨rfl, hB4, hK4⟩)
          go_roundw
          case rel => exact ⟨0 + 1, by omega, by go_num, hK.trans (hK3.trans hK4), (hP.belowAt hK3.below hg).belowAt hK4.below hg, _, hB4, HG.out, by simp; omega⟩
          case measure => simp [intOf]; omega
        · have hk1 : (0 : Int) < (k : Int) := by omega
          rw [if_neg hk0] at HG
          have HG : Hid _ := HG
          go_wp2_with (go_at_call 27; refine (WriteString_any b _ [32, 124] _ hB (by simp; omega)).mono ?_; rintro e w3 ⟨rfl, hB3, hK3⟩; clear hB)
          go_wp2_with (go_at_call 27; refine (WriteString_any b _ [32] _ hB3 (by simp; omega)).mono ?_; rintro e w3' ⟨rfl, hB3', hK3'⟩; clear hB3)
          have hKK := hK3.trans hK3'
          go_wp2_with (go_at_call 28; refine (writeAtoms_any b _ pu cu x _ (hP.belowAt hKK.below hg) haa (hU.agree (Below.agreeAt hKK.below (fun _ h => h))) hB3' (by simp; omega) hzz hg).mono ?_; rintro e w4 ⟨rfl, hB4, hK4⟩)
          go_roundw
          case rel => exact ⟨k + 1, by omega, by go_num, hK.trans (hKK.trans hK4), (hP.belowAt hKK.below hg).belowAt hK4.below hg, _, hB4, HG.out, by simp; omega⟩
          case measure => simp [intOf]; omega
      · have HG : Hid (m = T) := by have := HF.out; rw [List.drop_of_length_le (by omega), orL, List.append_nil] at this; exact this
        have hG := HG.out
        subst hG
        go_wp2_with (go_at_call 29; refine (String_any b _ _ hB).mono ?_; rintro e w5 ⟨rfl, hb5⟩)
        go_ret
        exact ⟨by first | rfl | (rw [HT.out]; rfl), hbw.trans ((hK.below.trans hb5).mono (by omega))⟩
end Go.Proofs.YtdealgleehbhlaaDoor
