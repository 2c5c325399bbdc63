/- Contracts of the document's answers: which of two lists of numbers, and of two outcomes, is lower. -/
import Derived.Test.YtdealgleehbhlaaDoorCondCmp2
namespace Go.Proofs.YtdealgleehbhlaaDoor
open Go.RowKit

set_option maxHeartbeats 1000000 in
theorem nums_any (p q : Option Addr) (c d : Nat) (xs ys : List Int) (w : World) (hx : Sl IntE w (.slice p xs.length c) xs) (hy : Sl IntE w (.slice q ys.length d) ys) (hL : xs.length ≤ 1000000000000000) :
    Calls Tryd.prog 33 #[.slice p xs.length c, .slice q ys.length d] w fun e w' => e = .returned (.int .i64 (cmpL xs ys)) ∧ ∃ n, w' = w.drewN n := by
  go_enter Tryd.func33, Tryd.ntmps33
  go_wp2
  go_loopw [5] (fun i wr => ∃ k : Nat, (k ≤ xs.length ∧ k ≤ ys.length) ∧ i = .int .i64 k ∧ cmpL (xs.drop k) (ys.drop k) = cmpL xs ys ∧ ∃ n, wr = w.drewN n) (fun i _ => xs.length - (intOf i).toNat)
  case atStart => exact ⟨0, ⟨Nat.zero_le _, Nat.zero_le _⟩, rfl, rfl, 0, rfl⟩
  case round =>
    obtain ⟨k, hk, rfl, hF, nn, hn⟩ := hrel
    have HF : Hid _ := hF
    have hbr : Below w.heap.size w wr := by rw [hn]; exact below_drewN _ (Below.refl _ _)
    have HN : Hid _ := hn
    clear hF hn
    by_cases hlt : k < xs.length ∧ k < ys.length
    · obtain ⟨hlt, hltb⟩ := hlt
      obtain ⟨b1, o1, rfl, hu⟩ := (ints_at (hx.keep hbr)).2 k hlt
      obtain ⟨b2, o2, rfl, hv⟩ := (ints_at (hy.keep hbr)).2 k hltb
      generalize h1 : xs[k] = x at hu
      generalize h2 : ys[k] = y at hv
      have H1 : xs.drop k = x :: xs.drop (k + 1) := by rw [← h1]; exact drop_at hlt
      have H2 : ys.drop k = y :: ys.drop (k + 1) := by rw [← h2]; exact drop_at hltb
      have hF := HF.out
      rw [H1, H2, cmpL] at hF
      clear h1 h2 H1 H2
      have hlt' : (k : Int) < (xs.length : Int) := by omega
      have hlt2 : (k : Int) < (ys.length : Int) := by omega
      by_cases c1 : x < y
      · rw [if_pos c1] at hF
        have HF' : Hid _ := hF
        clear hF
        go_wp2
        go_quiet (fail)
        go_wp2
        go_ret
        exact ⟨by rw [← HF'.out]; rfl, nn + nq, by rw [HN.out, World.drewN_drewN]⟩
      · rw [if_neg c1] at hF
        by_cases c2 : y < x
        · rw [if_pos c2] at hF
          have HF' : Hid _ := hF
          clear hF
          go_wp2
          go_quiet (fail)
          obtain ⟨m1, rfl⟩ : ∃ m1, m1 = nq := ⟨_, rfl⟩
          go_wp2
          go_quiet (fail)
          go_wp2
          go_ret
          exact ⟨by rw [← HF'.out]; rfl, nn + (m1 + nq), by simp [HN.out, World.drewN_drewN, Nat.add_assoc]⟩
        · rw [if_neg c2] at hF
          have HF' : Hid _ := hF
          clear hF
          go_wp2
          go_quiet (fail)
          obtain ⟨m1, rfl⟩ : ∃ m1, m1 = nq := ⟨_, rfl⟩
          go_wp2
          go_quiet (fail)
          go_wp2
          go_roundw
          case rel => exact ⟨k + 1, ⟨by omega, by omega⟩, by go_num, HF'.out, nn + (m1 + nq), by rw [HN.out, World.drewN_drewN]⟩
          case measure => simp [intOf]; omega
    · have HE : Hid (cmpL xs ys = cmp3 xs.length ys.length) := by rw [← HF.out, cmpL_end3 (by omega) hk]; rfl
      have hmm : (xs.length ≤ k ∧ ¬ ((k : Int) < (xs.length : Int))) ∨ (k < xs.length ∧ (k : Int) < (xs.length : Int) ∧ ¬ ((k : Int) < (ys.length : Int))) := by omega
      have e3 : (cmp3 xs.length ys.length = -1 ∧ (xs.length : Int) < (ys.length : Int)) ∨ (cmp3 xs.length ys.length = 1 ∧ ¬ ((xs.length : Int) < (ys.length : Int)) ∧ (ys.length : Int) < (xs.length : Int)) ∨ (cmp3 xs.length ys.length = 0 ∧ ¬ ((xs.length : Int) < (ys.length : Int)) ∧ ¬ ((ys.length : Int) < (xs.length : Int))) := by
        unfold cmp3
        by_cases g1 : (xs.length : Int) < (ys.length : Int)
        · exact .inl ⟨by rw [if_pos g1], g1⟩
        · by_cases g2 : (ys.length : Int) < (xs.length : Int)
          · exact .inr (.inl ⟨by rw [if_neg g1, if_pos g2], g1, g2⟩)
          · exact .inr (.inr ⟨by rw [if_neg g1, if_neg g2], g1, g2⟩)
      clear hlt
      rcases hmm with ⟨_, hm⟩ | ⟨_, hm, hm2⟩ <;> rcases e3 with ⟨e3, g1⟩ | ⟨e3, g1, g2⟩ | ⟨e3, g1, g2⟩
      all_goals
        have HE' : Hid _ := HE.out.trans e3
        clear e3
        go_wp2
        go_ret
        exact ⟨by rw [HE'.out]; rfl, nn, HN.out⟩

set_option maxHeartbeats 2000000 in
theorem refCompare_any (v1 v2 u1 u2 : Value) (a b : Out) (w : World) (ha : OutV w v1 v2 a) (hb : OutV w u1 u2 b) (hz : Osz a) :
    Calls Tryd.prog 19 #[.agg #[v1, v2], .agg #[u1, u2]] w fun e w' => e = .returned (.int .i64 (cmpO a b)) ∧ Below w.heap.size w w' := by
  have hb1 := (((Below.refl w.heap.size w).alloc (Nat.le_refl _) (.cells #[v1, v2] 36)).alloc (by simp) (.cells #[u1, u2] 36))
  obtain ⟨xs, ms⟩ := a
  obtain ⟨ys, ns⟩ := b
  obtain ⟨sx, sm⟩ : Sl (SlE IntE) _ v1 xs ∧ Sl IntE _ v2 ms := ha.keep hb1
  obtain ⟨sy, sn⟩ : Sl (SlE IntE) _ u1 ys ∧ Sl IntE _ u2 ns := hb.keep hb1
  obtain ⟨hzx, hzi, hzm⟩ : xs.length ≤ 1000000000000000 ∧ (∀ l ∈ xs, l.length ≤ 1000000000000000) ∧ ms.length ≤ 1000000000000000 := hz
  have hO : cmpO ⟨xs, ms⟩ ⟨ys, ns⟩ = if cmpR xs ys ≠ 0 then cmpR xs ys else cmpL ms ns := rfl
  obtain ⟨s, hs⟩ : ∃ s, cmpO ⟨xs, ms⟩ ⟨ys, ns⟩ = s := ⟨_, rfl⟩
  rw [hs] at hO ⊢
  have HO : Hid _ := hO
  clear hs hO ha hb
  obtain ⟨p1, c1, rfl⟩ := sx.len
  obtain ⟨p2, c2, rfl⟩ := sm.len
  obtain ⟨q1, d1, rfl⟩ := sy.len
  obtain ⟨q2, d2, rfl⟩ := sn.len
  have k1 : Blk ((w.alloc (.cells #[.slice p1 xs.length c1, .slice p2 ms.length c2] 36)).alloc (.cells #[.slice q1 ys.length d1, .slice q2 ns.length d2] 36)) w.heap.size #[.slice p1 xs.length c1, .slice p2 ms.length c2] 36 := Blk.new.alloc _
  have k2 : Blk ((w.alloc (.cells #[.slice p1 xs.length c1, .slice p2 ms.length c2] 36)).alloc (.cells #[.slice q1 ys.length d1, .slice q2 ns.length d2] 36)) (w.heap.size + 1) #[.slice q1 ys.length d1, .slice q2 ns.length d2] 36 := Blk.newAt (by simp)
  go_enter Tryd.func19, Tryd.ntmps19
  go_wp2
  generalize ((w.alloc (.cells #[.slice p1 xs.length c1, .slice p2 ms.length c2] 36)).alloc (.cells #[.slice q1 ys.length d1, .slice q2 ns.length d2] 36)) = w1 at *
  go_loopw [5] (fun i wr => ∃ k : Nat, (k ≤ xs.length ∧ k ≤ ys.length) ∧ i = .int .i64 k ∧ cmpR (xs.drop k) (ys.drop k) = cmpR xs ys ∧ ∃ n, wr = w1.drewN n) (fun i _ => xs.length - (intOf i).toNat)
  case atStart => exact ⟨0, ⟨Nat.zero_le _, Nat.zero_le _⟩, rfl, rfl, 0, rfl⟩
  case round =>
    obtain ⟨k, hk, rfl, hF, nn, hn⟩ := hrel
    have HF : Hid _ := hF
    have hbr : Below w1.heap.size w1 wr := by rw [hn]; exact below_drewN _ (Below.refl _ _)
    have hbw : Below w.heap.size w wr := by rw [hn]; exact below_drewN _ hb1
    have e1 : wr.cell? ⟨w.heap.size, 0, none⟩ = some (.slice p1 xs.length c1) := (k1.keep hbr).cell 0
    have e2 : wr.cell? ⟨w.heap.size, 1, none⟩ = some (.slice p2 ms.length c2) := (k1.keep hbr).cell 1
    have e3 : wr.cell? ⟨w.heap.size + 1, 0, none⟩ = some (.slice q1 ys.length d1) := (k2.keep hbr).cell 0
    have e4 : wr.cell? ⟨w.heap.size + 1, 1, none⟩ = some (.slice q2 ns.length d2) := (k2.keep hbr).cell 1
    have HN : Hid _ := hn
    clear hF hn
    by_cases hlt : k < xs.length ∧ k < ys.length
    · obtain ⟨hlt, hltb⟩ := hlt
      obtain ⟨b1, o1, rfl, u, hu, hU⟩ := (sl_at (sx.keep hbr)).2 k hlt
      obtain ⟨b2, o2, rfl, v, hv, hV⟩ := (sl_at (sy.keep hbr)).2 k hltb
      have hxl := hzi _ (List.getElem_mem hlt)
      generalize h1 : xs[k] = x at hU hxl
      generalize h2 : ys[k] = y at hV
      have H1 : Hid (xs.drop k = x :: xs.drop (k + 1)) := by rw [← h1]; exact drop_at hlt
      have H2 : Hid (ys.drop k = y :: ys.drop (k + 1)) := by rw [← h2]; exact drop_at hltb
      clear h1 h2
      obtain ⟨pu, cu, rfl⟩ := hU.len
      obtain ⟨pv, cv, rfl⟩ := hV.len
      have hlt' : (k : Int) < (xs.length : Int) := by omega
      have hlt2 : (k : Int) < (ys.length : Int) := by omega
      obtain ⟨r, hr⟩ : ∃ r, cmpL x y = r := ⟨_, rfl⟩
      have HR : Hid _ := hr
      have HC : Hid (∀ n, Calls Tryd.prog 33 #[.slice pu x.length cu, .slice pv y.length cv] (wr.drewN n) fun e w' => e = .returned (.int .i64 r) ∧ ∃ m, w' = (wr.drewN n).drewN m) := fun n => by
        have hbn := below_drewN n (Below.refl wr.heap.size wr)
        rw [← hr]; exact nums_any pu pv cu cv x y _ (SlA.keep hU hbn) (SlA.keep hV hbn) hxl
      clear hr
      go_wp2
      go_quiet (first | (go_at_call 33; exact Calls.quiet_of (HC.out _)))
      have hF := HF.out
      rw [cmpR_step H1.out H2.out, HR.out] at hF
      by_cases hr : r = 0
      · have hr' : (r != 0) = false := by simpa using hr
        rw [if_neg (by simpa using hr)] at hF
        have HF' : Hid _ := hF
        clear hF hr
        go_wp2
        go_roundw
        case rel => exact ⟨k + 1, ⟨by omega, by omega⟩, by go_num, HF'.out, nn + nq, by rw [HN.out, World.drewN_drewN]⟩
        case measure => simp [intOf]; omega
      · have hr' : (r != 0) = true := by simpa using hr
        rw [if_pos hr] at hF
        have HS : Hid _ := HO.out
        have hs : s = r := by rw [HO.out, ← hF, if_pos hr]
        subst hs
        clear hF hr
        go_wp2
        go_ret
        exact ⟨rfl, below_drewN _ hbw⟩
    · have HE : Hid (cmpR xs ys = cmp3 xs.length ys.length) := by rw [← HF.out, cmpR_end3 (by omega) hk]; rfl
      have hmm : (xs.length ≤ k ∧ ¬ ((k : Int) < (xs.length : Int))) ∨ (k < xs.length ∧ (k : Int) < (xs.length : Int) ∧ ¬ ((k : Int) < (ys.length : Int))) := by omega
      have e3' : (s = -1 ∧ (xs.length : Int) < (ys.length : Int)) ∨ (s = 1 ∧ ¬ ((xs.length : Int) < (ys.length : Int)) ∧ (ys.length : Int) < (xs.length : Int)) ∨ (s = cmpL ms ns ∧ ¬ ((xs.length : Int) < (ys.length : Int)) ∧ ¬ ((ys.length : Int) < (xs.length : Int))) := by
        have ho := HO.out
        rw [HE.out] at ho
        unfold cmp3 at ho
        by_cases g1 : (xs.length : Int) < (ys.length : Int)
        · exact .inl ⟨by rw [ho, if_pos g1]; rfl, g1⟩
        · by_cases g2 : (ys.length : Int) < (xs.length : Int)
          · exact .inr (.inl ⟨by rw [ho, if_neg g1, if_pos g2]; rfl, g1, g2⟩)
          · exact .inr (.inr ⟨by rw [ho, if_neg g1, if_neg g2]; rfl, g1, g2⟩)
      have HD : Hid (Calls Tryd.prog 33 #[.slice p2 ms.length c2, .slice q2 ns.length d2] wr fun e w' => e = .returned (.int .i64 (cmpL ms ns)) ∧ ∃ m, w' = wr.drewN m) := nums_any p2 q2 c2 d2 ms ns _ (sm.keep hbr) (sn.keep hbr) hzm
      clear hlt
      rcases hmm with ⟨_, hm⟩ | ⟨_, hm, hm2⟩ <;> rcases e3' with ⟨rfl, g1⟩ | ⟨rfl, g1, g2⟩ | ⟨rfl, g1, g2⟩
      all_goals
        try (exfalso; omega)
      all_goals
        go_wp2_with (go_at_call 33; refine Calls.mono HD.out ?_; rintro e w2 ⟨rfl, mm, rfl⟩)
        go_ret
        first
          | exact ⟨rfl, hbw⟩
          | exact ⟨rfl, below_drewN _ hbw⟩
end Go.Proofs.YtdealgleehbhlaaDoor
