/- ValsMany, walked: it answers true. -/
import Derived.Test.YtgaannoghefbbaaDoorValsShown
import Derived.Test.YtgaannoghefbbaaDoorFlowMay
import Derived.Test.YtgaannoghefbbaaDoorFlowTold
namespace Go.Proofs.YtgaannoghefbbaaDoor
open Go.RowKit
attribute [local go_sem] Ext.cell Ext.frozen

theorem plain_ld {x : Ins} (h : ldB x = true) : plainB x = true := by
  rw [ld_is] at h
  unfold plainB nobB
  rcases h with h | h | h <;> rw [h] <;> rfl

set_option maxRecDepth 20000 in
set_option maxHeartbeats 8000000 in
theorem ValsMany_true (p pl : Option Addr) (c cl : Nat) (th : List Ins) (l : List Int) (n : Int) (w : World) (T : FEnv w) (ht : Sl InsE w (.slice p th.length c) th) (hl : Sl IntE w (.slice pl l.length cl) l) :
    Calls Tryd.prog 3 #[.slice p th.length c, .slice pl l.length cl, .int .i64 n] w fun e w' => e = .returned (.bool true) ∧ Below w.heap.size w w' := by
  by_cases h1 : th.length ≤ 8
  · have h1' : ¬ (8 : Int) < (th.length : Int) := by omega
    by_cases h2 : l.length ≤ 6
    · have h2' : ¬ (6 : Int) < (l.length : Int) := by omega
      have hA := fun W (hB : Below w.heap.size w W) => Traces_any p pl c cl th 2 l W (T.below hB) (by omega) (by omega) (ht.keep hB) (hl.keep hB)
      have hC := fun (q : Option Addr) (d : Nat) W (hB : Below w.heap.size w W) (hs : Sl IntE W (.slice q (l.length + 1) d) (l ++ [n])) => Traces_any p q c d th 2 (l ++ [n]) W (T.below hB) (by rw [List.length_append, List.length_singleton]; omega) (by omega) (ht.keep hB) (by rw [List.length_append, List.length_singleton]; exact hs)
      simp only [List.length_append, List.length_singleton] at hC
      have hM := fun W (hB : Below w.heap.size w W) => refMayT_any p c th 2 W (ht.keep hB)
      have hmore : (tracesT th 2 l).length ≤ (tracesT th 2 (l ++ [n])).length := tracesT_more
      have hlen1 : (tracesT th 2 l).length ≤ 65536 := tracesT_len4 (by omega)
      have hlen2 : (tracesT th 2 (l ++ [n])).length ≤ 65536 := tracesT_len4 (by rw [List.length_append, List.length_singleton]; omega)
      have hbig : ¬ loadsN th ≤ 4 → tracesT th 2 l = [] ∧ tracesT th 2 (l ++ [n]) = [] := fun h => ⟨if_neg h, if_neg h⟩
      have hpl : loadsN th ≤ 4 → (mayT th 2 && th.all plainB) = true → (tracesT th 2 l).length = l.length ^ loadsN th := fun h4 h => by
        simp only [Bool.and_eq_true] at h
        exact tracesT_plain h4 h.2 h.1
      have hld : loadsN th ≤ 8 := Nat.le_trans (loadsN_le th) h1
      generalize tracesT th 2 l = L at *
      generalize tracesT th 2 (l ++ [n]) = M at *
      have HA : Hid _ := hA
      have HC : Hid _ := hC
      have HM0 : Hid _ := hM
      have HB : Hid _ := hbig
      have HPL : Hid _ := hpl
      clear hA hC hM hbig hpl
      obtain ⟨ii, j1, j2, j3, j4⟩ := info_i64z
      have J1 : Hid _ := j1
      have J2 : Hid _ := j2
      have J3 : Hid _ := j3
      have J4 : Hid _ := j4
      clear j1 j2 j3 j4
      have F1 := trivial
      go_enter Tryd.func3, Tryd.ntmps3
      go_wp2_with (first
        | (go_at_call 7; clear F1; refine (shown9_any _ T).mono ?_; rintro e w1 ⟨rfl, hb1⟩; have F2 := trivial)
        | (go_at_call 8; clear F2; refine (HA.out _ hb1).mono ?_; rintro e w2 ⟨u2, rfl, hU2, hb2⟩; obtain ⟨p2, c2, rfl⟩ := hU2.len; have B2 := Below.thru hb1 hb2 (Nat.le_refl _); clear hU2; have F3 := trivial)
        | (at_builtin; clear F3; have kE : Blk (w2.alloc (.cells #[] 2)) w2.heap.size #[] 2 := Blk.new; refine wpList_app (R := IntE) (A := F0) (B := fun _ => True) (xs := []) (ys := l) (by rfl) (.tmp 29) (.tmp 30) 23 2 ii (.int .i64 0) 8 (by rfl) Tryd.underlying23 J1.out J2.out J3.out J4.out (by rfl) w2.heap.size (.slice (some ⟨w2.heap.size, 0, none⟩) 0 0) (.slice pl l.length cl) (by rfl) (by rfl) (own_none (Nat.le_refl _) kE) (hl.keep (B2.alloc B2.size _)) (fun _ _ _ h => h) (by simp only [List.length_nil]; omega) (by decide) (by simp) ?_; intro pa ca wa hOa hga _; simp only [List.nil_append] at hOa ⊢; have ba : Below w2.heap.size w2 wa := (below_new _ _).grown hga (by simp) (fun k hk => by simp [Value.ownBlock] at hk; omega); have F4 := trivial)
        | (at_builtin; clear F4; refine wpList_push (R := IntE) (xs := l) (x := n) (by rfl) (.tmp 31) (.tmp 33) 23 2 ii (.int .i64 0) 8 (by rfl) Tryd.underlying23 J1.out J2.out J3.out J4.out (by rfl) w2.heap.size (.slice pa l.length ca) wa.heap.size (by rfl) (by rfl) (hOa.keep (below_new _ _)) [.int .i64 n] (fun _ _ => rfl) (fun _ _ _ _ _ h => h) (fun j u hu => by rw [Blk.cell Blk.new]; simpa using hu) (by omega) (by decide) (by have := ba.size; simp; omega) ?_; intro pb cb wb hOb hgb _; have bb : Below w2.heap.size w2 wb := (ba.alloc ba.size _).grown hgb (by have := ba.size; simp; omega) (fun k hk => (hOa.lt k hk).1); have Bb := Below.thru B2 bb (Nat.le_refl _); have hS := hOb.sl.any; clear hOa hOb hga hgb ba kE; have F5 := trivial)
        | (go_at_call 8; clear F5; refine (HC.out _ _ _ Bb hS).mono ?_; rintro e w5 ⟨u5, rfl, hU5, hb5⟩; obtain ⟨p5, c5, rfl⟩ := hU5.len; have B5 := Below.thru Bb hb5 (Nat.le_refl _); clear hU5 hS; have F6 := trivial)
        | (go_at_call 9; clear F6; refine (HM0.out _ B5).mono ?_; rintro e w6 ⟨rfl, hb6⟩; have B6 := Below.thru B5 hb6 (Nat.le_refl _)))
      go_loopw [10, 11, 12, 13] (fun ways lds pln i wr => ∃ (k W : Nat) (b : Bool), k ≤ th.length ∧ i = .int .i64 k ∧ lds = .int .i64 (loadsN (th.take k) : Nat) ∧ ways = .int .i64 (W : Nat) ∧ pln = .bool b ∧ W = l.length ^ loadsN (th.take k) ∧ b = (mayT th 2 && (th.take k).all plainB) ∧ wr = w6) (fun _ _ _ i _ => th.length - (intOf i).toNat)
      case atStart => exact ⟨0, 1, _, Nat.zero_le _, rfl, rfl, rfl, rfl, rfl, by simp, rfl⟩
      case round =>
        obtain ⟨k, W, b, hk, rfl, rfl, rfl, rfl, hW, hP, rfl⟩ := hrel
        have hlk : loadsN (th.take k) ≤ loadsN th := loads_all
        by_cases hlt : k < th.length
        · obtain ⟨tb, to, rfl, e0, -, -, -, -, -⟩ := (ins_at (ht.keep B6)).2 k hlt
          have hn := loads_take (List.getElem?_eq_getElem hlt)
          have hp := all_next (List.getElem?_eq_getElem hlt) plainB
          have hlk1 : loadsN (th.take (k + 1)) ≤ loadsN th := loads_all
          generalize th[k] = x at e0 hn hp
          have lg := cell_lt e0
          have hlt' : (k : Int) < (th.length : Int) := by omega
          by_cases hx : ldB x = true
          · rw [if_pos hx] at hn
            obtain ⟨m, hm0⟩ : ∃ m, W * l.length = m := ⟨_, rfl⟩
            have hm : (W : Int) * (l.length : Int) = (m : Int) := by rw [← hm0]; simp
            have hPm : m = l.length ^ loadsN (th.take (k + 1)) := by rw [← hm0, hW, hn, Nat.pow_succ]
            have hmle : m ≤ 1679616 := by
              rw [hPm]
              exact Nat.le_trans (Nat.pow_le_pow_left h2 _) (Nat.le_trans (Nat.pow_le_pow_right (by decide) (Nat.le_trans hlk1 hld)) (by decide))
            rw [plain_ld hx, Bool.and_true] at hp
            have HP1 : Hid (b = (mayT th 2 && (th.take (k + 1)).all plainB)) := by unfold Hid; rw [hp]; exact hP
            have HM : Hid _ := hPm
            have HN : Hid _ := hn
            have ho := ld_is.1 hx
            clear hPm hn hp hP hW hm0 hx
            rcases ho with ho | ho | ho
            all_goals
              rw [ho] at e0
              clear ho
              cases b
            all_goals
              go_wp2
              go_roundw
              case rel => exact ⟨k + 1, m, _, by omega, by go_num, by rw [HN.out]; go_num, by first | rfl | go_num, rfl, HM.out, HP1.out, trivial⟩
              case measure => simp [intOf]; omega
          · rw [if_neg hx, Nat.add_zero] at hn
            have ho : ¬ (x.op = 5 ∨ x.op = 7 ∨ x.op = 9) := fun h => hx (ld_is.2 h)
            have o5 : (x.op == 5) = false := by rw [beq_eq_false_iff_ne]; omega
            have o7 : (x.op == 7) = false := by rw [beq_eq_false_iff_ne]; omega
            have o9 : (x.op == 9) = false := by rw [beq_eq_false_iff_ne]; omega
            have HN : Hid _ := hn
            have hW' : W = l.length ^ loadsN (th.take (k + 1)) := by rw [hn]; exact hW
            have HWW : Hid _ := hW'
            clear hn hW hW' hx ho
            by_cases hq : plainB x = true
            · have q := hq
              unfold plainB nobB at q
              simp only [Bool.and_eq_true, Bool.not_eq_true'] at q
              have q10 : (x.op != 10) = true := by rw [bne, q.1]; rfl
              have q13 : (x.op != 13) = true := by rw [bne, q.2.1]; rfl
              have q14 : (x.op != 14) = true := by rw [bne, q.2.2]; rfl
              rw [hq, Bool.and_true] at hp
              have HP1 : Hid (b = (mayT th 2 && (th.take (k + 1)).all plainB)) := by unfold Hid; rw [hp]; exact hP
              clear hp hP hq q
              cases b
              all_goals
                go_wp2
                go_roundw
                case rel => exact ⟨k + 1, W, _, by omega, by go_num, by rw [HN.out]; rfl, rfl, rfl, HWW.out, HP1.out, trivial⟩
                case measure => simp [intOf]; omega
            · have hq0 : plainB x = false := by simpa using hq
              rw [hq0, Bool.and_false] at hp
              have HP1 : Hid (false = (mayT th 2 && (th.take (k + 1)).all plainB)) := by unfold Hid; rw [hp, Bool.and_false]
              have q : x.op = 10 ∨ x.op = 13 ∨ x.op = 14 := by
                have q := hq0
                unfold plainB nobB at q
                simp at q
                omega
              clear hp hP hq hq0 o5 o7 o9
              rcases q with q | q | q
              all_goals
                rw [q] at e0
                clear q
                cases b
              all_goals
                go_wp2
                go_roundw
                case rel => exact ⟨k + 1, W, _, by omega, by go_num, by rw [HN.out]; rfl, rfl, rfl, HWW.out, HP1.out, trivial⟩
                case measure => simp [intOf]; omega
        · have e : th.take k = th := List.take_of_length_le (by omega)
          rw [e] at hW hP hlk
          by_cases h4 : loadsN th ≤ 4
          · have h4' : ¬ (4 : Int) < ((loadsN (th.take k) : Nat) : Int) := by rw [e]; omega
            cases b
            · have HX : Hid True := trivial
              clear hW hP
              go_wp2
              go_ret
              exact ⟨rfl, B6⟩
            · have hw : L.length = W := by rw [hW]; exact HPL.out h4 hP.symm
              clear hW hP
              subst hw
              go_wp2
              go_ret
              exact ⟨rfl, B6⟩
          · have h4' : (4 : Int) < ((loadsN (th.take k) : Nat) : Int) := by rw [e]; omega
            obtain ⟨rfl, rfl⟩ := HB.out h4
            clear hW hP
            go_wp2
            go_ret
            exact ⟨rfl, B6⟩
    · have h2' : (6 : Int) < (l.length : Int) := by omega
      have F1 := trivial
      go_enter Tryd.func3, Tryd.ntmps3
      go_wp2_with (go_at_call 7; clear F1; refine (shown9_any _ T).mono ?_; rintro e w1 ⟨rfl, hb1⟩)
      go_ret
      exact ⟨rfl, hb1⟩
  · have h1' : (8 : Int) < (th.length : Int) := by omega
    have F1 := trivial
    go_enter Tryd.func3, Tryd.ntmps3
    go_wp2_with (go_at_call 7; clear F1; refine (shown9_any _ T).mono ?_; rintro e w1 ⟨rfl, hb1⟩)
    go_ret
    exact ⟨rfl, hb1⟩
end Go.Proofs.YtgaannoghefbbaaDoor
