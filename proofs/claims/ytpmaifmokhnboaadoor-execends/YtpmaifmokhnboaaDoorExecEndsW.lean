/- ExecEnds, walked: it answers true. -/
import Derived.Test.YtpmaifmokhnboaaDoorExecE
import Derived.Test.YtpmaifmokhnboaaDoorValsFacts
import Derived.Test.YtpmaifmokhnboaaDoorTestP
namespace Go.Proofs.YtpmaifmokhnboaaDoor
open Go.RowKit
attribute [local go_sem] Ext.cell Ext.frozen

set_option maxRecDepth 20000 in
set_option maxHeartbeats 16000000 in
theorem ExecEnds_true (pi pt : Option Addr) (ci ct : Nat) (xs : List Int) (ts : List (List Ins)) (n1 : Nat) (w : World) (T : FEnv w) (hi : Sl IntE w (.slice pi xs.length ci) xs) (ht : Sl ThrE w (.slice pt ts.length ct) ts) (hz : ∀ x ∈ xs, InZ x) (hn1 : n1 < 65536) :
    Calls Tryd.prog 3 #[.agg #[.slice pi xs.length ci, .slice pt ts.length ct], .int .u16 (n1 : Int)] w fun e w' => e = .returned (.bool true) ∧ Below w.heap.size w w' := by
  have hb1 := below_new w (.cells #[.slice pi xs.length ci, .slice pt ts.length ct] 25)
  have k1 : Blk (w.alloc (.cells #[.slice pi xs.length ci, .slice pt ts.length ct] 25)) w.heap.size #[.slice pi xs.length ci, .slice pt ts.length ct] 25 := Blk.new
  have hF := fun W (hB : Below w.heap.size w W) => Few_any pi pt ci ct xs ts W (ht.keep hB)
  have HF : Hid _ := hF
  clear hF
  have hne : ∀ w, Nonempty (Ext w) := ext_some
  have F1 := trivial
  cases hfew : fewB xs ts
  · have HW : Hid _ := hfew
    clear hfew
    go_enter Tryd.func3, Tryd.ntmps3
    go_wp2_with (first
      | (go_at_call 5; clear F1; refine (shown10_any _ (T.below hb1)).mono ?_; rintro e w1 ⟨rfl, hb2⟩; have B1 := Below.thru hb1 hb2 (Nat.le_refl _); have kk := k1.keep hb2; have x0 : w1.cell? ⟨w.heap.size, 0, none⟩ = some (.slice pi xs.length ci) := kk.cell 0; have x1 : w1.cell? ⟨w.heap.size, 1, none⟩ = some (.slice pt ts.length ct) := kk.cell 1; have lx := cell_lt x0; have F2 := trivial)
      | (go_at_call 6; clear F2; refine (HF.out _ B1).mono ?_; rintro e w2 ⟨rfl, hb3⟩; rw [HW.out]; have B2 := Below.thru B1 hb3 (Nat.le_refl _)))
    go_ret
    exact ⟨rfl, B2⟩
  · obtain ⟨hS, hfl, -, -⟩ := few_size hfew
    have HW : Hid _ := hfew
    clear hfew
    have hA := fun W (hB : Below w.heap.size w W) => All_any pi pt ci ct xs ts W (T.below hB) (hi.keep hB) (ht.keep hB) (by omega) hz
    by_cases h0 : (ofZ xs ts).2 = 0
    · have hmem := fun x (h : x ∈ (allZ xs ts).1) => allZ_mem h
      have hchk := check_facts (of_check h0).1
      have hsome := (of_vals h0).2
      rcases allZ_len h0 with ⟨-, hz2, hz1⟩ | ⟨-, hz0⟩
      · have hpos : 1 ≤ (allZ xs ts).1.length := by rw [hz1]; exact manyZ_pos hsome
        generalize allZ xs ts = z at *
        obtain ⟨zl, ze⟩ := z
        have hze : ze = 0 := hz2
        replace hpos : 1 ≤ zl.length := hpos
        clear hz1 hz2
        subst hze
        have HA : Hid _ := hA
        clear hA hsome
        have hk0 : n1 % zl.length < zl.length := Nat.mod_lt _ (by omega)
        have hmod : (n1 : Int) % (zl.length : Int) = ((n1 % zl.length : Nat) : Int) := by omega
        obtain ⟨k, hk⟩ : ∃ k, n1 % zl.length = k := ⟨_, rfl⟩
        rw [hk] at hk0 hmod
        have hzl0 : ((zl.length : Int) == 0) = false := by rw [beq_eq_false_iff_ne]; omega
        have hxz := List.getElem_mem hk0
        obtain ⟨h3, q, hway, hxe⟩ := hmem _ hxz
        have hruns := way_runs hway
        have hends : ∀ e ∈ zl[k].evs, EndE xs.length e ∧ 0 ≤ e.th ∧ e.th < (ts.length : Int) := fun e he => by
          rw [hxe] at he
          have h := way_ends hruns he
          rw [List.length_map, hway.len] at h
          exact h
        have hregs : zl[k].regs.length = ts.length := by rw [hxe]; show (regsJ _).length = _; rw [regsJ_len, List.length_map, hway.len]
        have hevl : zl[k].evs.length ≤ 24 := by rw [hxe]; show (evsJ _ _).length ≤ _; rw [evsJ_len]; exact way_tot hway h3
        clear hxe hway hruns
        have HENDS : Hid _ := hends
        have HREGS : Hid _ := hregs
        clear hends hregs
        have HMOD : Hid _ := hmod
        clear hmem hxz hk
        go_enter Tryd.func3, Tryd.ntmps3
        go_wp2_with (first
          | (go_at_call 5; clear F1; refine (shown10_any _ (T.below hb1)).mono ?_; rintro e w1 ⟨rfl, hb2⟩; have B1 := Below.thru hb1 hb2 (Nat.le_refl _); have kk := k1.keep hb2; have x0 : w1.cell? ⟨w.heap.size, 0, none⟩ = some (.slice pi xs.length ci) := kk.cell 0; have x1 : w1.cell? ⟨w.heap.size, 1, none⟩ = some (.slice pt ts.length ct) := kk.cell 1; have lx := cell_lt x0; have F2 := trivial)
          | (go_at_call 6; clear F2; refine (HF.out _ B1).mono ?_; rintro e w2 ⟨rfl, hb3⟩; rw [HW.out]; have B2 := Below.thru B1 hb3 (Nat.le_refl _); replace x0 := cell_keep x0 hb3; replace x1 := cell_keep x1 hb3; replace lx := cell_lt x0; have k2 := kk.keep hb3; have F3 := trivial)
          | (go_at_call 7; clear F3; refine (HA.out _ B2).mono ?_; rintro e w3 ⟨u3, rfl, hU3, hb4⟩; obtain ⟨p3, c3, rfl⟩ := hU3.len; have B3 := Below.thru B2 hb4 (Nat.le_refl _); replace x0 := cell_keep x0 hb4; replace x1 := cell_keep x1 hb4; replace lx := cell_lt x0; have k3 := k2.keep hb4; obtain ⟨xb, xo, r, rfl, -, hX, hat⟩ := (ex_at hU3).2 k hk0; have q0 := hat.c0; have q1 := hat.c1; have q2 := hat.c2; have q3 := hat.c3; have q4 := hat.c4; have q5 := hat.c5; have q6 := hat.c6; have lq := cell_lt q0; have F4 := trivial)
          | (clear F4; refine wpList_storeB (by rfl) 38 (.tmp 8) (.tmp 42) (by rfl) w3.heap.size (exC r) _ 38 (by rfl) (by rfl) Blk.new (by kernel_rfl) (by rfl) hX.one ?_; intro w4 kx oL zL; simp only [Act.put]; have b4 : Below w3.heap.size w3 w4 := (below_new _ _).trans (oL.below (by simp) (fun k hk => by omega)); have B4 := Below.thru B3 b4 (Nat.le_refl _); have k4 := k3.keep b4; have X4 := hX.keep b4; replace x0 := cell_keep x0 b4; replace x1 := cell_keep x1 b4; replace lx := cell_lt x0; have y0 : w4.cell? ⟨w3.heap.size, 0, none⟩ = some (r 0) := kx.cell 0; have y1 : w4.cell? ⟨w3.heap.size, 1, none⟩ = some (r 1) := kx.cell 1; have y2 : w4.cell? ⟨w3.heap.size, 2, none⟩ = some (r 2) := kx.cell 2; have y3 : w4.cell? ⟨w3.heap.size, 3, none⟩ = some (r 3) := kx.cell 3; have y4 : w4.cell? ⟨w3.heap.size, 4, none⟩ = some (r 4) := kx.cell 4; have y5 : w4.cell? ⟨w3.heap.size, 5, none⟩ = some (r 5) := kx.cell 5; have y6 : w4.cell? ⟨w3.heap.size, 6, none⟩ = some (r 6) := kx.cell 6; have ly := kx.lt; clear zL oL; have F5 := trivial))
        obtain ⟨pe, ce, he⟩ := X4.e0.len
        obtain ⟨pr, cr, hre⟩ := X4.e6.len
        have hE := X4.e0
        rw [he] at hE y0
        rw [hre, HREGS.out] at y6
        clear x0 x1 lx q0 q1 q2 q3 q4 q5 q6 lq he hre hX X4 kx
        go_loopw [9] (fun i wr => ∃ j : Nat, j ≤ zl[k].evs.length ∧ i = .int .i64 j ∧ Below w4.heap.size w4 wr) (fun i _ => zl[k].evs.length - (Go.RowKit.intOf i).toNat)
        case atStart => exact ⟨0, Nat.zero_le _, rfl, Below.refl _ _⟩
        case round =>
          obtain ⟨j, hj, rfl, hbr⟩ := hrel
          have Br := Below.thru B4 hbr (Nat.le_refl _)
          have x0 := (k4.keep hbr).cell 0
          have x1 := (k4.keep hbr).cell 1
          simp only [List.getElem?_toArray, List.getElem?_cons_zero, List.getElem?_cons_succ] at x0 x1
          have lx := cell_lt x0
          replace y0 := cell_keep y0 hbr
          replace y6 := cell_keep y6 hbr
          replace ly := cell_lt y0
          by_cases hjl : j < zl[k].evs.length
          · have hjl' : (j : Int) < (zl[k].evs.length : Int) := by omega
            obtain ⟨eb, eo, he0, g0, g1, g2, g3, g4, g5, g6⟩ := (ev_at (hE.keep hbr)).2 j hjl
            subst he0
            obtain ⟨⟨hlc, hbar, haq, hrl⟩, hth0, hth1⟩ := HENDS.out _ (List.getElem_mem hjl)
            generalize zl[k].evs[j] = e at g0 g1 g2 g3 g4 g5 g6 hlc hbar haq hrl hth0 hth1
            obtain ⟨th, kd, lc, vl, aq, rl, ex⟩ := e
            simp only at g0 g1 g2 g3 g4 g5 g6 hlc hbar haq hrl hth0 hth1
            have lg := cell_lt g0
            have hl1 : decide (lc < 0) = false := by simp; omega
            have hl2 : decide ((xs.length : Int) ≤ lc) = false := by simp; omega
            have ht1 : decide (th < 0) = false := by simp; omega
            have ht2 : decide ((ts.length : Int) ≤ th) = false := by simp; omega
            have HB : Hid _ := hbar
            have HQ : Hid _ := haq
            have HR : Hid _ := hrl
            clear hbar haq hrl
            have F6 := trivial
            by_cases h1 : kd = 1
            · subst h1
              have e1 : rl = false := HR.out (by decide)
              subst e1
              go_wp2_with (clear F6; refine wpList_toldE (w := wr) (by rfl) (.tmp 10) (.tmp 54) (by rfl) ⟨th, 1, lc, vl, aq, false, ex⟩ (by rfl) (by rfl) ?_; intro w5 kE b5; simp only [Act.put]; obtain ⟨s0, s1, s2, s3, s4, s5, s6⟩ : w5.cell? ⟨wr.heap.size, 0, none⟩ = some (.int .i64 th) ∧ w5.cell? ⟨wr.heap.size, 1, none⟩ = some (.int .i64 1) ∧ w5.cell? ⟨wr.heap.size, 2, none⟩ = some (.int .i64 lc) ∧ w5.cell? ⟨wr.heap.size, 3, none⟩ = some (.int .i64 vl) ∧ w5.cell? ⟨wr.heap.size, 4, none⟩ = some (.bool aq) ∧ w5.cell? ⟨wr.heap.size, 5, none⟩ = some (.bool false) ∧ w5.cell? ⟨wr.heap.size, 6, none⟩ = some (.bool ex) := ⟨kE.cell 0, kE.cell 1, kE.cell 2, kE.cell 3, kE.cell 4, kE.cell 5, kE.cell 6⟩; have lE := kE.lt; replace x0 := cell_keep x0 b5; replace x1 := cell_keep x1 b5; replace lx := cell_lt x0)
              go_roundw
              case rel => exact ⟨j + 1, by omega, by go_num, Below.thru hbr b5 (Nat.le_refl _)⟩
              case measure => simp [Go.RowKit.intOf]; omega
            · by_cases h2 : kd = 2
              · subst h2
                have e1 : aq = false := HQ.out (by decide)
                subst e1
                go_wp2_with (clear F6; refine wpList_toldE (w := wr) (by rfl) (.tmp 10) (.tmp 54) (by rfl) ⟨th, 2, lc, vl, false, rl, ex⟩ (by rfl) (by rfl) ?_; intro w5 kE b5; simp only [Act.put]; obtain ⟨s0, s1, s2, s3, s4, s5, s6⟩ : w5.cell? ⟨wr.heap.size, 0, none⟩ = some (.int .i64 th) ∧ w5.cell? ⟨wr.heap.size, 1, none⟩ = some (.int .i64 2) ∧ w5.cell? ⟨wr.heap.size, 2, none⟩ = some (.int .i64 lc) ∧ w5.cell? ⟨wr.heap.size, 3, none⟩ = some (.int .i64 vl) ∧ w5.cell? ⟨wr.heap.size, 4, none⟩ = some (.bool false) ∧ w5.cell? ⟨wr.heap.size, 5, none⟩ = some (.bool rl) ∧ w5.cell? ⟨wr.heap.size, 6, none⟩ = some (.bool ex) := ⟨kE.cell 0, kE.cell 1, kE.cell 2, kE.cell 3, kE.cell 4, kE.cell 5, kE.cell 6⟩; have lE := kE.lt; replace x0 := cell_keep x0 b5; replace x1 := cell_keep x1 b5; replace lx := cell_lt x0)
                go_roundw
                case rel => exact ⟨j + 1, by omega, by go_num, Below.thru hbr b5 (Nat.le_refl _)⟩
                case measure => simp [Go.RowKit.intOf]; omega
              · skip
                have hxs : ¬ xs = [] := fun e => by have h := hchk.1; rw [e] at h; simp at h
                have e1 : aq = false := HQ.out h1
                have e2 : rl = false := HR.out h2
                obtain ⟨e3, e4⟩ := HB.out h1 h2
                subst e1 e2 e3 e4
                have m1 : (kd == 1) = false := by rw [beq_eq_false_iff_ne]; exact h1
                have m2 : (kd == 2) = false := by rw [beq_eq_false_iff_ne]; exact h2
                have m3 : (kd != 1) = true := by rw [bne, m1]; rfl
                have m4 : (kd != 2) = true := by rw [bne, m2]; rfl
                go_wp2_with (clear F6; refine wpList_toldE (w := wr) (by rfl) (.tmp 10) (.tmp 54) (by rfl) ⟨th, kd, 0, 0, false, false, ex⟩ (by rfl) (by rfl) ?_; intro w5 kE b5; simp only [Act.put]; obtain ⟨s0, s1, s2, s3, s4, s5, s6⟩ : w5.cell? ⟨wr.heap.size, 0, none⟩ = some (.int .i64 th) ∧ w5.cell? ⟨wr.heap.size, 1, none⟩ = some (.int .i64 kd) ∧ w5.cell? ⟨wr.heap.size, 2, none⟩ = some (.int .i64 0) ∧ w5.cell? ⟨wr.heap.size, 3, none⟩ = some (.int .i64 0) ∧ w5.cell? ⟨wr.heap.size, 4, none⟩ = some (.bool false) ∧ w5.cell? ⟨wr.heap.size, 5, none⟩ = some (.bool false) ∧ w5.cell? ⟨wr.heap.size, 6, none⟩ = some (.bool ex) := ⟨kE.cell 0, kE.cell 1, kE.cell 2, kE.cell 3, kE.cell 4, kE.cell 5, kE.cell 6⟩; have lE := kE.lt; replace x0 := cell_keep x0 b5; replace x1 := cell_keep x1 b5; replace lx := cell_lt x0)
                go_roundw
                case rel => exact ⟨j + 1, by omega, by go_num, Below.thru hbr b5 (Nat.le_refl _)⟩
                case measure => simp [Go.RowKit.intOf]; omega
          · have hjl' : ¬ (j : Int) < (zl[k].evs.length : Int) := by omega
            go_wp2
            go_ret
            exact ⟨rfl, Br⟩
      · rw [hz0] at hA
        have HA : Hid _ := hA
        clear hA hz0 h0
        go_enter Tryd.func3, Tryd.ntmps3
        go_wp2_with (first
          | (go_at_call 5; clear F1; refine (shown10_any _ (T.below hb1)).mono ?_; rintro e w1 ⟨rfl, hb2⟩; have B1 := Below.thru hb1 hb2 (Nat.le_refl _); have kk := k1.keep hb2; have x0 : w1.cell? ⟨w.heap.size, 0, none⟩ = some (.slice pi xs.length ci) := kk.cell 0; have x1 : w1.cell? ⟨w.heap.size, 1, none⟩ = some (.slice pt ts.length ct) := kk.cell 1; have lx := cell_lt x0; have F2 := trivial)
          | (go_at_call 6; clear F2; refine (HF.out _ B1).mono ?_; rintro e w2 ⟨rfl, hb3⟩; rw [HW.out]; have B2 := Below.thru B1 hb3 (Nat.le_refl _); replace x0 := cell_keep x0 hb3; replace x1 := cell_keep x1 hb3; replace lx := cell_lt x0; have k2 := kk.keep hb3; have F3 := trivial)
          | (go_at_call 7; clear F3; refine (HA.out _ B2).mono ?_; rintro e w3 ⟨u3, rfl, hU3, hb4⟩; obtain ⟨p3, c3, rfl⟩ := hU3.len; have B3 := Below.thru B2 hb4 (Nat.le_refl _); replace x0 := cell_keep x0 hb4; replace x1 := cell_keep x1 hb4; replace lx := cell_lt x0; have k3 := k2.keep hb4; have F4 := trivial))
        go_ret
        exact ⟨rfl, B3⟩
    · have hz0 := allZ_bad h0
      have hzb : ((ofZ xs ts).2 != 0) = true := by simp [h0]
      rw [hz0] at hA
      generalize ofZ xs ts = z at *
      have HA : Hid _ := hA
      clear hA hz0 h0
      go_enter Tryd.func3, Tryd.ntmps3
      go_wp2_with (first
        | (go_at_call 5; clear F1; refine (shown10_any _ (T.below hb1)).mono ?_; rintro e w1 ⟨rfl, hb2⟩; have B1 := Below.thru hb1 hb2 (Nat.le_refl _); have kk := k1.keep hb2; have x0 : w1.cell? ⟨w.heap.size, 0, none⟩ = some (.slice pi xs.length ci) := kk.cell 0; have x1 : w1.cell? ⟨w.heap.size, 1, none⟩ = some (.slice pt ts.length ct) := kk.cell 1; have lx := cell_lt x0; have F2 := trivial)
        | (go_at_call 6; clear F2; refine (HF.out _ B1).mono ?_; rintro e w2 ⟨rfl, hb3⟩; rw [HW.out]; have B2 := Below.thru B1 hb3 (Nat.le_refl _); replace x0 := cell_keep x0 hb3; replace x1 := cell_keep x1 hb3; replace lx := cell_lt x0; have k2 := kk.keep hb3; have F3 := trivial)
        | (go_at_call 7; clear F3; refine (HA.out _ B2).mono ?_; rintro e w3 ⟨u3, rfl, hU3, hb4⟩; obtain ⟨p3, c3, rfl⟩ := hU3.len; have B3 := Below.thru B2 hb4 (Nat.le_refl _); replace x0 := cell_keep x0 hb4; replace x1 := cell_keep x1 hb4; replace lx := cell_lt x0; have k3 := k2.keep hb4; have F4 := trivial))
      go_ret
      exact ⟨rfl, B3⟩
end Go.Proofs.YtpmaifmokhnboaaDoor
