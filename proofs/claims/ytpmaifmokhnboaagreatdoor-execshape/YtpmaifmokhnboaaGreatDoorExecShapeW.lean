/- ExecShape, walked: it answers true. -/
import Derived.Test.YtpmaifmokhnboaaGreatDoorExecE
import Derived.Test.YtpmaifmokhnboaaGreatDoorValsFacts
import Derived.Test.YtpmaifmokhnboaaGreatDoorTestP
import Derived.Test.YtpmaifmokhnboaaGreatDoorExecF
import Derived.Test.YtpmaifmokhnboaaGreatDoorRelR
namespace Go.Proofs.YtpmaifmokhnboaaGreatDoor
open Go.RowKit
attribute [local go_sem] Ext.cell Ext.frozen

theorem way_shape {xs : List Int} {ts : List (List Ins)} {x : Ex} (h : x ∈ (allZ xs ts).1) : x.regs.length = ts.length ∧ x.evs.length ≤ 24 ∧ ∀ (i : Nat) (hi : i + 1 < x.evs.length), x.evs[i].th ≤ x.evs[i + 1].th := by
  obtain ⟨h3, q, hway, hxe⟩ := allZ_mem h
  have hruns := way_runs hway
  subst hxe
  refine ⟨?_, ?_, fun i hi => ?_⟩
  · show (regsJ _).length = _; rw [regsJ_len, List.length_map, hway.len]
  · show (evsJ _ _).length ≤ _; rw [evsJ_len]; exact way_tot hway h3
  · exact evs_order (l := q.map St.tr) (Nat.le_succ i) (List.getElem?_eq_getElem _) (List.getElem?_eq_getElem hi)
theorem alike_inv (l : List Ev) (hl : l.length ≤ 32) : cleanR (invL (mkR l.length (alikeF l))) = cleanR (mkR l.length (alikeF l)) := by
  refine same_of (by rw [inv_sz]) ?_
  rw [inv_has]
  funext i k
  unfold invF
  rw [mkR_has _ hl, mkR_has _ hl, alike_sym, Bool.and_comm (decide (k < l.length))]

set_option maxRecDepth 20000 in
set_option maxHeartbeats 16000000 in
theorem ExecShape_true (pi pt : Option Addr) (ci ct : Nat) (xs : List Int) (ts : List (List Ins)) (w : World) (T : FEnv w) (hi : Sl IntE w (.slice pi xs.length ci) xs) (ht : Sl ThrE w (.slice pt ts.length ct) ts) (hz : ∀ x ∈ xs, InZ x) :
    Calls Tryz.prog 6 #[.agg #[.slice pi xs.length ci, .slice pt ts.length ct]] w fun e w' => e = .returned (.bool true) ∧ Below w.heap.size w w' := by
  have hb1 := below_new w (.cells #[.slice pi xs.length ci, .slice pt ts.length ct] 63)
  have k1 : Blk (w.alloc (.cells #[.slice pi xs.length ci, .slice pt ts.length ct] 63)) w.heap.size #[.slice pi xs.length ci, .slice pt ts.length ct] 63 := Blk.new
  have hF := fun W (hB : Below w.heap.size w W) => Few_any pi pt ci ct xs ts W (ht.keep hB)
  have HF : Hid _ := hF
  clear hF
  have hne : ∀ w, Nonempty (Ext w) := ext_some
  have F1 := trivial
  cases hfew : fewB xs ts
  · have HW : Hid _ := hfew
    clear hfew
    go_enter Tryz.func6, Tryz.ntmps6
    go_wp2_with (first
      | (go_at_call 8; clear F1; refine (shown10_any _ (T.below hb1)).mono ?_; rintro e w1 ⟨rfl, hb2⟩; have B1 := Below.thru hb1 hb2 (Nat.le_refl _); have kk := k1.keep hb2; have x0 : w1.cell? ⟨w.heap.size, 0, none⟩ = some (.slice pi xs.length ci) := kk.cell 0; have x1 : w1.cell? ⟨w.heap.size, 1, none⟩ = some (.slice pt ts.length ct) := kk.cell 1; have lx := cell_lt x0; have F2 := trivial)
      | (go_at_call 20; clear F2; refine (HF.out _ B1).mono ?_; rintro e w2 ⟨rfl, hb3⟩; rw [HW.out]; have B2 := Below.thru B1 hb3 (Nat.le_refl _)))
    go_ret
    exact ⟨rfl, B2⟩
  · obtain ⟨hS, hfl, -, -⟩ := few_size hfew
    have HW : Hid _ := hfew
    clear hfew
    have hA := fun W (hB : Below w.heap.size w W) => All_any pi pt ci ct xs ts W (T.below hB) (hi.keep hB) (ht.keep hB) (by omega) hz
    by_cases h0 : (ofZ xs ts).2 = 0
    · have hmem := fun x (h : x ∈ (allZ xs ts).1) => way_shape h
      have hsome := (of_vals h0).2
      have hchk := check_facts (of_check h0).1
      rcases allZ_len h0 with ⟨hzm, hz2, hz1⟩ | ⟨-, hz0⟩
      · have hpos : 1 ≤ (allZ xs ts).1.length := by rw [hz1]; exact manyZ_pos hsome
        have hzl : (allZ xs ts).1.length ≤ 20000 := by rw [hz1]; exact hzm
        generalize allZ xs ts = z at *
        obtain ⟨zl, ze⟩ := z
        have hze : ze = 0 := hz2
        replace hpos : 1 ≤ zl.length := hpos
        replace hzl : zl.length ≤ 20000 := hzl
        clear hz1 hz2
        subst hze
        have HA : Hid _ := hA
        have HM : Hid (∀ x ∈ zl, x.regs.length = ts.length ∧ x.evs.length ≤ 24 ∧ ∀ (i : Nat) (hi : i + 1 < x.evs.length), x.evs[i].th ≤ x.evs[i + 1].th) := hmem
        clear hA hsome hmem hchk
        have hp1 : decide (1 ≤ (zl.length : Int)) = true := by simp; omega
        go_enter Tryz.func6, Tryz.ntmps6
        go_wp2_with (first
          | (go_at_call 8; clear F1; refine (shown10_any _ (T.below hb1)).mono ?_; rintro e w1 ⟨rfl, hb2⟩; have B1 := Below.thru hb1 hb2 (Nat.le_refl _); have kk := k1.keep hb2; have x0 : w1.cell? ⟨w.heap.size, 0, none⟩ = some (.slice pi xs.length ci) := kk.cell 0; have x1 : w1.cell? ⟨w.heap.size, 1, none⟩ = some (.slice pt ts.length ct) := kk.cell 1; have lx := cell_lt x0; have F2 := trivial)
          | (go_at_call 20; clear F2; refine (HF.out _ B1).mono ?_; rintro e w2 ⟨rfl, hb3⟩; rw [HW.out]; have B2 := Below.thru B1 hb3 (Nat.le_refl _); replace x0 := cell_keep x0 hb3; replace x1 := cell_keep x1 hb3; replace lx := cell_lt x0; have k2 := kk.keep hb3; have F3 := trivial)
          | (go_at_call 21; clear F3; refine (HA.out _ B2).mono ?_; rintro e w3 ⟨u3, rfl, hU3, hb4⟩; obtain ⟨p3, c3, rfl⟩ := hU3.len; have B3 := Below.thru B2 hb4 (Nat.le_refl _); replace x0 := cell_keep x0 hb4; replace x1 := cell_keep x1 hb4; replace lx := cell_lt x0; have k3 := k2.keep hb4; have F4 := trivial))
        clear x0 x1 lx
        go_loopw [6] (fun i wr => ∃ k : Nat, k ≤ zl.length ∧ k ≤ 50 ∧ i = .int .i64 k ∧ Below w3.heap.size w3 wr) (fun i _ => zl.length - (Go.RowKit.intOf i).toNat)
        case atStart => exact ⟨0, Nat.zero_le _, by omega, rfl, Below.refl _ _⟩
        case round =>
          obtain ⟨k, hk, hk50, rfl, hbr⟩ := hrel
          have Br := Below.thru B3 hbr (Nat.le_refl _)
          have x0 := (k3.keep hbr).cell 0
          have x1 := (k3.keep hbr).cell 1
          simp only [List.getElem?_toArray, List.getElem?_cons_zero, List.getElem?_cons_succ] at x0 x1
          have lx := cell_lt x0
          by_cases hlt : k < zl.length ∧ k < 50
          · obtain ⟨hlt, hl50⟩ := hlt
            have hlt' : (k : Int) < (zl.length : Int) := by omega
            have hl50' : (k : Int) < 50 := by omega
            obtain ⟨xb, xo, r, rfl, -, hX, hat⟩ := (ex_at (hU3.keep hbr)).2 k hlt
            obtain ⟨hrg, hev, hth⟩ := HM.out _ (List.getElem_mem hlt)
            generalize zl[k] = x at hX hrg hev hth
            have HTH : Hid _ := hth
            clear hth
            have q0 := hat.c0; have q1 := hat.c1; have q2 := hat.c2; have q3 := hat.c3; have q4 := hat.c4; have q5 := hat.c5; have q6 := hat.c6;
            have lq := cell_lt q0
            have F5 := trivial
            go_wp2_with (clear F5; refine wpList_storeB (by rfl) 42 (.tmp 7) (.tmp 40) (by rfl) wr.heap.size (exC r) _ 42 (by rfl) (by rfl) Blk.new (by kernel_rfl) (by rfl) hX.one ?_; intro w4 kx oL zL; simp only [Act.put]; have b4 : Below wr.heap.size wr w4 := (below_new _ _).trans (oL.below (by simp) (fun k hk => by omega)); have X4 := hX.keep b4; replace x0 := cell_keep x0 b4; replace x1 := cell_keep x1 b4; replace lx := cell_lt x0; have y0 : w4.cell? ⟨wr.heap.size, 0, none⟩ = some (r 0) := kx.cell 0; have y1 : w4.cell? ⟨wr.heap.size, 1, none⟩ = some (r 1) := kx.cell 1; have y2 : w4.cell? ⟨wr.heap.size, 2, none⟩ = some (r 2) := kx.cell 2; have y3 : w4.cell? ⟨wr.heap.size, 3, none⟩ = some (r 3) := kx.cell 3; have y4 : w4.cell? ⟨wr.heap.size, 4, none⟩ = some (r 4) := kx.cell 4; have y5 : w4.cell? ⟨wr.heap.size, 5, none⟩ = some (r 5) := kx.cell 5; have y6 : w4.cell? ⟨wr.heap.size, 6, none⟩ = some (r 6) := kx.cell 6; have ly := kx.lt; clear zL oL)
            have B4 := Below.thru Br b4 (Nat.le_refl _)
            obtain ⟨pe, ce, he⟩ := X4.e0.len
            obtain ⟨pr, cr, hre⟩ := X4.e6.len
            have hE := X4.e0
            rw [he] at hE
            have hAL := fun W (hB : Below w4.heap.size w4 W) => Alike_any r x W (X4.any.keep hB) (by omega)
            have hai := alike_inv x.evs (by omega)
            generalize mkR x.evs.length (alikeF x.evs) = RA at hAL hai
            have HAL : Hid _ := hAL
            have HAI : Hid _ := hai
            have hc1 : ((x.regs.length : Int) != (ts.length : Int)) = false := by rw [hrg]; simp
            have hc2 : decide ((24 : Int) < (x.evs.length : Int)) = false := by simp; omega
            unfold exC at HAL
            rw [he, hre] at HAL
            rw [he] at y0
            rw [hre] at y6
            clear hAL hai q0 q1 q2 q3 q4 q5 q6 lq hX hrg he hre X4
            go_wp2
            refine wp_region_mix [([0, 1, 2, 3, 4, 5, 6, 7, 8, 9, 10, 11, 12, 13, 14, 17], 15), ([], 16), ([], 18), ([], 19)] [20, 21] (by kernel_rfl) (by kernel_rfl) (fun _ _ d _ _ h => by cases d <;> exact h) ?_
            dsimp only [List.map, opAt]
            have C0 : Below w4.heap.size w4 w4.drew := Below.drew (Below.refl _ _)
            refine wpMix_stage ?_
            repeat (go_big_quiet_step (fail))
            refine wpQuiet_nil ?_
            go_wp2_with (go_at_call 16; refine (HAL.out _ C0).mono ?_; rintro e w5 ⟨v5, rfl, hV5, hb5⟩)
            obtain ⟨p5, c5, rfl⟩ := hV5.len
            have C5 := Below.thru C0 hb5 (Nat.le_refl _)
            refine ⟨C5, ?_⟩
            refine wpMix_stage ?_
            refine wpQuiet_nil ?_
            go_wp2_with (go_at_call 24; refine (Inv_l p5 c5 RA w5 hV5.any).mono ?_; rintro e w6 ⟨p6, c6, rfl, hV6, hb6⟩)
            have C6 := Below.thru C5 hb6 (Nat.le_refl _)
            refine ⟨C6, ?_⟩
            refine wpMix_stage ?_
            refine wpQuiet_nil ?_
            go_wp2_with (go_at_call 16; refine (HAL.out _ C6).mono ?_; rintro e w7 ⟨v7, rfl, hV7, hb7⟩)
            obtain ⟨p7, c7, rfl⟩ := hV7.len
            have C7 := Below.thru C6 hb7 (Nat.le_refl _)
            refine ⟨C7, ?_⟩
            refine wpMix_stage ?_
            refine wpQuiet_nil ?_
            go_wp2_with (go_at_call 26; refine (Same_t p6 p7 c6 c7 _ _ w7 (hV6.keep hb7) hV7.any HAI.out).mono ?_; rintro e w8 ⟨rfl, hb8⟩)
            have C8 := Below.thru C7 hb8 (Nat.le_refl _)
            refine ⟨C8, ?_⟩
            refine wpMix_last ?_
            repeat (go_big_quiet_step (fail))
            refine wpQuiet_nil ?_
            have B8 := Below.thru B4 C8 (Nat.le_refl _)
            replace y0 := cell_keep y0 C8
            replace ly := cell_lt y0
            clear y1 y2 y3 y4 y5 y6 hV5 hV6 hV7 hb5 hb6 hb7 hb8 C0 C5 C6 C7 hc1 hc2 x0 x1 lx
            have hE8 := hE.keep C8
            clear hE HAL HAI
            go_wp2
            go_loopw [8] (fun i wr => ∃ j : Nat, j ≤ x.evs.length ∧ i = .int .i64 j ∧ Below w8.heap.size w8 wr) (fun i _ => x.evs.length - (Go.RowKit.intOf i).toNat)
            case atStart => exact ⟨0, Nat.zero_le _, rfl, Below.refl _ _⟩
            case round =>
              obtain ⟨j, hj, rfl, hbj⟩ := hrel
              have y0' := cell_keep y0 hbj
              have ly' := cell_lt y0'
              by_cases hjl : j + 1 < x.evs.length
              · have hjl' : (j : Int) + 1 < (x.evs.length : Int) := by omega
                have hj24 : (j : Int) ≤ 100 := by omega
                obtain ⟨eb, eo, he0, g0, -, -, -, -, -, -⟩ := (ev_at (hE8.keep hbj)).2 j (by omega)
                obtain ⟨eb2, eo2, he2, f0, -, -, -, -, -, -⟩ := (ev_at (hE8.keep hbj)).2 (j + 1) hjl
                subst he0
                simp only [Option.some.injEq, Addr.mk.injEq, and_true] at he2
                obtain ⟨rfl, rfl⟩ := he2
                have hle := HTH.out j hjl
                generalize x.evs[j].th = a at *
                generalize x.evs[j + 1].th = b at *
                have hab : decide (b < a) = false := by simp; omega
                have lg := cell_lt g0
                go_wp2
                refine wp_region_ext (by kernel_rfl) (by kernel_rfl) ?_
                repeat (go_big_quiet_step (fail))
                refine wpQuiet_nil ?_
                rintro _ ⟨rr, rfl⟩
                have h9 := rr.ok
                generalize rr.wd = w9 at *
                go_wp2
                go_roundw
                case rel => exact ⟨j + 1, by omega, by go_num, Below.thru hbj h9 (Nat.le_refl _)⟩
                case measure => simp [Go.RowKit.intOf]; omega
              · have hjl' : ¬ (j : Int) + 1 < (x.evs.length : Int) := by omega
                have hj24 : (j : Int) ≤ 100 := by omega
                go_wp2
                go_roundw
                case rel => exact ⟨k + 1, by omega, by omega, by go_num, Below.thru (Below.thru (Below.thru hbr b4 (Nat.le_refl _)) C8 (Nat.le_refl _)) hbj (Nat.le_refl _)⟩
                case measure => simp [Go.RowKit.intOf]; omega
          · by_cases hlt2 : k < zl.length
            · have hlt' : (k : Int) < (zl.length : Int) := by omega
              have hl50' : ¬ (k : Int) < 50 := by omega
              go_wp2
              go_ret
              exact ⟨rfl, Br⟩
            · have hlt' : ¬ (k : Int) < (zl.length : Int) := by omega
              go_wp2
              go_ret
              exact ⟨rfl, Br⟩
      · rw [hz0] at hA
        have HA : Hid _ := hA
        clear hA hz0 h0
        go_enter Tryz.func6, Tryz.ntmps6
        go_wp2_with (first
          | (go_at_call 8; clear F1; refine (shown10_any _ (T.below hb1)).mono ?_; rintro e w1 ⟨rfl, hb2⟩; have B1 := Below.thru hb1 hb2 (Nat.le_refl _); have kk := k1.keep hb2; have x0 : w1.cell? ⟨w.heap.size, 0, none⟩ = some (.slice pi xs.length ci) := kk.cell 0; have x1 : w1.cell? ⟨w.heap.size, 1, none⟩ = some (.slice pt ts.length ct) := kk.cell 1; have lx := cell_lt x0; have F2 := trivial)
          | (go_at_call 20; clear F2; refine (HF.out _ B1).mono ?_; rintro e w2 ⟨rfl, hb3⟩; rw [HW.out]; have B2 := Below.thru B1 hb3 (Nat.le_refl _); replace x0 := cell_keep x0 hb3; replace x1 := cell_keep x1 hb3; replace lx := cell_lt x0; have k2 := kk.keep hb3; have F3 := trivial)
          | (go_at_call 21; clear F3; refine (HA.out _ B2).mono ?_; rintro e w3 ⟨u3, rfl, hU3, hb4⟩; obtain ⟨p3, c3, rfl⟩ := hU3.len; have B3 := Below.thru B2 hb4 (Nat.le_refl _); replace x0 := cell_keep x0 hb4; replace x1 := cell_keep x1 hb4; replace lx := cell_lt x0; have k3 := k2.keep hb4; have F4 := trivial))
        go_ret
        exact ⟨rfl, B3⟩
    · have hz0 := allZ_bad h0
      have hzb : ((ofZ xs ts).2 != 0) = true := by simp [h0]
      rw [hz0] at hA
      generalize ofZ xs ts = z at *
      have HA : Hid _ := hA
      clear hA hz0 h0
      go_enter Tryz.func6, Tryz.ntmps6
      go_wp2_with (first
        | (go_at_call 8; clear F1; refine (shown10_any _ (T.below hb1)).mono ?_; rintro e w1 ⟨rfl, hb2⟩; have B1 := Below.thru hb1 hb2 (Nat.le_refl _); have kk := k1.keep hb2; have x0 : w1.cell? ⟨w.heap.size, 0, none⟩ = some (.slice pi xs.length ci) := kk.cell 0; have x1 : w1.cell? ⟨w.heap.size, 1, none⟩ = some (.slice pt ts.length ct) := kk.cell 1; have lx := cell_lt x0; have F2 := trivial)
        | (go_at_call 20; clear F2; refine (HF.out _ B1).mono ?_; rintro e w2 ⟨rfl, hb3⟩; rw [HW.out]; have B2 := Below.thru B1 hb3 (Nat.le_refl _); replace x0 := cell_keep x0 hb3; replace x1 := cell_keep x1 hb3; replace lx := cell_lt x0; have k2 := kk.keep hb3; have F3 := trivial)
        | (go_at_call 21; clear F3; refine (HA.out _ B2).mono ?_; rintro e w3 ⟨u3, rfl, hU3, hb4⟩; obtain ⟨p3, c3, rfl⟩ := hU3.len; have B3 := Below.thru B2 hb4 (Nat.le_refl _); replace x0 := cell_keep x0 hb4; replace x1 := cell_keep x1 hb4; replace lx := cell_lt x0; have k3 := k2.keep hb4; have F4 := trivial))
      go_ret
      exact ⟨rfl, B3⟩
end Go.Proofs.YtpmaifmokhnboaaGreatDoor
