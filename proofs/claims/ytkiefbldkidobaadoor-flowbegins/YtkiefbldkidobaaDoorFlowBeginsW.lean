/- FlowBegins, walked: it answers true. -/
import Derived.Test.YtkiefbldkidobaaDoorFlowTold
namespace Go.Proofs.YtkiefbldkidobaaDoor
open Go.RowKit
attribute [local go_sem] Ext.cell Ext.frozen

theorem elemIns8 : Tryd.prog.elem 22 = 51 := by kernel_rfl
theorem elemEv8 : Tryd.prog.elem 27 = 47 := by kernel_rfl
theorem pre_take {α : Type} {l m : List α} (h : l <+: m) : m.take l.length = l := (List.prefix_iff_eq_take.1 h).symm

set_option maxRecDepth 20000 in
set_option maxHeartbeats 8000000 in
theorem FlowBegins_true (p pv pl : Option Addr) (c cv cl : Nat) (th : List Ins) (vals : List Int) (lucks : List Bool) (cut : Nat) (w : World) (T : FEnv w) (ht : Sl InsE w (.slice p th.length c) th) (hv : Sl IntE w (.slice pv vals.length cv) vals) (hl : Sl BoolE w (.slice pl lucks.length cl) lucks) (hcut : cut < 256) :
    Calls Tryd.prog 8 #[.slice p th.length c, .slice pv vals.length cv, .slice pl lucks.length cl, .int .u8 (cut : Int)] w fun e w' => e = .returned (.bool true) ∧ Below w.heap.size w w' := by
  have hne : ∀ w, Nonempty (Ext w) := ext_some
  by_cases hn : th.length ≤ 8 ∧ vals.length ≤ 40 ∧ lucks.length ≤ 40
  · obtain ⟨n1, n2, n3⟩ := hn
    have n1' : (th.length : Int) ≤ 8 := by omega
    have n2' : (vals.length : Int) ≤ 40 := by omega
    have n3' : (lucks.length : Int) ≤ 40 := by omega
    have HMay : Hid _ := fun W (hb : Below w.heap.size w W) => refMayT_any p c th 2 W (ht.keep hb)
    by_cases hm : mayT th 2 = true
    · have HM : Hid _ := hm
      have F1 := trivial
      go_enter Tryd.func8, Tryd.ntmps8
      go_wp2_with (first
        | (go_at_call 9; clear F1; refine (shown8_any _ T).mono ?_; rintro e w1 ⟨rfl, hb1⟩; have F2 := trivial)
        | (go_at_call 15; clear F2; refine (HMay.out _ hb1).mono ?_; rintro e w2 ⟨rfl, hb2⟩; have B2 := Below.thru hb1 hb2 (Nat.le_refl _); rw [HM.out]))
      go_loopw [10] (fun i wr => ∃ k : Nat, k ≤ th.length ∧ i = .int .i64 k ∧ (th.take k).all nobB = true ∧ Below w2.heap.size w2 wr) (fun i _ => th.length - (intOf i).toNat)
      case atStart => exact ⟨0, Nat.zero_le _, rfl, rfl, by go_grown⟩
      case round =>
        obtain ⟨k, hk, rfl, hall, hB⟩ := hrel
        have HK : Hid _ := hall
        clear hall
        have Bw := Below.thru B2 hB (Nat.le_refl _)
        by_cases hlt : k < th.length
        · obtain ⟨ub, uo, rfl, e0, e1, e2, e3, e4, e5⟩ := (ins_at (ht.keep Bw)).2 k hlt
          have hat : th[k]? = some th[k] := List.getElem?_eq_getElem hlt
          generalize th[k] = x at *
          have hnx := all_next hat nobB
          rw [HK.out] at hnx
          have HX : Hid _ := hnx
          clear hnx hat
          have lu := cell_lt e0
          by_cases h13 : x.op = 13
          · rw [h13] at e0
            go_wp2
            go_returns
            exact ⟨rfl, Bw⟩
          · by_cases h14 : x.op = 14
            · rw [h14] at e0
              go_wp2
              go_returns
              exact ⟨rfl, Bw⟩
            · have g1 : (x.op == 13) = false := by simpa using h13
              have g2 : (x.op == 14) = false := by simpa using h14
              have e6 : nobB x = true := by unfold nobB; rw [g1, g2]; rfl
              rw [e6] at HX
              clear h13 h14
              go_wp2
              go_roundw
              case rel => exact ⟨k + 1, by omega, by go_num, HX.out, hB⟩
              case measure => simp [intOf]; omega
        · have hall : th.all nobB = true := by have h := HK.out; rw [List.take_of_length_le (by omega)] at h; exact h
          obtain ⟨j, hj⟩ : ∃ j, cut % (th.length + 1) = j := ⟨_, rfl⟩
          have hjl : j ≤ th.length := by rw [← hj]; exact Nat.le_of_lt_succ (Nat.mod_lt _ (Nat.succ_pos _))
          have hj' : (cut : Int) % ((th.length : Int) + 1) = (j : Int) := by rw [← hj]; simp
          have hjt : ((cut : Int).tmod ((th.length : Int) + 1)) = (j : Int) := by rw [← hj]; rfl
          clear hj
          obtain ⟨b1, b2, b3, b4⟩ := runT_begins (locs := 2) (vals := vals) (lucks := lucks) hall HM.out j
          obtain ⟨cI, cS⟩ := cut_first elemIns8 Tryd.underlying22 Tryd.sizeOf51 (ht.keep Bw) hjl
          have lenA := (runT_ok (th.take j) 2 vals lucks).2
          have lenD := (runT_ok th 2 vals lucks).2
          obtain ⟨wq, rfl⟩ : ∃ x : World, x = wr := ⟨_, rfl⟩
          have hle : (th.take j).length ≤ 8 := by rw [List.length_take]; omega
          have hA := fun W (hb : Below wq.heap.size wq W) => Run_any p pv pl c cv cl (th.take j) 2 vals lucks W (T.below (Below.thru Bw hb (Nat.le_refl _))).tab (T.below (Below.thru Bw hb (Nat.le_refl _))).bar (cS.keep hb) (hv.keep (Below.thru Bw hb (Nat.le_refl _))) (hl.keep (Below.thru Bw hb (Nat.le_refl _))) (by omega) (by omega)
          have hD := fun W (hb : Below wq.heap.size wq W) => Run_any p pv pl c cv cl th 2 vals lucks W (T.below (Below.thru Bw hb (Nat.le_refl _))).tab (T.below (Below.thru Bw hb (Nat.le_refl _))).bar (ht.keep (Below.thru Bw hb (Nat.le_refl _))) (hv.keep (Below.thru Bw hb (Nat.le_refl _))) (hl.keep (Below.thru Bw hb (Nat.le_refl _))) (by omega) (by omega)
          generalize runT (th.take j) 2 vals lucks = A at *
          generalize runT th 2 vals lucks = D at *
          generalize th.take j = tj at *
          have HA : Hid _ := hA
          have HD : Hid _ := hD
          have HB4 : Hid _ := b4
          have hpre := pre_take b1
          have hple := b1.length_le
          clear hA hD b4 b1 hall HK HMay
          have F3 := trivial
          go_wp2_with (first
            | (go_at_call 12; clear F3; refine (HA.out _ (Below.refl _ _)).mono ?_; rintro e w3 ⟨ra, rfl, hTa, hb3⟩; have F4 := trivial)
            | (clear F4; refine wpList_told (w := w3) (by rfl) (.tmp 12) (.tmp 66) (by rfl) hTa (by rfl) (by rfl) ?_; intro w4 kA hTA B34; simp only [Act.put]; have B4 := Below.thru hb3 B34 (Nat.le_refl _); have F5 := trivial)
            | (go_at_call 12; clear F5; refine (HD.out _ B4).mono ?_; rintro e w5 ⟨rd, rfl, hTd, hb5⟩; have B5 := Below.thru B4 hb5 (Nat.le_refl _); have F6 := trivial)
            | (clear F6; refine wpList_told (w := w5) (by rfl) (.tmp 13) (.tmp 70) (by rfl) hTd (by rfl) (by rfl) ?_; intro w6 kD hTD B56; simp only [Act.put]; have B6 := Below.thru B5 B56 (Nat.le_refl _); have B46 := Below.thru hb5 B56 (Nat.le_refl _); have kA6 := TrB.keep kA B46; have hTA6 := hTA.keep B46; obtain ⟨pa, ca, ea⟩ := hTA6.e0.len; obtain ⟨pd, cd, ed⟩ := hTD.e0.len; have sA := hTA6.e0; have sD := hTD.e0; rw [ea] at sA; rw [ed] at sD; obtain ⟨x0, -⟩ := kA6.rows; obtain ⟨x1, x2, x3⟩ := kA6.more; obtain ⟨y0, -⟩ := kD.rows; obtain ⟨y1, y2, y3⟩ := kD.more; rw [ea] at x0; rw [ed] at y0; have lA := kA6.lt; have lD := kD.lt; obtain ⟨cE, cT⟩ := cut_first elemEv8 Tryd.underlying27 Tryd.sizeOf47 sD hple; rw [hpre] at cE cT; have HE : Hid _ := fun (q : Ext w6) => Events_is _ _ A.evs q.wd (sA.keep q.ok) (cT.keep q.ok) (by omega); clear cT sA sD))
          have g1 : decide ((A.vals : Int) ≤ (D.vals : Int)) = true := decide_eq_true (by omega)
          have g2 : decide ((A.lucks : Int) ≤ (D.lucks : Int)) = true := decide_eq_true (by omega)
          have g3 : decide (A.vals ≤ D.vals) = true := decide_eq_true b2
          have g4 : decide (A.lucks ≤ D.lucks) = true := decide_eq_true b3
          have Bf := Below.thru Bw B6 (Nat.le_refl _)
          by_cases hz : A.more = 0
          · rw [hz] at x3
            clear hz
            refine wp_region_ext (by kernel_rfl) (by kernel_rfl) ?_
            repeat (go_big_quiet_step (first | (go_at_call 14; with_reducible exact calls_ext (HE.out _))))
            refine wpQuiet_nil ?_
            rintro _ ⟨rr, rfl⟩
            go_wp2
            go_returns
            exact ⟨rfl, Below.thru Bf rr.ok (Nat.le_refl _)⟩
          · have hz2 : D.more = A.more := HB4.out.resolve_left hz
            rw [hz2] at y3
            have gz : (A.more == 0) = false := by simpa using hz
            clear hz hz2
            refine wp_region_ext (by kernel_rfl) (by kernel_rfl) ?_
            repeat (go_big_quiet_step (first | (go_at_call 14; with_reducible exact calls_ext (HE.out _))))
            refine wpQuiet_nil ?_
            rintro _ ⟨rr, rfl⟩
            go_wp2
            go_returns
            exact ⟨rfl, Below.thru Bf rr.ok (Nat.le_refl _)⟩
    · have HM : Hid (mayT th 2 = false) := by unfold Hid; simpa using hm
      clear hm
      have F1 := trivial
      go_enter Tryd.func8, Tryd.ntmps8
      go_wp2_with (first
        | (go_at_call 9; clear F1; refine (shown8_any _ T).mono ?_; rintro e w1 ⟨rfl, hb1⟩; have F2 := trivial)
        | (go_at_call 15; clear F2; refine (HMay.out _ hb1).mono ?_; rintro e w2 ⟨rfl, hb2⟩; have B2 := Below.thru hb1 hb2 (Nat.le_refl _); rw [HM.out]))
      go_returns
      exact ⟨rfl, B2⟩
  · have hcase : 8 < th.length ∨ (th.length ≤ 8 ∧ 40 < vals.length) ∨ (th.length ≤ 8 ∧ vals.length ≤ 40 ∧ 40 < lucks.length) := by omega
    rcases hcase with h | ⟨h1, h⟩ | ⟨h1, h2, h⟩
    · have n1' : ¬ (th.length : Int) ≤ 8 := by omega
      go_enter Tryd.func8, Tryd.ntmps8
      go_wp2_with (go_at_call 9; refine (shown8_any _ T).mono ?_; rintro e w1 ⟨rfl, hb1⟩)
      go_returns
      exact ⟨rfl, hb1⟩
    · have n1' : (th.length : Int) ≤ 8 := by omega
      have n2' : ¬ (vals.length : Int) ≤ 40 := by omega
      go_enter Tryd.func8, Tryd.ntmps8
      go_wp2_with (go_at_call 9; refine (shown8_any _ T).mono ?_; rintro e w1 ⟨rfl, hb1⟩)
      go_returns
      exact ⟨rfl, hb1⟩
    · have n1' : (th.length : Int) ≤ 8 := by omega
      have n2' : (vals.length : Int) ≤ 40 := by omega
      have n3' : ¬ (lucks.length : Int) ≤ 40 := by omega
      go_enter Tryd.func8, Tryd.ntmps8
      go_wp2_with (go_at_call 9; refine (shown8_any _ T).mono ?_; rintro e w1 ⟨rfl, hb1⟩)
      go_returns
      exact ⟨rfl, hb1⟩
end Go.Proofs.YtkiefbldkidobaaDoor
