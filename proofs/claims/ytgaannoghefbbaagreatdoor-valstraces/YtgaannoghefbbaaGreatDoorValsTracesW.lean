/- ValsTraces, walked: it answers true. -/
import Derived.Test.YtgaannoghefbbaaGreatDoorValsShown
import Derived.Test.YtgaannoghefbbaaGreatDoorFlowSame
import Derived.Test.YtgaannoghefbbaaGreatDoorValsRefT
namespace Go.Proofs.YtgaannoghefbbaaGreatDoor
open Go.RowKit
attribute [local go_sem] Ext.cell Ext.frozen

set_option maxRecDepth 20000 in
set_option maxHeartbeats 8000000 in
theorem ValsTraces_true (p pl : Option Addr) (c cl : Nat) (th : List Ins) (locs : Int) (l : List Int) (w : World) (T : FEnv w) (ht : Sl InsE w (.slice p th.length c) th) (hl : Sl IntE w (.slice pl l.length cl) l) (hz : ∀ x ∈ l, InZ x) :
    Calls Tryz.prog 3 #[.slice p th.length c, .int .i64 locs, .slice pl l.length cl] w fun e w' => e = .returned (.bool true) ∧ Below w.heap.size w w' := by
  by_cases h1 : th.length ≤ 40
  · have h1' : ¬ (40 : Int) < (th.length : Int) := by omega
    by_cases h2 : l.length ≤ 8
    · have h2' : ¬ (8 : Int) < (l.length : Int) := by omega
      have hA := fun W (hB : Below w.heap.size w W) => Traces_any p pl c cl th locs l W (T.below hB) h2 (by omega) (ht.keep hB) (hl.keep hB)
      have hB := fun W (hB : Below w.heap.size w W) => refTraces_any p pl c cl th locs l W h2 (by omega) (ht.keep hB) (hl.keep hB)
      have hev : ∀ s ∈ tracesT th locs l, s.evs.length ≤ 8 := fun s hs => tracesT_evs hs
      have hlen : (tracesT th locs l).length ≤ 65536 := tracesT_len4 h2
      have hls : ∀ s ∈ tracesT th locs l, s.evs.length ≤ 1000000 ∧ s.ad.length ≤ 1000000 ∧ s.da.length ≤ 1000000 ∧ s.ct.length ≤ 1000000 ∧ s.pa.length ≤ 1000000 := fun s hs => by
        obtain ⟨v, b, rfl, _⟩ := tracesT_mem hs
        exact runT_lens th locs v b
      have hwf : ∀ x ∈ wroteT (tracesT th locs l), InZ x := wrote_wf hz
      generalize tracesT th locs l = L at *
      have HWF : Hid _ := hwf
      clear hwf
      have HA : Hid _ := hA
      have HB : Hid _ := hB
      have HE : Hid _ := hev
      have HS : Hid _ := hls
      clear hA hB hev hls
      have hnn : ((L.length : Int) != (L.length : Int)) = false := by simp
      have F1 := trivial
      go_enter Tryz.func3, Tryz.ntmps3
      go_wp2_with (first
        | (go_at_call 5; clear F1; refine (shown9_any _ T).mono ?_; rintro e w1 ⟨rfl, hb1⟩; have F2 := trivial)
        | (go_at_call 6; clear F2; refine (HA.out _ hb1).mono ?_; rintro e w2 ⟨u2, rfl, hU2, hb2⟩; obtain ⟨p2, c2, rfl⟩ := hU2.len; have B2 := Below.thru hb1 hb2 (Nat.le_refl _); have F3 := trivial)
        | (go_at_call 7; clear F3; refine (HB.out _ B2).mono ?_; rintro e w3 ⟨u3, rfl, hU3, hb3⟩; obtain ⟨p3, c3, rfl⟩ := hU3.len; have B3 := Below.thru B2 hb3 (Nat.le_refl _); have hX := hU2.keep hb3; have hY := hU3.any; clear hU2 hU3; have F4 := trivial))
      go_loopw [10] (fun i wr => ∃ k : Nat, k ≤ L.length ∧ i = .int .i64 k ∧ Below w3.heap.size w3 wr) (fun i _ => L.length - (intOf i).toNat)
      case atStart => exact ⟨0, Nat.zero_le _, rfl, Below.refl _ _⟩
      case round =>
        obtain ⟨k, hk, rfl, hbr⟩ := hrel
        by_cases hlt : k < L.length
        · obtain ⟨xb, xo, r, rfl, -, hz, hat⟩ := (tr_at (hX.keep hbr)).2 k hlt
          obtain ⟨yb, yo, q, rfl, -, hz2, hat2⟩ := (tr_at (hY.keep hbr)).2 k hlt
          have hs := HS.out _ (List.getElem_mem hlt)
          generalize L[k] = s at hz hat hz2 hat2 hs
          have HSS : Hid _ := hs
          clear hs
          have hlt' : (k : Int) < (L.length : Int) := by omega
          have hT := hz.is
          have hT2 := hz2.is
          clear hz hz2
          obtain ⟨a0, a1, a2, a3, a4, a5, a6, a7, a8, a9, aa, ab, ac, ad, ae, af⟩ := hat
          obtain ⟨b0, b1, b2, b3, b4, b5, b6, b7, b8, b9, ba, bb, bc, bd, be, bf⟩ := hat2
          have la := cell_lt a0
          have lb := cell_lt b0
          have hne : ∀ w, Nonempty (Ext w) := ext_some
          go_wp2
          refine wp_region_mix [([0, 1, 2, 3, 5, 6, 7, 8], 4), ([], 9)] [10] (by kernel_rfl) (by kernel_rfl) (fun _ _ d _ _ h => by cases d <;> exact h) ?_
          dsimp only [List.map, opAt]
          have C1 : Below wr.heap.size wr wr.drew := Below.drew (Below.refl _ _)
          refine wpMix_stage ?_
          repeat (go_big_quiet_step (fail))
          refine wpQuiet_nil ?_
          go_wp2_with (go_at_call 9; refine (real9_is r s _ (hT.keep C1)).mono ?_; rintro e w5 ⟨rfl, hb5⟩)
          have C2 : Below wr.heap.size wr w5 := Below.thru C1 hb5 (Nat.le_refl _)
          refine ⟨C2, ?_⟩
          refine wpMix_stage ?_
          refine wpQuiet_nil ?_
          go_wp2_with (go_at_call 8; refine (Same_is r q s _ (hT.keep C2) (hT2.keep C2) HSS.out).mono ?_; rintro e w6 ⟨rfl, hb6⟩)
          have C3 : Below wr.heap.size wr w6 := Below.thru C2 hb6 (Nat.le_refl _)
          refine ⟨C3, ?_⟩
          refine wpMix_last ?_
          repeat (go_big_quiet_step (fail))
          refine wpQuiet_nil ?_
          go_wp2
          go_roundw
          case rel => exact ⟨k + 1, by omega, by go_num, Below.thru hbr C3 (Nat.le_refl _)⟩
          case measure => simp [intOf]; omega
        · have Br := Below.thru B3 hbr (Nat.le_refl _)
          have hXr := hX.keep hbr
          have hYr := hY.keep hbr
          have hW := fun W (hB : Below wr.heap.size wr W) => Wrote_any p2 c2 L W (hXr.keep hB) HE.out (by omega) HWF.out
          have hV := fun W (hB : Below wr.heap.size wr W) => refWrote_any none p3 0 c3 [] L W SlA.nil (hYr.keep hB) HE.out (by simp only [List.length_nil]; omega)
          have hpl : (putsN [] (wroteT L)).length ≤ 1000000 := by
            have h1 : (putsN [] (wroteT L)).length ≤ _ := putsN_len
            have h2 := wroteT_len HE.out
            simp only [List.length_nil] at h1
            omega
          generalize putsN [] (wroteT L) = PL at *
          have HW : Hid _ := hW
          have HV : Hid _ := hV
          clear hW hV
          have F5 := trivial
          go_wp2_with (first
            | (go_at_call 11; clear F5; refine (HW.out _ (Below.refl _ _)).mono ?_; rintro e w5 ⟨v5, rfl, hV5, hb5⟩; obtain ⟨p5, c5, rfl⟩ := hV5.len; have F6 := trivial)
            | (go_at_call 12; clear F6; refine (HV.out _ hb5).mono ?_; rintro e w6 ⟨v6, rfl, hV6, hb6⟩; obtain ⟨p6, c6, rfl⟩ := hV6.len; have C6 := Below.thru hb5 hb6 (Nat.le_refl _); have F7 := trivial)
            | (go_at_call 10; clear F7; refine (Nums_any p5 p6 c5 c6 PL PL _ (hV5.keep hb6) hV6 hpl).mono ?_; rintro e w7 ⟨rfl, nd, rfl⟩))
          go_ret
          exact ⟨rfl, below_drewN nd (Below.thru Br C6 (Nat.le_refl _))⟩
    · have h2' : (8 : Int) < (l.length : Int) := by omega
      have F1 := trivial
      go_enter Tryz.func3, Tryz.ntmps3
      go_wp2_with (go_at_call 5; clear F1; refine (shown9_any _ T).mono ?_; rintro e w1 ⟨rfl, hb1⟩)
      go_ret
      exact ⟨rfl, hb1⟩
  · have h1' : (40 : Int) < (th.length : Int) := by omega
    have F1 := trivial
    go_enter Tryz.func3, Tryz.ntmps3
    go_wp2_with (go_at_call 5; clear F1; refine (shown9_any _ T).mono ?_; rintro e w1 ⟨rfl, hb1⟩)
    go_ret
    exact ⟨rfl, hb1⟩
end Go.Proofs.YtgaannoghefbbaaGreatDoor
