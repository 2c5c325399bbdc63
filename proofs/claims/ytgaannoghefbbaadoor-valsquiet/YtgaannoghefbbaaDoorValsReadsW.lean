/- ValsReads, walked: it answers true. -/
import Derived.Test.YtgaannoghefbbaaDoorValsShown
namespace Go.Proofs.YtgaannoghefbbaaDoor
open Go.RowKit
attribute [local go_sem] Ext.cell Ext.frozen

theorem tracesT_reads {th : List Ins} {locs : Int} {l : List Int} {s : St} (h : s ∈ tracesT th locs l) : s.more = 0 ∧ ∀ e ∈ s.evs, e.kd = 1 → inL l e.vl = true := by
  obtain ⟨v, b, rfl, h0, _, hv⟩ := tracesT_mem h
  refine ⟨h0, fun e he hk => inL_is.2 (hv _ ?_)⟩
  have hr := runT_reads th locs v b
  have hm : e.vl ∈ readsL (runT th locs v b).evs := by
    unfold readsL
    exact List.mem_map.2 ⟨e, List.mem_filter.2 ⟨he, by simp [hk]⟩, rfl⟩
  rw [hr] at hm
  exact List.mem_of_mem_take hm
theorem up_at {l : List Int} (h : Up l) {k : Nat} (hk : k + 1 < l.length) : l[k] < l[k + 1] := List.pairwise_iff_getElem.1 h k (k + 1) (by omega) hk (by omega)

set_option maxRecDepth 20000 in
set_option maxHeartbeats 8000000 in
theorem ValsReads_true (p pl : Option Addr) (c cl : Nat) (th : List Ins) (l : List Int) (w : World) (T : FEnv w) (ht : Sl InsE w (.slice p th.length c) th) (hl : Sl IntE w (.slice pl l.length cl) l) (hz : ∀ x ∈ l, InZ x) :
    Calls Tryd.prog 4 #[.slice p th.length c, .slice pl l.length cl] w fun e w' => e = .returned (.bool true) ∧ Below w.heap.size w w' := by
  by_cases h1 : th.length ≤ 8
  · have h1' : ¬ (8 : Int) < (th.length : Int) := by omega
    by_cases h2 : l.length ≤ 6
    · have h2' : ¬ (6 : Int) < (l.length : Int) := by omega
      have hA := fun W (hB : Below w.heap.size w W) => Traces_any p pl c cl th 2 l W (T.below hB) (by omega) (by omega) (ht.keep hB) (hl.keep hB)
      have hev : ∀ s ∈ tracesT th 2 l, s.evs.length ≤ 8 := fun s hs => tracesT_evs hs
      have hlen : (tracesT th 2 l).length ≤ 65536 := tracesT_len4 (by omega)
      have hrd : ∀ s ∈ tracesT th 2 l, s.more = 0 ∧ ∀ e ∈ s.evs, e.kd = 1 → inL l e.vl = true := fun s hs => tracesT_reads hs
      have hwf : ∀ x ∈ wroteT (tracesT th 2 l), InZ x := wrote_wf hz
      generalize tracesT th 2 l = L at *
      have HWF : Hid _ := hwf
      clear hwf
      have HA : Hid _ := hA
      have HE : Hid _ := hev
      have HR : Hid _ := hrd
      clear hA hev hrd
      have F1 := trivial
      go_enter Tryd.func4, Tryd.ntmps4
      go_wp2_with (first
        | (go_at_call 7; clear F1; refine (shown9_any _ T).mono ?_; rintro e w1 ⟨rfl, hb1⟩; have F2 := trivial)
        | (go_at_call 8; clear F2; refine (HA.out _ hb1).mono ?_; rintro e w2 ⟨u2, rfl, hU2, hb2⟩; obtain ⟨p2, c2, rfl⟩ := hU2.len; have B2 := Below.thru hb1 hb2 (Nat.le_refl _)))
      have hl2 := hl.keep B2
      go_loopw [7] (fun i wr => ∃ k : Nat, k ≤ L.length ∧ i = .int .i64 k ∧ wr = w2) (fun i _ => L.length - (intOf i).toNat)
      case atStart => exact ⟨0, Nat.zero_le _, rfl, rfl⟩
      case round =>
        obtain ⟨k, hk, rfl, rfl⟩ := hrel
        by_cases hlt : k < L.length
        · obtain ⟨xb, xo, r, rfl, -, hz, hat⟩ := (tr_at hU2).2 k hlt
          have h8 := HE.out _ (List.getElem_mem hlt)
          obtain ⟨hm0, hrs⟩ := HR.out _ (List.getElem_mem hlt)
          have hE := hz.e0
          have a0 := hat.c0
          have af := hat.mo
          generalize L[k] = s at hE h8 hm0 hrs af
          clear hz hat
          rw [hm0] at af
          have HS : Hid _ := hrs
          clear hrs hm0
          obtain ⟨pe, ce, he⟩ := hE.len
          rw [he] at hE a0
          clear he
          have la := cell_lt a0
          go_wp2
          obtain ⟨w3, rfl⟩ : ∃ x : World, x = wr := ⟨_, rfl⟩
          go_loopw [8] (fun i wr => ∃ j : Nat, j ≤ s.evs.length ∧ i = .int .i64 j ∧ wr = w3) (fun i _ => s.evs.length - (intOf i).toNat)
          case atStart => exact ⟨0, Nat.zero_le _, rfl, rfl⟩
          case round =>
            obtain ⟨j, hj, rfl, rfl⟩ := hrel
            by_cases hjl : j < s.evs.length
            · obtain ⟨eb, eo, rfl, -, g1, -, g3, -, -, -⟩ := (ev_at hE).2 j hjl
              have hin := HS.out _ (List.getElem_mem hjl)
              generalize s.evs[j] = x at g1 g3 hin
              have HI : Hid _ := hin
              clear hin
              have lt1 := cell_lt g1
              by_cases hk1 : x.kd = 1
              · have hkb : (x.kd == 1) = true := by simp [hk1]
                have HX : Hid (inL l x.vl = true) := HI.out hk1
                go_wp2_with (go_at_call 10; refine (refIn_any pl cl l x.vl _ hl2 (by omega)).mono ?_; rintro e w4 ⟨rfl, rfl⟩; rw [HX.out])
                go_roundw
                case rel => exact ⟨j + 1, by omega, by go_num, trivial⟩
                case measure => simp [intOf]; omega
              · have hkb : (x.kd == 1) = false := by simp [hk1]
                go_wp2
                go_roundw
                case rel => exact ⟨j + 1, by omega, by go_num, trivial⟩
                case measure => simp [intOf]; omega
            · go_wp2
              go_roundw
              case rel => exact ⟨k + 1, by omega, by go_num, trivial⟩
              case measure => simp [intOf]; omega
        · have hW := fun W (hB : Below wr.heap.size wr W) => Wrote_any p2 c2 L W (hU2.keep hB) HE.out (by omega) HWF.out
          have hpl : (putsN [] (wroteT L)).length ≤ 1000000 := by
            have h1 : (putsN [] (wroteT L)).length ≤ _ := putsN_len
            have h2 := wroteT_len HE.out
            simp only [List.length_nil] at h1
            omega
          have hup : Up (putsN [] (wroteT L)) := up_putsN (by simp [Up])
          generalize putsN [] (wroteT L) = PL at *
          have HW : Hid _ := hW
          have HU : Hid _ := hup
          clear hW hup
          have F5 := trivial
          go_wp2_with (go_at_call 11; clear F5; refine (HW.out _ (Below.refl _ _)).mono ?_; rintro e w5 ⟨v5, rfl, hV5, hb5⟩; obtain ⟨p5, c5, rfl⟩ := hV5.len)
          have B5 := Below.thru B2 hb5 (Nat.le_refl _)
          clear hlt hk
          go_loopw [10] (fun i wr => ∃ j : Nat, j ≤ PL.length ∧ i = .int .i64 j ∧ Below w5.heap.size w5 wr) (fun i _ => PL.length - (intOf i).toNat)
          case atStart => exact ⟨0, Nat.zero_le _, rfl, Below.refl _ _⟩
          case round =>
            obtain ⟨j, hj, rfl, hbr⟩ := hrel
            by_cases hjl : j + 1 < PL.length
            · have hv := hV5.keep hbr
              obtain ⟨vb, vo, e1, g1⟩ := (ints_at hv).2 j (by omega)
              obtain ⟨vb2, vo2, e2, g2⟩ := (ints_at hv).2 (j + 1) hjl
              rw [e1] at e2
              cases e2
              subst e1
              have hup := up_at HU.out hjl
              generalize PL[j] = y1 at *
              generalize PL[j + 1] = y2 at *
              have hge : ¬ y2 ≤ y1 := by omega
              have l1 := cell_lt g1
              have hj1 : (j : Int) + 1 < (PL.length : Int) := by omega
              have g2' : wr.cell? ⟨vb, vo + (j + 1), none⟩ = some (.int .i64 y2) := g2
              clear g2 hup hv
              have hne : ∀ w, Nonempty (Ext w) := ext_some
              go_wp2
              refine wp_region_ext (by kernel_rfl) (by kernel_rfl) ?_
              repeat (go_big_quiet_step (fail))
              refine wpQuiet_nil ?_
              rintro _ ⟨rr, rfl⟩
              have hb6 := rr.ok
              generalize rr.wd = w6 at *
              go_wp2
              go_roundw
              case rel => exact ⟨j + 1, by omega, by go_num, Below.thru hbr hb6 (Nat.le_refl _)⟩
              case measure => simp [intOf]; omega
            · have hj1 : ¬ (j : Int) + 1 < (PL.length : Int) := by omega
              go_wp2
              go_ret
              exact ⟨rfl, Below.thru B5 hbr (Nat.le_refl _)⟩
    · have h2' : (6 : Int) < (l.length : Int) := by omega
      have F1 := trivial
      go_enter Tryd.func4, Tryd.ntmps4
      go_wp2_with (go_at_call 7; clear F1; refine (shown9_any _ T).mono ?_; rintro e w1 ⟨rfl, hb1⟩)
      go_ret
      exact ⟨rfl, hb1⟩
  · have h1' : (8 : Int) < (th.length : Int) := by omega
    have F1 := trivial
    go_enter Tryd.func4, Tryd.ntmps4
    go_wp2_with (go_at_call 7; clear F1; refine (shown9_any _ T).mono ?_; rintro e w1 ⟨rfl, hb1⟩)
    go_ret
    exact ⟨rfl, hb1⟩
end Go.Proofs.YtgaannoghefbbaaDoor
