/- ValsClosed, walked: it answers true. -/
import Derived.Test.YtgaannoghefbbaaDoorValsFacts
import Derived.Test.YtgaannoghefbbaaDoorValsReadsW
import Derived.Test.YtgaannoghefbbaaDoorTestRefCheck
namespace Go.Proofs.YtgaannoghefbbaaDoor
open Go.RowKit
attribute [local go_sem] Ext.cell Ext.frozen

theorem ofZ_ok {xs : List Int} {ts : List (List Ins)} (h : (ofZ xs ts).2 = 0) : (checkZ xs ts).2.2 = 0 ∧ closeN ts xs.length (storesTs ts) (putsN [] xs) = some (ofZ xs ts).1 := by
  unfold ofZ at h ⊢
  by_cases h0 : (checkZ xs ts).2.2 = 0
  · rw [if_pos h0] at h ⊢
    refine ⟨h0, ?_⟩
    cases hc : closeN ts xs.length (storesTs ts) (putsN [] xs) with
    | none => rw [hc] at h; exact absurd h (by decide)
    | some l => rfl
  · rw [if_neg h0] at h
    exact absurd h h0
theorem ofZ_err {xs : List Int} {ts : List (List Ins)} (h : (ofZ xs ts).2 ≠ 0) : (ofZ xs ts).1 = [] := by
  unfold ofZ at h ⊢
  split
  · rename_i h0
    rw [if_pos h0] at h
    split
    · rename_i l hl
      rw [hl] at h
      exact absurd rfl h
    · rfl
  · rfl
/-- What is known of values that may be read. -/
theorem ofZ_facts {xs : List Int} {ts : List (List Ins)} (h : (ofZ xs ts).2 = 0) :
    (∀ x ∈ xs, inL (ofZ xs ts).1 x = true) ∧ Up (ofZ xs ts).1 ∧ 1 ≤ (ofZ xs ts).1.length ∧ (0 < storesTs ts → ∀ th ∈ ts, ∀ y ∈ putsN [] (wroteT (tracesT th xs.length xs)), inL (ofZ xs ts).1 y = true) := by
  obtain ⟨h0, hc⟩ := ofZ_ok h
  generalize (ofZ xs ts).1 = l at *
  have hsub : ∀ x ∈ xs, x ∈ putsN [] xs := fun x hx => mem_putsN.2 (.inl hx)
  refine ⟨fun x hx => inL_is.2 (closeN_has hc (hsub x hx)), up_closeN (up_putsN (by simp [Up])) hc, ?_, fun hs th hth y hy => inL_is.2 ?_⟩
  · obtain ⟨f1, _⟩ := check_facts h0
    cases xs with
    | nil => exact absurd f1 (by decide)
    | cons x xs =>
      have := closeN_has hc (hsub x (by simp))
      exact List.length_pos_iff.2 (fun e => by rw [e] at this; simp at this)
  · obtain ⟨n, hn⟩ : ∃ n, storesTs ts = n + 1 := ⟨storesTs ts - 1, by omega⟩
    rw [hn] at hc
    have hy' : y ∈ wroteT (tracesT th xs.length xs) := by
      rcases mem_putsN.1 hy with hy | hy
      · exact hy
      · simp at hy
    exact closeN_wrote hth hc (wroteT_sub hsub hy')

set_option maxRecDepth 20000 in
set_option maxHeartbeats 8000000 in
theorem ValsClosed_true (pi pt : Option Addr) (ci ct : Nat) (xs : List Int) (ts : List (List Ins)) (w : World) (T : FEnv w) (hi : Sl IntE w (.slice pi xs.length ci) xs) (ht : Sl ThrE w (.slice pt ts.length ct) ts) (hz : ∀ x ∈ xs, InZ x) :
    Calls Tryd.prog 5 #[.agg #[.slice pi xs.length ci, .slice pt ts.length ct]] w fun e w' => e = .returned (.bool true) ∧ Below w.heap.size w w' := by
  have hb1 := below_new w (.cells #[.slice pi xs.length ci, .slice pt ts.length ct] 48)
  have k1 : Blk (w.alloc (.cells #[.slice pi xs.length ci, .slice pt ts.length ct] 48)) w.heap.size #[.slice pi xs.length ci, .slice pt ts.length ct] 48 := Blk.new
  have hF := fun W (hB : Below w.heap.size w W) => Few_any pi pt ci ct xs ts W (ht.keep hB)
  have HF : Hid _ := hF
  clear hF
  have F1 := trivial
  cases hfew : fewB xs ts
  · have HW : Hid _ := hfew
    clear hfew
    go_enter Tryd.func5, Tryd.ntmps5
    go_wp2_with (first
      | (go_at_call 7; clear F1; refine (shown9_any _ (T.below hb1)).mono ?_; rintro e w1 ⟨rfl, hb2⟩; have B1 := Below.thru hb1 hb2 (Nat.le_refl _); have kk := k1.keep hb2; have x0 : w1.cell? ⟨w.heap.size, 0, none⟩ = some (.slice pi xs.length ci) := kk.cell 0; have x1 : w1.cell? ⟨w.heap.size, 1, none⟩ = some (.slice pt ts.length ct) := kk.cell 1; have lx := cell_lt x0; have F2 := trivial)
      | (go_at_call 12; clear F2; refine (HF.out _ B1).mono ?_; rintro e w2 ⟨rfl, hb3⟩; rw [HW.out]; have B2 := Below.thru B1 hb3 (Nat.le_refl _)))
    go_ret
    exact ⟨rfl, B2⟩
  · obtain ⟨hS, hn10, hx10, h40⟩ := few_size hfew
    have HW : Hid _ := hfew
    clear hfew
    have hA := fun W (hB : Below w.heap.size w W) => Of_any pi pt ci ct xs ts W (T.below hB) (hi.keep hB) (ht.keep hB) (by omega) hz
    by_cases herr : (ofZ xs ts).2 = 0
    · have hz8 : (ofZ xs ts).1.length ≤ 8 := ofZ_len
      obtain ⟨z1, z2, z3, z4⟩ := ofZ_facts herr
      obtain ⟨f1, f2, f3, f4, f5, f6, f7, f8⟩ := check_facts (ofZ_ok herr).1
      have hcnt : cntTs ts 0 0 = (((loadsTs ts : Nat) : Int), ((storesTs ts : Nat) : Int)) := by rw [cntTs_is, Int.zero_add, Int.zero_add]
      have hN := fun W (hB : Below w.heap.size w W) => refCount_any pi pt xs.length ci ct ts W (ht.keep hB) (by omega) (by omega)
      rw [hcnt] at hN
      have hTh := fun (q : Option Addr) (d : Nat) (th : List Ins) (h : th.length ≤ 8) W (hB : Below w.heap.size w W) (hT : Sl InsE W (.slice q th.length d) th) => Traces_any q pi d ci th xs.length xs W (T.below hB) (by omega) (by omega) hT (hi.keep hB)
      rw [show ofZ xs ts = ((ofZ xs ts).1, 0) by rw [← herr]] at hA
      generalize (ofZ xs ts).1 = l at *
      generalize storesTs ts = S at *
      have z3' : (1 : Int) ≤ (l.length : Int) := by omega
      have z8' : (l.length : Int) ≤ 8 := by omega
      have HZ1 : Hid _ := z1
      have HZ2 : Hid _ := z2
      have HZ4 : Hid _ := z4
      have H7 : Hid _ := f7
      have HA : Hid _ := hA
      have HN : Hid _ := hN
      have HTH : Hid _ := hTh
      clear hA hN hTh z1 z2 z4 f7 herr hcnt h40
      go_enter Tryd.func5, Tryd.ntmps5
      go_wp2_with (first
        | (go_at_call 7; clear F1; refine (shown9_any _ (T.below hb1)).mono ?_; rintro e w1 ⟨rfl, hb2⟩; have B1 := Below.thru hb1 hb2 (Nat.le_refl _); have kk := k1.keep hb2; have x0 : w1.cell? ⟨w.heap.size, 0, none⟩ = some (.slice pi xs.length ci) := kk.cell 0; have x1 : w1.cell? ⟨w.heap.size, 1, none⟩ = some (.slice pt ts.length ct) := kk.cell 1; have lx := cell_lt x0; have F2 := trivial)
        | (go_at_call 12; clear F2; refine (HF.out _ B1).mono ?_; rintro e w2 ⟨rfl, hb3⟩; rw [HW.out]; have B2 := Below.thru B1 hb3 (Nat.le_refl _); replace x0 := cell_keep x0 hb3; replace x1 := cell_keep x1 hb3; replace lx := cell_lt x0; have F3 := trivial)
        | (go_at_call 13; clear F3; refine (HA.out _ B2).mono ?_; rintro e w3 ⟨u3, rfl, hU3, hb4⟩; obtain ⟨p3, c3, rfl⟩ := hU3.len; have B3 := Below.thru B2 hb4 (Nat.le_refl _); replace x0 := cell_keep x0 hb4; replace x1 := cell_keep x1 hb4; replace lx := cell_lt x0; have F4 := trivial))
      go_loopw [6] (fun i wr => ∃ k : Nat, k ≤ xs.length ∧ i = .int .i64 k ∧ wr = w3) (fun i _ => xs.length - (intOf i).toNat)
      case atStart => exact ⟨0, Nat.zero_le _, rfl, rfl⟩
      case round =>
        obtain ⟨k, hk, rfl, rfl⟩ := hrel
        by_cases hlt : k < xs.length
        · obtain ⟨bi, oi, rfl, g1⟩ := (ints_at (hi.keep B3)).2 k hlt
          have hin := HZ1.out _ (List.getElem_mem hlt)
          generalize xs[k] = y at g1 hin
          have HI : Hid _ := hin
          clear hin
          have lg := cell_lt g1
          go_wp2_with (go_at_call 10; refine (refIn_any p3 c3 l y _ hU3 (by omega)).mono ?_; rintro e w4 ⟨rfl, rfl⟩; rw [HI.out])
          go_roundw
          case rel => exact ⟨k + 1, by omega, by go_num, trivial⟩
          case measure => simp [intOf]; omega
        · go_wp2
          clear hlt hk
          obtain ⟨w4, hw4⟩ : ∃ x : World, x = wr := ⟨_, rfl⟩
          subst hw4
          go_loopw [7] (fun i wr => ∃ j : Nat, j ≤ l.length ∧ i = .int .i64 j ∧ Below w4.heap.size w4 wr) (fun i _ => l.length - (intOf i).toNat)
          case atStart => exact ⟨0, Nat.zero_le _, rfl, Below.refl _ _⟩
          case round =>
            obtain ⟨j, hj, rfl, hbr⟩ := hrel
            have hv := hU3.keep hbr
            have x0' := cell_keep x0 hbr
            have x1' := cell_keep x1 hbr
            have lx' := cell_lt x0'
            have Br := Below.thru B3 hbr (Nat.le_refl _)
            by_cases hjl : j + 1 < l.length
            · obtain ⟨vb, vo, e1, g1⟩ := (ints_at hv).2 j (by omega)
              obtain ⟨vb2, vo2, e2, g2⟩ := (ints_at hv).2 (j + 1) hjl
              rw [e1] at e2
              cases e2
              subst e1
              have hup := up_at HZ2.out hjl
              generalize l[j] = y1 at *
              generalize l[j + 1] = y2 at *
              have hge : ¬ y2 ≤ y1 := by omega
              have l1 := cell_lt g1
              have hj1 : (j : Int) + 1 < (l.length : Int) := by omega
              have g2' : wr.cell? ⟨vb, vo + (j + 1), none⟩ = some (.int .i64 y2) := g2
              clear g2 hup hv
              have hne : ∀ w, Nonempty (Ext w) := ext_some
              go_wp2
              refine wp_region_ext (by kernel_rfl) (by kernel_rfl) ?_
              repeat (go_big_quiet_step (fail))
              refine wpQuiet_nil ?_
              rintro _ ⟨rr, rfl⟩
              have hb6 := rr.ok
              generalize rr.wd = w6 at *
              go_wp2
              go_roundw
              case rel => exact ⟨j + 1, by omega, by go_num, Below.thru hbr hb6 (Nat.le_refl _)⟩
              case measure => simp [intOf]; omega
            · have hj1 : ¬ (j : Int) + 1 < (l.length : Int) := by omega
              have F5 := trivial
              go_wp2_with (go_at_call 14; clear F5; refine (HN.out _ Br).mono ?_; rintro e w7 ⟨rfl, hb7⟩)
              have B7 := Below.thru Br hb7 (Nat.le_refl _)
              have y0 := cell_keep x0' hb7
              have y1 := cell_keep x1' hb7
              have hV7 := hv.keep hb7
              clear x0' x1' lx' hv hjl hj1 hj
              go_loopw [10] (fun i wr => ∃ m : Nat, m ≤ ts.length ∧ i = .int .i64 m ∧ Below w7.heap.size w7 wr) (fun i _ => ts.length - (intOf i).toNat)
              case atStart => exact ⟨0, Nat.zero_le _, rfl, Below.refl _ _⟩
              case round =>
                obtain ⟨m, hm, rfl, hbm⟩ := hrel
                have Bm := Below.thru B7 hbm (Nat.le_refl _)
                have q0 := cell_keep y0 hbm
                have q1 := cell_keep y1 hbm
                have lq := cell_lt q0
                have hVm := hV7.keep hbm
                by_cases hml : m < ts.length
                · have hml' : (m : Int) < (ts.length : Int) := by omega
                  by_cases hs : 0 < S
                  · have hs' : (0 : Int) < (S : Int) := by omega
                    obtain ⟨tb, to, rfl, t0, ht0, hT0⟩ := (thr_at (ht.keep Bm)).2 m hml
                    have h8t := H7.out _ (List.getElem_mem hml)
                    have hall := HZ4.out hs _ (List.getElem_mem hml)
                    generalize ts[m] = th at ht0 hT0 h8t hall
                    have HALL : Hid _ := hall
                    clear hall
                    obtain ⟨pth, cth, rfl⟩ := hT0.len
                    have lt0 := cell_lt ht0
                    have hlen : (tracesT th xs.length xs).length ≤ 65536 := tracesT_len4 (by omega)
                    have hTr := fun W (hB : Below wr.heap.size wr W) => HTH.out pth cth th h8t W (Below.thru Bm hB (Nat.le_refl _)) (hT0.keep hB)
                    have hevs : ∀ s ∈ tracesT th xs.length xs, s.evs.length ≤ 8 := fun s hs => tracesT_evs hs
                    have hwf : ∀ x ∈ wroteT (tracesT th xs.length xs), InZ x := wrote_wf hz
                    generalize tracesT th xs.length xs = L at *
                    have HWF : Hid _ := hwf
                    clear hwf
                    have HV : Hid _ := hevs
                    have HT : Hid _ := hTr
                    clear hevs hTr
                    have hne : ∀ w, Nonempty (Ext w) := ext_some
                    go_wp2
                    refine wp_region_mix [([0, 1, 2, 3, 4, 5, 6, 7, 8, 9], 10), ([], 11)] [12] (by kernel_rfl) (by kernel_rfl) (fun _ _ d _ _ h => by cases d <;> exact h) ?_
                    dsimp only [List.map, opAt]
                    have C1 : Below wr.heap.size wr wr.drew := Below.drew (Below.refl _ _)
                    refine wpMix_stage ?_
                    repeat (go_big_quiet_step (fail))
                    refine wpQuiet_nil ?_
                    go_wp2_with (go_at_call 8; refine (HT.out _ C1).mono ?_; rintro e w8 ⟨v8, rfl, hV8, hb8⟩)
                    have C2 : Below wr.heap.size wr w8 := Below.thru C1 hb8 (Nat.le_refl _)
                    refine ⟨C2, ?_⟩
                    refine wpMix_stage ?_
                    refine wpQuiet_nil ?_
                    obtain ⟨p8, c8, rfl⟩ := hV8.len
                    have hWr := fun W (hB : Below w8.heap.size w8 W) => Wrote_any p8 c8 L W (hV8.keep hB) HV.out (by omega) HWF.out
                    have hpl : (putsN [] (wroteT L)).length ≤ 1000000 := by
                      have h1 : (putsN [] (wroteT L)).length ≤ _ := putsN_len
                      have h2 := wroteT_len HV.out
                      simp only [List.length_nil] at h1
                      omega
                    generalize putsN [] (wroteT L) = PL at *
                    have HWR : Hid _ := hWr
                    clear hWr
                    go_wp2_with (go_at_call 11; refine (HWR.out _ (Below.refl _ _)).mono ?_; rintro e w9 ⟨v9, rfl, hV9, hb9⟩)
                    have C3 : Below wr.heap.size wr w9 := Below.thru C2 hb9 (Nat.le_refl _)
                    refine ⟨C3, ?_⟩
                    refine wpMix_last ?_
                    repeat (go_big_quiet_step (fail))
                    refine wpQuiet_nil ?_
                    obtain ⟨p9, c9, rfl⟩ := hV9.len
                    have hV9l := hVm.keep C3
                    go_wp2
                    obtain ⟨wo, hwo⟩ : ∃ x : World, x = wr := ⟨_, rfl⟩
                    subst hwo
                    go_loopw [12] (fun i wr => ∃ n : Nat, n ≤ PL.length ∧ i = .int .i64 n ∧ wr = w9) (fun i _ => PL.length - (intOf i).toNat)
                    case atStart => exact ⟨0, Nat.zero_le _, rfl, rfl⟩
                    case round =>
                      obtain ⟨n, hn, rfl, rfl⟩ := hrel
                      by_cases hnl : n < PL.length
                      · obtain ⟨bn, on, rfl, g1⟩ := (ints_at hV9).2 n hnl
                        have hin := HALL.out _ (List.getElem_mem hnl)
                        generalize PL[n] = y at g1 hin
                        have HI : Hid _ := hin
                        clear hin
                        have lg := cell_lt g1
                        go_wp2_with (go_at_call 10; refine (refIn_any p3 c3 l y _ hV9l (by omega)).mono ?_; rintro e w4 ⟨rfl, rfl⟩; rw [HI.out])
                        go_roundw
                        case rel => exact ⟨n + 1, by omega, by go_num, trivial⟩
                        case measure => simp [intOf]; omega
                      · go_wp2
                        go_roundw
                        case rel => exact ⟨m + 1, by omega, by go_num, Below.thru hbm C3 (Nat.le_refl _)⟩
                        case measure => simp [intOf]; omega
                  · have hs' : ¬ (0 : Int) < (S : Int) := by omega
                    go_wp2
                    go_ret
                    exact ⟨rfl, Bm⟩
                · have hml' : ¬ (m : Int) < (ts.length : Int) := by omega
                  go_wp2
                  go_ret
                  exact ⟨rfl, Bm⟩
    · have he := ofZ_err herr
      have hz0 : ((ofZ xs ts).2 != 0) = true := by simp [herr]
      generalize ofZ xs ts = z at *
      rw [he] at hA
      have HA : Hid _ := hA
      clear hA he
      go_enter Tryd.func5, Tryd.ntmps5
      go_wp2_with (first
        | (go_at_call 7; clear F1; refine (shown9_any _ (T.below hb1)).mono ?_; rintro e w1 ⟨rfl, hb2⟩; have B1 := Below.thru hb1 hb2 (Nat.le_refl _); have kk := k1.keep hb2; have x0 : w1.cell? ⟨w.heap.size, 0, none⟩ = some (.slice pi xs.length ci) := kk.cell 0; have x1 : w1.cell? ⟨w.heap.size, 1, none⟩ = some (.slice pt ts.length ct) := kk.cell 1; have lx := cell_lt x0; have F2 := trivial)
        | (go_at_call 12; clear F2; refine (HF.out _ B1).mono ?_; rintro e w2 ⟨rfl, hb3⟩; rw [HW.out]; have B2 := Below.thru B1 hb3 (Nat.le_refl _); replace x0 := cell_keep x0 hb3; replace x1 := cell_keep x1 hb3; replace lx := cell_lt x0; have F3 := trivial)
        | (go_at_call 13; clear F3; refine (HA.out _ B2).mono ?_; rintro e w3 ⟨u3, rfl, hU3, hb4⟩; obtain ⟨p3, c3, rfl⟩ := hU3.len; have B3 := Below.thru B2 hb4 (Nat.le_refl _)))
      go_ret
      exact ⟨rfl, B3⟩
end Go.Proofs.YtgaannoghefbbaaDoor
