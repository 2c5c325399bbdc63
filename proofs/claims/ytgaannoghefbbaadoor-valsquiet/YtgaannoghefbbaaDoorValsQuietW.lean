/- ValsQuiet, walked: it answers true. -/
import Derived.Test.YtgaannoghefbbaaDoorValsClosedW
namespace Go.Proofs.YtgaannoghefbbaaDoor
open Go.RowKit
attribute [local go_sem] Ext.cell Ext.frozen

/-- What is there at first, and what is stored where nobody loads. -/
def wantN (ts : List (List Ins)) (locs : Int) (a : List Int) : List Int := ts.foldl (fun a th => putsN a (putsN [] (wroteT (tracesT th locs [])))) a
theorem mem_want {locs : Int} {x : Int} : ∀ {ts : List (List Ins)} {a : List Int}, x ∈ wantN ts locs a ↔ x ∈ a ∨ ∃ th ∈ ts, x ∈ wroteT (tracesT th locs [])
  | [], a => by simp [wantN]
  | t :: ts, a => by
    show x ∈ wantN ts locs (putsN a (putsN [] (wroteT (tracesT t locs [])))) ↔ _
    rw [mem_want, mem_putsN, mem_putsN]
    constructor
    · rintro ((h | h) | h)
      · rcases h with h | h
        · exact .inr ⟨t, by simp, h⟩
        · simp at h
      · exact .inl h
      · obtain ⟨th, h1, h2⟩ := h
        exact .inr ⟨th, by simp [h1], h2⟩
    · rintro (h | ⟨th, h1, h2⟩)
      · exact .inl (.inr h)
      · rcases List.mem_cons.1 h1 with rfl | h1
        · exact .inl (.inl (.inl h2))
        · exact .inr ⟨th, h1, h2⟩
theorem up_want {locs : Int} : ∀ {ts : List (List Ins)} {a : List Int}, Up a → Up (wantN ts locs a)
  | [], _, h => h
  | _ :: ts, _, h => up_want (ts := ts) (up_putsN h)
/-- Where nobody stores. -/
theorem ofZ_still {xs : List Int} {ts : List (List Ins)} (h0 : (checkZ xs ts).2.2 = 0) (hs : storesTs ts = 0) : ofZ xs ts = (putsN [] xs, 0) := ofP_some h0 (by rw [hs]; rfl)
/-- Where nobody loads. -/
theorem ofZ_quiet {xs : List Int} {ts : List (List Ins)} (hl : loadsTs ts = 0) (hs : storesTs ts ≠ 0) (he : (ofZ xs ts).2 = 0) : (ofZ xs ts).1 = wantN ts xs.length (putsN [] xs) := by
  obtain ⟨h0, hc⟩ := ofZ_ok he
  have hn : ∀ th ∈ ts, loadsN th = 0 := fun th h => by have := loadsTs_mem h; omega
  have hup : Up (putsN [] xs) := up_putsN (by simp [Up])
  obtain ⟨n, hn1⟩ : ∃ n, storesTs ts = n + 1 := ⟨storesTs ts - 1, by omega⟩
  rw [hn1, closeN] at hc
  split at hc
  · cases hc
  · rename_i h8
    rw [closeN_same (by omega) (nextN_noload hup hn)] at hc
    simp only [Option.some.injEq] at hc
    rw [← hc]
    refine up_ext (up_nextN hup) (up_want hup) fun x => ?_
    rw [nextN_is, mem_putsN, mem_want, List.mem_flatMap, Or.comm]
    constructor
    · rintro (h | ⟨th, h1, h2⟩)
      · exact .inl h
      · exact .inr ⟨th, h1, by rw [tracesT_noload (m := putsN [] xs) (hn th h1)]; exact h2⟩
    · rintro (h | ⟨th, h1, h2⟩)
      · exact .inl h
      · exact .inr ⟨th, h1, by rw [tracesT_noload (m := []) (hn th h1)]; exact h2⟩

set_option maxRecDepth 20000 in
set_option maxHeartbeats 8000000 in
theorem ValsQuiet_true (pi pt : Option Addr) (ci ct : Nat) (xs : List Int) (ts : List (List Ins)) (w : World) (T : FEnv w) (hi : Sl IntE w (.slice pi xs.length ci) xs) (ht : Sl ThrE w (.slice pt ts.length ct) ts) (hz : ∀ x ∈ xs, InZ x) :
    Calls Tryd.prog 6 #[.agg #[.slice pi xs.length ci, .slice pt ts.length ct]] w fun e w' => e = .returned (.bool true) ∧ Below w.heap.size w w' := by
  have hb1 := below_new w (.cells #[.slice pi xs.length ci, .slice pt ts.length ct] 48)
  have k1 : Blk (w.alloc (.cells #[.slice pi xs.length ci, .slice pt ts.length ct] 48)) w.heap.size #[.slice pi xs.length ci, .slice pt ts.length ct] 48 := Blk.new
  have hC := fun W (hB : Below w.heap.size w W) => refCheckF_any pi pt ci ct xs ts W (hi.keep hB) (ht.keep hB)
  have F1 := trivial
  by_cases h0 : (checkZ xs ts).2.2 = 0
  · obtain ⟨f1, f2, f3, f4, f5, f6, f7, f8⟩ := check_facts h0
    have hM : sizeTs ts ≤ 24 := by have := size_le f7; omega
    have hA := fun W (hB : Below w.heap.size w W) => Of_any pi pt ci ct xs ts W (T.below hB) (hi.keep hB) (ht.keep hB) (by omega) hz
    have hcnt : cntTs ts 0 0 = (((loadsTs ts : Nat) : Int), ((storesTs ts : Nat) : Int)) := by rw [cntTs_is, Int.zero_add, Int.zero_add]
    have hN := fun W (hB : Below w.heap.size w W) => refCount_any pi pt xs.length ci ct ts W (ht.keep hB) (by omega) (by omega)
    rw [hcnt] at hN
    have hz8 : (ofZ xs ts).1.length ≤ 8 := ofZ_len
    have hstill := fun h => ofZ_still h0 (xs := xs) (ts := ts) h
    have hquiet := fun a b c => ofZ_quiet (xs := xs) (ts := ts) a b c
    have hTh := fun (q : Option Addr) (d : Nat) (th : List Ins) (h : th.length ≤ 8) W (hB : Below w.heap.size w W) (hT : Sl InsE W (.slice q th.length d) th) => Traces_any q none d 0 th xs.length [] W (T.below hB) (by decide) (by omega) hT SlA.nil
    generalize ofZ xs ts = z at *
    have hzb : ((checkZ xs ts).2.2 != 0) = false := by simp [h0]
    generalize checkZ xs ts = zc at *
    have HC : Hid _ := hC
    have HA : Hid _ := hA
    have HN : Hid _ := hN
    have HST : Hid _ := hstill
    have HQ : Hid _ := hquiet
    have HTH : Hid _ := hTh
    have H7 : Hid _ := f7
    clear hC hA hN hstill hquiet hTh f7 h0 hcnt hM f3
    go_enter Tryd.func6, Tryd.ntmps6
    go_wp2_with (first
      | (go_at_call 7; clear F1; refine (shown9_any _ (T.below hb1)).mono ?_; rintro e w1 ⟨rfl, hb2⟩; have B1 := Below.thru hb1 hb2 (Nat.le_refl _); have kk := k1.keep hb2; have x0 : w1.cell? ⟨w.heap.size, 0, none⟩ = some (.slice pi xs.length ci) := kk.cell 0; have x1 : w1.cell? ⟨w.heap.size, 1, none⟩ = some (.slice pt ts.length ct) := kk.cell 1; have lx := cell_lt x0; clear kk; have F2 := trivial)
      | (go_at_call 15; clear F2; refine (HC.out _ B1).mono ?_; rintro e w2 ⟨rfl, hb3⟩; have B2 := Below.thru B1 hb3 (Nat.le_refl _); replace x0 := cell_keep x0 hb3; replace x1 := cell_keep x1 hb3; replace lx := cell_lt x0; have F3 := trivial)
      | (go_at_call 14; clear F3; refine (HN.out _ B2).mono ?_; rintro e w3 ⟨rfl, hb4⟩; have B3 := Below.thru B2 hb4 (Nat.le_refl _); replace x0 := cell_keep x0 hb4; replace x1 := cell_keep x1 hb4; replace lx := cell_lt x0; have F4 := trivial)
      | (go_at_call 13; clear F4; refine (HA.out _ B3).mono ?_; rintro e w4 ⟨u4, rfl, hU4, hb5⟩; obtain ⟨p4, c4, rfl⟩ := hU4.len; have B4 := Below.thru B3 hb5 (Nat.le_refl _); replace x0 := cell_keep x0 hb5; replace x1 := cell_keep x1 hb5; replace lx := cell_lt x0; have F5 := trivial))
    go_loopw [11, 12] (fun a i wr => ∃ (k : Nat) (l : List Int), k ≤ xs.length ∧ i = .int .i64 k ∧ Sl IntE wr a l ∧ l.length ≤ k ∧ putsN l (xs.drop k) = putsN [] xs ∧ Below w4.heap.size w4 wr) (fun _ i _ => xs.length - (intOf i).toNat)
    case atStart => exact ⟨0, [], Nat.zero_le _, rfl, SlA.nil, Nat.le_refl _, rfl, Below.refl _ _⟩
    case round =>
      obtain ⟨k, l, hk, rfl, hL, hll, hF, hbr⟩ := hrel
      have HF : Hid _ := hF
      clear hF
      obtain ⟨pl, cl, rfl⟩ := hL.len
      have Br := Below.thru B4 hbr (Nat.le_refl _)
      have y0 := cell_keep x0 hbr
      have y1 := cell_keep x1 hbr
      have ly := cell_lt y0
      by_cases hlt : k < xs.length
      · obtain ⟨bi, oi, rfl, g1⟩ := (ints_at (hi.keep Br)).2 k hlt
        generalize hy : xs[k] = y at g1
        have HY : Hid (xs.drop k = y :: xs.drop (k + 1)) := by rw [← hy]; exact drop_at hlt
        clear hy
        have hPut := fun W (hb : Below wr.heap.size wr W) => refPutN_any pl cl l y W (hL.keep hb) (by omega)
        have HP : Hid _ := hPut
        clear hPut
        have F6 := trivial
        go_wp2_with (go_at_call 16; clear F6; refine (HP.out _ (Below.refl _ _)).mono ?_; rintro e w5 ⟨v5, rfl, hV5, hb6⟩)
        go_roundw
        case rel => exact ⟨k + 1, _, by omega, by go_num, hV5, by have := putN_len (n := y) (l := l); omega, by rw [← HF.out, HY.out]; rfl, Below.thru hbr hb6 (Nat.le_refl _)⟩
        case measure => simp [intOf]; omega
      · have e : putsN [] xs = l := by rw [← HF.out, List.drop_of_length_le (by omega)]; rfl
        have hl3 : l.length ≤ 3 := by omega
        have hUr := hU4.keep hbr
        by_cases hs : storesTs ts = 0
        · have hz := HST.out hs
          rw [e] at hz
          subst hz
          have hsb : (((storesTs ts : Nat) : Int) == 0) = true := by simp [hs]
          have hnum := fun W (hb : Below wr.heap.size wr W) => Nums_any p4 pl c4 cl l l W (hUr.keep hb) (hL.keep hb) (by omega)
          have HNU : Hid _ := hnum
          clear hnum e HF hs HST
          have F6 := trivial
          go_wp2_with (go_at_call 17; clear F6; refine (HNU.out _ (Below.refl _ _)).mono ?_; rintro e w7 ⟨rfl, nd, rfl⟩)
          go_ret
          exact ⟨rfl, below_drewN nd Br⟩
        · have hsb : (((storesTs ts : Nat) : Int) == 0) = false := by simp [hs]
          have hfin : loadsTs ts = 0 → z.2 = 0 → z.1 = wantN ts xs.length l := fun a b => by rw [← e]; exact HQ.out a hs b
          have HFN : Hid _ := hfin
          clear hfin e HF HQ HST hs
          go_wp2
          clear hlt hk
          obtain ⟨w5, hw5⟩ : ∃ x : World, x = wr := ⟨_, rfl⟩
          subst hw5
          go_loopw [11, 13] (fun a i wr => ∃ (m : Nat) (u : List Int), m ≤ ts.length ∧ i = .int .i64 m ∧ Sl IntE wr a u ∧ u.length ≤ 3 + 8 * sum16 (ts.take m) ∧ wantN (ts.drop m) xs.length u = wantN ts xs.length l ∧ Below w5.heap.size w5 wr) (fun _ i _ => ts.length - (intOf i).toNat)
          case atStart => exact ⟨0, l, Nat.zero_le _, rfl, hL, by omega, rfl, Below.refl _ _⟩
          case round =>
            obtain ⟨m, u, hm, rfl, hU, hul, hG, hbm⟩ := hrel
            have HG : Hid _ := hG
            clear hG
            obtain ⟨pu, cu, rfl⟩ := hU.len
            have Bm := Below.thru Br hbm (Nat.le_refl _)
            have q0 := cell_keep y0 hbm
            have q1 := cell_keep y1 hbm
            have lq := cell_lt q0
            have hUm := hUr.keep hbm
            by_cases hml : m < ts.length
            · have hml' : (m : Int) < (ts.length : Int) := by omega
              obtain ⟨tb, to, rfl, t0, ht0, hT0⟩ := (thr_at (ht.keep Bm)).2 m hml
              have h8t := H7.out _ (List.getElem_mem hml)
              have hst := sum16_take (List.getElem?_eq_getElem hml)
              have hsp : sum16 (ts.take (m + 1)) ≤ sum16 ts := sum16_part
              generalize hy : ts[m] = th at ht0 hT0 h8t hst
              have HY : Hid (ts.drop m = th :: ts.drop (m + 1)) := by rw [← hy]; exact drop_at hml
              clear hy
              obtain ⟨pth, cth, rfl⟩ := hT0.len
              have lt0 := cell_lt ht0
              have hlen : (tracesT th xs.length []).length ≤ 16 ^ loadsN th := tracesT_len (by decide)
              have hlen4 : (tracesT th xs.length []).length ≤ 65536 := tracesT_len4 (by decide)
              have hTr := fun W (hB : Below wr.heap.size wr W) => HTH.out pth cth th h8t W (Below.thru Bm hB (Nat.le_refl _)) (hT0.keep hB)
              have hevs : ∀ s ∈ tracesT th xs.length [], s.evs.length ≤ 8 := fun s hs => tracesT_evs hs
              have hstep : wantN (ts.drop m) xs.length u = wantN (ts.drop (m + 1)) xs.length (putsN u (putsN [] (wroteT (tracesT th xs.length [])))) := by rw [HY.out]; rfl
              have hwf : ∀ x ∈ wroteT (tracesT th xs.length []), InZ x := wrote_wf (fun _ h => by simp at h)
              generalize tracesT th xs.length [] = L at *
              have HWF : Hid _ := hwf
              clear hwf
              have HV : Hid _ := hevs
              have HT : Hid _ := hTr
              have HSTEP : Hid _ := hstep
              clear hevs hTr hstep
              have hne : ∀ w, Nonempty (Ext w) := ext_some
              go_wp2
              refine wp_region_mix [([0, 1, 2, 3, 4, 5, 6, 7], 8), ([], 9)] [10] (by kernel_rfl) (by kernel_rfl) (fun _ _ d _ _ h => by cases d <;> exact h) ?_
              dsimp only [List.map, opAt]
              have C1 : Below wr.heap.size wr wr.drew := Below.drew (Below.refl _ _)
              refine wpMix_stage ?_
              repeat (go_big_quiet_step (fail))
              refine wpQuiet_nil ?_
              go_wp2_with (go_at_call 8; refine (HT.out _ C1).mono ?_; rintro e w8 ⟨v8, rfl, hV8, hb8⟩)
              have C2 : Below wr.heap.size wr w8 := Below.thru C1 hb8 (Nat.le_refl _)
              refine ⟨C2, ?_⟩
              refine wpMix_stage ?_
              refine wpQuiet_nil ?_
              obtain ⟨p8, c8, rfl⟩ := hV8.len
              have hWr := fun W (hB : Below w8.heap.size w8 W) => Wrote_any p8 c8 L W (hV8.keep hB) HV.out (by omega) HWF.out
              have hpl : (putsN [] (wroteT L)).length ≤ 8 * 16 ^ loadsN th := by
                have h1 : (putsN [] (wroteT L)).length ≤ _ := putsN_len
                have h2 := wroteT_len HV.out
                simp only [List.length_nil] at h1
                omega
              generalize putsN [] (wroteT L) = PL at *
              have HWR : Hid _ := hWr
              clear hWr
              go_wp2_with (go_at_call 11; refine (HWR.out _ (Below.refl _ _)).mono ?_; rintro e w9 ⟨v9, rfl, hV9, hb9⟩)
              have C3 : Below wr.heap.size wr w9 := Below.thru C2 hb9 (Nat.le_refl _)
              refine ⟨C3, ?_⟩
              refine wpMix_last ?_
              repeat (go_big_quiet_step (fail))
              refine wpQuiet_nil ?_
              obtain ⟨p9, c9, rfl⟩ := hV9.len
              have hU9 := hU.keep C3
              go_wp2
              obtain ⟨wo, hwo⟩ : ∃ x : World, x = wr := ⟨_, rfl⟩
              subst hwo
              go_loopw [11, 15] (fun a i wr => ∃ (n : Nat) (v : List Int), n ≤ PL.length ∧ i = .int .i64 n ∧ Sl IntE wr a v ∧ v.length ≤ u.length + n ∧ putsN v (PL.drop n) = putsN u PL ∧ Below w9.heap.size w9 wr) (fun _ i _ => PL.length - (intOf i).toNat)
              case atStart => exact ⟨0, u, Nat.zero_le _, rfl, hU9, Nat.le_refl _, rfl, Below.refl _ _⟩
              case round =>
                obtain ⟨n, v, hn, rfl, hV, hvl, hJ, hbn⟩ := hrel
                have HJ : Hid _ := hJ
                clear hJ
                obtain ⟨pv, cv, rfl⟩ := hV.len
                by_cases hnl : n < PL.length
                · obtain ⟨bn, on, rfl, g1⟩ := (ints_at (hV9.keep hbn)).2 n hnl
                  generalize hy : PL[n] = y at g1
                  have HY2 : Hid (PL.drop n = y :: PL.drop (n + 1)) := by rw [← hy]; exact drop_at hnl
                  clear hy
                  have lg := cell_lt g1
                  have hPut := fun W (hb : Below wr.heap.size wr W) => refPutN_any pv cv v y W (hV.keep hb) (by omega)
                  have HP : Hid _ := hPut
                  clear hPut
                  have F7 := trivial
                  go_wp2_with (go_at_call 16; clear F7; refine (HP.out _ (Below.refl _ _)).mono ?_; rintro e wz ⟨vz, rfl, hVz, hbz⟩)
                  go_roundw
                  case rel => exact ⟨n + 1, _, by omega, by go_num, hVz, by have := putN_len (n := y) (l := v); omega, by rw [← HJ.out, HY2.out]; rfl, Below.thru hbn hbz (Nat.le_refl _)⟩
                  case measure => simp [intOf]; omega
                · have e2 : putsN u PL = v := by rw [← HJ.out, List.drop_of_length_le (by omega)]; rfl
                  have HE2 : Hid _ := e2
                  clear e2
                  go_wp2
                  go_roundw
                  case rel => exact ⟨m + 1, v, by omega, by go_num, hV, by omega, by rw [← HG.out, HSTEP.out, HE2.out], Below.thru hbm (Below.thru C3 hbn (Nat.le_refl _)) (Nat.le_refl _)⟩
                  case measure => simp [intOf]; omega
            · have e3 : wantN ts xs.length l = u := by rw [← HG.out, List.drop_of_length_le (by omega)]; rfl
              by_cases hld : loadsTs ts = 0
              · have hld' : ¬ (0 : Int) < ((loadsTs ts : Nat) : Int) := by omega
                by_cases herr : z.2 = 0
                · have hzz := HFN.out hld herr
                  rw [e3] at hzz
                  subst hzz
                  have heb : (z.2 != 0) = false := by simp [herr]
                  have hnum := fun W (hb : Below wr.heap.size wr W) => Nums_any p4 pu c4 cu z.1 z.1 W (hUm.keep hb) (hU.keep hb) (by omega)
                  have HNU : Hid _ := hnum
                  clear hnum e3 HG hld herr HFN
                  have F8 := trivial
                  go_wp2_with (go_at_call 17; clear F8; refine (HNU.out _ (Below.refl _ _)).mono ?_; rintro e w7 ⟨rfl, nd, rfl⟩)
                  go_ret
                  exact ⟨rfl, below_drewN nd Bm⟩
                · have heb : (z.2 != 0) = true := by simp [herr]
                  clear e3 HG hld herr HFN
                  go_wp2
                  go_ret
                  exact ⟨rfl, Bm⟩
              · have hld' : (0 : Int) < ((loadsTs ts : Nat) : Int) := by omega
                clear e3 HG hld HFN
                go_wp2
                go_ret
                exact ⟨rfl, Bm⟩
  · have hzb : ((checkZ xs ts).2.2 != 0) = true := by simp [h0]
    generalize checkZ xs ts = zc at *
    have HC : Hid _ := hC
    clear hC h0
    go_enter Tryd.func6, Tryd.ntmps6
    go_wp2_with (first
      | (go_at_call 7; clear F1; refine (shown9_any _ (T.below hb1)).mono ?_; rintro e w1 ⟨rfl, hb2⟩; have B1 := Below.thru hb1 hb2 (Nat.le_refl _); have kk := k1.keep hb2; have x0 : w1.cell? ⟨w.heap.size, 0, none⟩ = some (.slice pi xs.length ci) := kk.cell 0; have x1 : w1.cell? ⟨w.heap.size, 1, none⟩ = some (.slice pt ts.length ct) := kk.cell 1; have lx := cell_lt x0; have F2 := trivial)
      | (go_at_call 15; clear F2; refine (HC.out _ B1).mono ?_; rintro e w2 ⟨rfl, hb3⟩; have B2 := Below.thru B1 hb3 (Nat.le_refl _)))
    go_ret
    exact ⟨rfl, B2⟩
end Go.Proofs.YtgaannoghefbbaaDoor
