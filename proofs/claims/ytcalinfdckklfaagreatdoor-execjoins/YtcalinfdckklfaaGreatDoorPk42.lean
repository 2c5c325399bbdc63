/- Contract of the document's Of. -/
import Derived.Test.YtcalinfdckklfaaGreatDoorPk40
import Derived.Test.YtcalinfdckklfaaGreatDoorPk41
namespace Go.Proofs.YtcalinfdckklfaaGreatDoor
open Go.RowKit
attribute [local go_sem] Ext.cell Ext.frozen

theorem ofZ_bad {xs : List Int} {ts : List (List Ins)} (h : (checkZ xs ts).2.2 ≠ 0) : ofZ xs ts = ([], (checkZ xs ts).2.2) := if_neg h
theorem ofZ_some {xs : List Int} {ts : List (List Ins)} {l : List Int} (h : (checkZ xs ts).2.2 = 0) (hl : closeN ts xs.length (storesTs ts) (putsN [] xs) = some l) : ofZ xs ts = (l, 0) := by unfold ofZ; rw [if_pos h, hl]
theorem ofZ_none {xs : List Int} {ts : List (List Ins)} (h : (checkZ xs ts).2.2 = 0) (hl : closeN ts xs.length (storesTs ts) (putsN [] xs) = none) : ofZ xs ts = ([], 3) := by unfold ofZ; rw [if_pos h, hl]
theorem foldl_next {ts : List (List Ins)} {k : Nat} {th : List Ins} {locs : Int} {l a : List Int} (h : ts.drop k = th :: ts.drop (k + 1)) :
    (ts.drop k).foldl (fun a th => putsN a (wroteT (tracesT th locs l))) a = (ts.drop (k + 1)).foldl (fun a th => putsN a (wroteT (tracesT th locs l))) (putsN a (wroteT (tracesT th locs l))) := by rw [h]; rfl

set_option maxRecDepth 20000 in
set_option maxHeartbeats 8000000 in
theorem refOf_any (pi pt : Option Addr) (ci ct : Nat) (xs : List Int) (ts : List (List Ins)) (w : World) (hi : Sl IntE w (.slice pi xs.length ci) xs) (ht : Sl ThrE w (.slice pt ts.length ct) ts) (hM : sizeTs ts ≤ 1000000) :
    Calls Tryz.prog 47 #[.agg #[.slice pi xs.length ci, .slice pt ts.length ct]] w fun e w' => ∃ u, e = .returned (.tuple #[u, .int .i64 (ofZ xs ts).2]) ∧ Sl IntE w' u (ofZ xs ts).1 ∧ Below w.heap.size w w' := by
  have hb1 := below_new w (.cells #[.slice pi xs.length ci, .slice pt ts.length ct] 63)
  have k1 : Blk (w.alloc (.cells #[.slice pi xs.length ci, .slice pt ts.length ct] 63)) w.heap.size #[.slice pi xs.length ci, .slice pt ts.length ct] 63 := Blk.new
  have hC := fun W (hB : Below w.heap.size w W) => refCheck_any pi pt ci ct xs ts W (hi.keep hB) (ht.keep hB) hM
  by_cases h0 : (checkZ xs ts).2.2 = 0
  · obtain ⟨f1, f2, f3, f4, f5, f6, f7, f8⟩ := check_facts h0
    obtain ⟨S, hS⟩ : ∃ S, storesTs ts = S := ⟨_, rfl⟩
    have hcnt : cntTs ts 0 0 = (((loadsTs ts : Nat) : Int), (S : Int)) := by rw [cntTs_is, hS, Int.zero_add, Int.zero_add]
    have hsome := fun l h => ofZ_some (l := l) h0 (xs := xs) (ts := ts) h
    have hnone := ofZ_none h0 (xs := xs) (ts := ts)
    rw [hS] at hsome hnone f6
    have hcz : (checkZ xs ts).2.2 = 0 := h0
    generalize checkZ xs ts = z at *
    have hzb : (z.2.2 != 0) = false := by simp [hcz]
    have hN := fun W (hB : Below w.heap.size w W) => refCount_any pi pt xs.length ci ct ts W (ht.keep hB) hM (by omega)
    rw [hcnt] at hN
    have HN : Hid _ := hN
    have HC : Hid _ := hC
    have HS : Hid _ := hsome
    have HO : Hid _ := hnone
    have H7 : Hid _ := f7
    clear hN hC hsome hnone f7 h0 hcz hcnt hS
    have F1 := trivial
    go_enter Tryz.func47, Tryz.ntmps47
    go_wp2_with (go_at_call 70; clear F1; refine (HC.out _ hb1).mono ?_; rintro e w2 ⟨rfl, hb2⟩; have B2 := Below.thru hb1 hb2 (Nat.le_refl _); have k2 := k1.keep hb2; clear hb2)
    go_loopw [7, 8] (fun a i wr => ∃ (k : Nat) (l : List Int), k ≤ xs.length ∧ i = .int .i64 k ∧ Sl IntE wr a l ∧ l.length ≤ k ∧ putsN l (xs.drop k) = putsN [] xs ∧ Below w2.heap.size w2 wr) (fun _ i _ => xs.length - (intOf i).toNat)
    case atStart => exact ⟨0, [], Nat.zero_le _, rfl, SlA.nil, Nat.le_refl _, rfl, Below.refl _ _⟩
    case round =>
      obtain ⟨k, l, hk, rfl, hL, hll, hF, hbr⟩ := hrel
      have HF : Hid _ := hF
      clear hF
      obtain ⟨pl, cl, rfl⟩ := hL.len
      have kr := k2.keep hbr
      have Br := Below.thru B2 hbr (Nat.le_refl _)
      have x0 : wr.cell? ⟨w.heap.size, 0, none⟩ = some (.slice pi xs.length ci) := kr.cell 0
      have x1 : wr.cell? ⟨w.heap.size, 1, none⟩ = some (.slice pt ts.length ct) := kr.cell 1
      have lx := cell_lt x0
      by_cases hlt : k < xs.length
      · obtain ⟨bi, oi, rfl, g1⟩ := (ints_at (hi.keep Br)).2 k hlt
        generalize hy : xs[k] = y at g1
        have HY : Hid (xs.drop k = y :: xs.drop (k + 1)) := by rw [← hy]; exact drop_at hlt
        clear hy
        have hPut := fun W (hb : Below wr.heap.size wr W) => refPutN_any pl cl l y W (hL.keep hb) (by omega)
        have HP : Hid _ := hPut
        clear hPut
        have F2 := trivial
        go_wp2_with (go_at_call 71; clear F2; refine (HP.out _ (Below.refl _ _)).mono ?_; rintro e w3 ⟨v3, rfl, hV3, hb3⟩)
        go_roundw
        case rel => exact ⟨k + 1, _, by omega, by go_num, hV3, by have := putN_len (n := y) (l := l); omega, by rw [← HF.out, HY.out]; rfl, Below.thru hbr hb3 (Nat.le_refl _)⟩
        case measure => simp [intOf]; omega
      · have e : putsN [] xs = l := by rw [← HF.out, List.drop_of_length_le (by omega)]; rfl
        have HE : Hid _ := e
        have hl3 : l.length ≤ 3 := by omega
        clear e HF hll
        have F2 := trivial
        go_wp2_with (go_at_call 72; clear F2; refine (HN.out _ Br).mono ?_; rintro e w3 ⟨rfl, hb3⟩)
        have B3 := Below.thru Br hb3 (Nat.le_refl _)
        have k3 := kr.keep hb3
        have hL3 := hL.keep hb3
        clear hb3 kr x0 x1 lx hL hbr Br B2 k2 hk hlt
        go_loopw [7, 11] (fun a i wr => ∃ (n : Nat) (l : List Int), n ≤ S ∧ i = .int .i64 n ∧ Sl IntE wr a l ∧ l.length ≤ 8 ∧ closeN ts xs.length (S - n) l = closeN ts xs.length S (putsN [] xs) ∧ Below w3.heap.size w3 wr) (fun _ i _ => S - (intOf i).toNat)
        case atStart => exact ⟨0, l, Nat.zero_le _, rfl, hL3, by omega, by rw [HE.out]; rfl, Below.refl _ _⟩
        case round =>
          clear hl3 HE
          obtain ⟨n, l, hn, rfl, hL, hl8, hF, hbr⟩ := hrel
          have HF : Hid _ := hF
          clear hF
          obtain ⟨pl, cl, rfl⟩ := hL.len
          have Br := Below.thru B3 hbr (Nat.le_refl _)
          have kr := k3.keep hbr
          have x0 : wr.cell? ⟨w.heap.size, 0, none⟩ = some (.slice pi xs.length ci) := kr.cell 0
          have x1 : wr.cell? ⟨w.heap.size, 1, none⟩ = some (.slice pt ts.length ct) := kr.cell 1
          have lx := cell_lt x0
          by_cases hlt : n < S
          · go_wp2
            obtain ⟨w5, rfl⟩ : ∃ x : World, x = wr := ⟨_, rfl⟩
            go_loopw [12, 13] (fun a i wr => ∃ (j : Nat) (u : List Int), j ≤ ts.length ∧ i = .int .i64 j ∧ Sl IntE wr a u ∧ u.length ≤ 8 + 8 * sum16 (ts.take j) ∧ (ts.drop j).foldl (fun a th => putsN a (wroteT (tracesT th xs.length l))) u = nextN ts xs.length l ∧ Below w5.heap.size w5 wr) (fun _ i _ => ts.length - (intOf i).toNat)
            case atStart => exact ⟨0, l, Nat.zero_le _, rfl, hL, by omega, rfl, Below.refl _ _⟩
            case round =>
              obtain ⟨j, u, hj, rfl, hU, hul, hG, hbi⟩ := hrel
              have HG : Hid _ := hG
              clear hG
              obtain ⟨pu, cu, rfl⟩ := hU.len
              have Bi := Below.thru Br hbi (Nat.le_refl _)
              have ki := kr.keep hbi
              have y0 := cell_keep x0 hbi
              have y1 := cell_keep x1 hbi
              have ly := cell_lt y0
              have hs16 : sum16 (ts.take j) ≤ sum16 ts := sum16_part
              by_cases hjl : j < ts.length
              · obtain ⟨tb, to, rfl, t0, ht0, hT0⟩ := (thr_at (ht.keep Bi)).2 j hjl
                have h8t := H7.out _ (List.getElem_mem hjl)
                have hst := sum16_take (List.getElem?_eq_getElem hjl)
                have hsp : sum16 (ts.take (j + 1)) ≤ sum16 ts := sum16_part
                generalize hy : ts[j] = th at ht0 hT0 h8t hst
                have HY : Hid (ts.drop j = th :: ts.drop (j + 1)) := by rw [← hy]; exact drop_at hjl
                clear hy
                obtain ⟨pth, cth, rfl⟩ := hT0.len
                have lt0 := cell_lt ht0
                have hlt' : (j : Int) < (ts.length : Int) := by omega
                have hTr := fun W (hB : Below wr.heap.size wr W) => refTraces_any pth pl cth cl th xs.length l W hl8 (by omega) (hT0.keep hB) ((hL.keep hbi).keep hB)
                have HT : Hid _ := hTr
                have hlen : (tracesT th xs.length l).length ≤ 16 ^ loadsN th := tracesT_len hl8
                have hevs : ∀ s ∈ tracesT th xs.length l, s.evs.length ≤ 8 := fun s hs => tracesT_evs hs
                have HV : Hid _ := hevs
                clear hTr hevs
                have hne : ∀ w, Nonempty (Ext w) := ext_some
                go_wp2
                refine wp_region_mix [([0, 1, 2, 3, 4, 5, 6, 7, 8, 9], 10), ([], 11)] [12] (by kernel_rfl) (by kernel_rfl) (fun _ _ d _ _ h => by cases d <;> exact h) ?_
                dsimp only [List.map, opAt]
                have C1 : Below wr.heap.size wr wr.drew := Below.drew (Below.refl _ _)
                refine wpMix_stage ?_
                repeat (go_big_quiet_step (fail))
                refine wpQuiet_nil ?_
                go_wp2_with (go_at_call 48; refine (HT.out _ C1).mono ?_; rintro e w6 ⟨v6, rfl, hV6, hb6⟩)
                have C2 : Below wr.heap.size wr w6 := Below.thru C1 hb6 (Nat.le_refl _)
                refine ⟨C2, ?_⟩
                refine wpMix_stage ?_
                refine wpQuiet_nil ?_
                obtain ⟨p6, c6, rfl⟩ := hV6.len
                have hWr := fun W (hB : Below w6.heap.size w6 W) => refWrote_any pu p6 cu c6 u (tracesT th xs.length l) W ((hU.keep C2).keep hB) (hV6.any.keep hB) HV.out (by omega)
                have hwl : (putsN u (wroteT (tracesT th xs.length l))).length ≤ u.length + (tracesT th xs.length l).length * 8 := Nat.le_trans putsN_len (Nat.add_le_add_left (wroteT_len HV.out) _)
                generalize hTT : tracesT th xs.length l = TT at *
                have HTT : Hid _ := hTT
                have HW : Hid _ := hWr
                clear hWr hTT
                go_wp2_with (go_at_call 73; refine (HW.out _ (Below.refl _ _)).mono ?_; rintro e w7 ⟨v7, rfl, hV7, hb7⟩)
                have C3 : Below wr.heap.size wr w7 := Below.thru C2 hb7 (Nat.le_refl _)
                refine ⟨C3, ?_⟩
                refine wpMix_last ?_
                repeat (go_big_quiet_step (fail))
                refine wpQuiet_nil ?_
                go_wp2
                go_roundw
                case rel => exact ⟨j + 1, _, by omega, by go_num, hV7, by rw [hst]; omega, by rw [← HG.out, foldl_next HY.out, HTT.out], Below.thru hbi C3 (Nat.le_refl _)⟩
                case measure => simp [intOf]; omega
              · have e : nextN ts xs.length l = u := by rw [← HG.out, List.drop_of_length_le (by omega)]; rfl
                have hstep : closeN ts xs.length (S - n) l = if 8 < u.length then none else closeN ts xs.length (S - (n + 1)) u := by
                  rw [show S - n = (S - (n + 1)) + 1 by omega, closeN, e]
                have HE : Hid _ := hstep
                clear e hstep HG
                by_cases h8 : 8 < u.length
                · have h8' : (8 : Int) < (u.length : Int) := by omega
                  go_wp2
                  go_ret2
                  have hz := HO.out (by rw [← HF.out, HE.out, if_pos h8])
                  exact ⟨.slice none 0 0, by rw [hz]; rfl, by rw [hz]; exact SlA.nil, Bi⟩
                · have h8' : ¬ (8 : Int) < (u.length : Int) := by omega
                  go_wp2
                  go_roundw
                  case rel => exact ⟨n + 1, u, by omega, by go_num, hU, by omega, by rw [← HF.out, HE.out, if_neg h8], Below.thru hbr hbi (Nat.le_refl _)⟩
                  case measure => simp [intOf]; omega
          · go_wp2
            go_ret2
            have hz := HS.out l (by rw [← HF.out, show S - n = 0 by omega]; rfl)
            exact ⟨.slice pl l.length cl, by rw [hz]; rfl, by rw [hz]; exact hL, Br⟩
  · have hz := ofZ_bad h0
    generalize checkZ xs ts = z at *
    have hzb : (z.2.2 != 0) = true := by simp [h0]
    have HZ : Hid _ := hz
    have HC : Hid _ := hC
    clear hz hC
    go_enter Tryz.func47, Tryz.ntmps47
    go_wp2_with (go_at_call 70; refine (HC.out _ hb1).mono ?_; rintro e w2 ⟨rfl, hb2⟩)
    go_ret2
    exact ⟨.slice none 0 0, by rw [HZ.out]; rfl, by rw [HZ.out]; exact SlA.nil, Below.thru hb1 hb2 (Nat.le_refl _)⟩
end Go.Proofs.YtcalinfdckklfaaGreatDoor
