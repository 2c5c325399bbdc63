/- Contract of vals.Of. -/
import Derived.Test.YtgaannoghefbbaaDoorValsFurther
import Derived.Test.YtgaannoghefbbaaDoorTestCheck
namespace Go.Proofs.YtgaannoghefbbaaDoor
open Go.RowKit
attribute [local go_sem] Ext.cell Ext.frozen

theorem ofP_bad {xs : List Int} {ts : List (List Ins)} (h : (checkZ xs ts).2.2 ≠ 0) : ofZ xs ts = ([], (checkZ xs ts).2.2) := if_neg h
theorem ofP_some {xs : List Int} {ts : List (List Ins)} {l : List Int} (h : (checkZ xs ts).2.2 = 0) (hl : closeN ts xs.length (storesTs ts) (putsN [] xs) = some l) : ofZ xs ts = (l, 0) := by unfold ofZ; rw [if_pos h, hl]
theorem ofP_none {xs : List Int} {ts : List (List Ins)} (h : (checkZ xs ts).2.2 = 0) (hl : closeN ts xs.length (storesTs ts) (putsN [] xs) = none) : ofZ xs ts = ([], 3) := by unfold ofZ; rw [if_pos h, hl]

set_option maxRecDepth 20000 in
set_option maxHeartbeats 8000000 in
theorem Of_new (pi pt : Option Addr) (ci ct : Nat) (xs : List Int) (ts : List (List Ins)) (w : World) (T : FEnv w) (hi : Sl IntE w (.slice pi xs.length ci) xs) (ht : Sl ThrE w (.slice pt ts.length ct) ts) (hM : sizeTs ts ≤ 1000000) (hz : ∀ x ∈ xs, InZ x) :
    Calls Tryd.prog 13 #[.agg #[.slice pi xs.length ci, .slice pt ts.length ct]] w fun e w' => ∃ u, e = .returned (.tuple #[u, .int .i64 (ofZ xs ts).2]) ∧ Sl IntE w' u (ofZ xs ts).1 ∧ Below w.heap.size w w' := by
  have hb1 := below_new w (.cells #[.slice pi xs.length ci, .slice pt ts.length ct] 48)
  have k1 : Blk (w.alloc (.cells #[.slice pi xs.length ci, .slice pt ts.length ct] 48)) w.heap.size #[.slice pi xs.length ci, .slice pt ts.length ct] 48 := Blk.new
  have hC := fun W (hB : Below w.heap.size w W) => Check_any pi pt ci ct xs ts W (T.tab.below hB) (hi.keep hB) (ht.keep hB) hM
  by_cases h0 : (checkZ xs ts).2.2 = 0
  · obtain ⟨f1, f2, f3, f4, f5, f6, f7, f8⟩ := check_facts h0
    obtain ⟨S, hS⟩ : ∃ S, storesTs ts = S := ⟨_, rfl⟩
    have hcnt : cntTs ts 0 0 = (((loadsTs ts : Nat) : Int), (S : Int)) := by rw [cntTs_is, hS, Int.zero_add, Int.zero_add]
    have hsome := fun l h => ofP_some (l := l) h0 (xs := xs) (ts := ts) h
    have hnone := ofP_none h0 (xs := xs) (ts := ts)
    rw [hS] at hsome hnone f6
    have hcz : (checkZ xs ts).2.2 = 0 := h0
    generalize checkZ xs ts = z at *
    have hzb : (z.2.2 != 0) = false := by simp [hcz]
    have hN := fun W (hB : Below w.heap.size w W) => Count_any pi pt xs.length ci ct ts W (T.tab.below hB) (ht.keep hB) hM (by omega)
    rw [hcnt] at hN
    have hup : Up (putsN [] xs) := up_putsN (by simp [Up])
    have hwf : ∀ x ∈ putsN [] xs, InZ x := putsN_wf (fun _ h => by simp at h) hz
    have hl3 : (putsN [] xs).length ≤ 3 := by have h1 : (putsN [] xs).length ≤ _ := putsN_len; simp only [List.length_nil] at h1; omega
    have hRi := fun (b : Nat) W (h : Sl (SlE IntE) W (.slice (some ⟨b, 0, none⟩) 1 1) [xs]) => rising_one b 1 xs W h hz (by omega)
    have hclose : closeN ts xs.length S (putsN [] xs) = closeN ts xs.length (S - 0) (putsN [] xs) := rfl
    have hFu := fun (pl : Option Addr) (cl : Nat) (l : List Int) W (hB : Below w.heap.size w W) (hl : Sl IntE W (.slice pl l.length cl) l) (hl8 : l.length ≤ 8) (hz : ∀ x ∈ l, InZ x) (hup : Up l) => further_any pi pt pl ci ct cl xs ts l W (T.below hB) (hi.keep hB) (ht.keep hB) hl hl8 hz hup f7 f8 (by omega)
    have HN : Hid _ := hN
    have HC : Hid _ := hC
    have HS : Hid _ := hsome
    have HO : Hid _ := hnone
    have HUP : Hid _ := hup
    have HWF : Hid _ := hwf
    have HRI : Hid _ := hRi
    have HFU : Hid _ := hFu
    have HCL : Hid _ := hclose
    clear hN hC hsome hnone hup hwf hRi hFu hclose f7 f8 h0 hcz hcnt hS hz f1 f2 f3 f4 f5
    have hmin : min (S : Int) 6 = (S : Int) := by omega
    have F1 := trivial
    go_enter Tryd.func13, Tryd.ntmps13
    go_wp2_with (first
      | (go_at_call 23; clear F1; refine (HC.out _ hb1).mono ?_; rintro e w2 ⟨rfl, hb2⟩; have B2 := Below.thru hb1 hb2 (Nat.le_refl _); have k2 := k1.keep hb2; have x0 := k2.cell 0; have x1 := k2.cell 1; have lx := k2.lt; simp only [List.getElem?_toArray, List.getElem?_cons_zero, List.getElem?_cons_succ] at x0 x1; clear hb2; have F2 := trivial)
      | (go_at_call 24; clear F2; refine (HN.out _ B2).mono ?_; rintro e w3 ⟨rfl, hb3⟩; have B3 := Below.thru B2 hb3 (Nat.le_refl _); have k3 := k2.keep hb3; replace x0 := cell_keep x0 hb3; replace x1 := cell_keep x1 hb3; replace lx := k3.lt; have F3 := trivial)
      | (go_at_call 22; clear F3; have hb4 := below_new w3 (.cells #[.slice pi xs.length ci] 23); have B4 := Below.thru B3 hb4 (Nat.le_refl _); refine (HRI.out _ _ (sl_one trivial (by rw [Blk.cell Blk.new]; rfl) (hi.keep B4) (Nat.le_refl _))).mono ?_; rintro e w5 ⟨v5, rfl, hV5, hb5⟩; have b5 := Below.thru hb4 hb5 (Nat.le_refl _); have B5 := Below.thru B3 b5 (Nat.le_refl _); have k5 := k3.keep b5; have hV := hV5.any; clear hV5 hb4 hb5 B4 b5; have F4 := trivial))
    clear x0 x1 lx hmin
    go_loopw [9, 30] (fun a i wr => ∃ (n : Nat) (l : List Int), n ≤ S ∧ i = .int .i64 n ∧ Sl IntE wr a l ∧ l.length ≤ 8 ∧ Up l ∧ (∀ x ∈ l, InZ x) ∧ closeN ts xs.length (S - n) l = closeN ts xs.length S (putsN [] xs) ∧ Below w5.heap.size w5 wr) (fun _ i _ => S - (intOf i).toNat)
    case atStart => exact ⟨0, putsN [] xs, Nat.zero_le _, rfl, hV, by omega, HUP.out, HWF.out, HCL.out.symm, Below.refl _ _⟩
    case round =>
      obtain ⟨n, l, hn, rfl, hL, hl8, hup, hwf, hF, hbr⟩ := hrel
      have HF : Hid _ := hF
      clear hF
      obtain ⟨pl, cl, rfl⟩ := hL.len
      have Br := Below.thru B5 hbr (Nat.le_refl _)
      have kr := k5.keep hbr
      have x0 := kr.cell 0
      have x1 := kr.cell 1
      have lx := kr.lt
      simp only [List.getElem?_toArray, List.getElem?_cons_zero, List.getElem?_cons_succ] at x0 x1
      by_cases hlt : n < S
      · have hC := fun W (hB : Below wr.heap.size wr W) => HFU.out pl cl l W (Below.thru Br hB (Nat.le_refl _)) (hL.keep hB) hl8 hwf hup
        have hstep : closeN ts xs.length (S - n) l = if 8 < (nextN ts xs.length l).length then none else closeN ts xs.length (S - (n + 1)) (nextN ts xs.length l) := by
          rw [show S - n = (S - (n + 1)) + 1 by omega, closeN]
        have hup' := up_nextN (ts := ts) (locs := xs.length) hup
        have hwf' := nextN_wf (ts := ts) (locs := xs.length) hwf
        generalize nextN ts xs.length l = u at *
        have HC2 : Hid _ := hC
        have HST : Hid _ := hstep
        have HU2 : Hid _ := hup'
        have HW2 : Hid _ := hwf'
        clear hC hstep hup' hwf' hup hwf
        by_cases h8 : 8 < u.length
        · have h8' : (8 : Int) < (u.length : Int) := by omega
          go_wp2_with (go_at_call 25; refine (HC2.out _ (Below.refl _ _)).mono ?_; rintro e w6 ⟨v6, rfl, hV6, hb6⟩; obtain ⟨p6, c6, rfl⟩ := hV6.len)
          go_ret2
          have hzz := HO.out (by rw [← HF.out, HST.out, if_pos h8])
          exact ⟨.slice none 0 0, by rw [hzz]; rfl, by rw [hzz]; exact SlA.nil, Below.thru Br hb6 (Nat.le_refl _)⟩
        · have h8' : ¬ (8 : Int) < (u.length : Int) := by omega
          go_wp2_with (go_at_call 25; refine (HC2.out _ (Below.refl _ _)).mono ?_; rintro e w6 ⟨v6, rfl, hV6, hb6⟩; obtain ⟨p6, c6, rfl⟩ := hV6.len)
          go_roundw
          case rel => exact ⟨n + 1, u, by omega, by go_num, hV6.any, by omega, HU2.out, HW2.out, by rw [← HF.out, HST.out, if_neg h8], Below.thru hbr hb6 (Nat.le_refl _)⟩
          case measure => simp [intOf]; omega
      · go_wp2
        go_ret2
        have hzz := HS.out l (by rw [← HF.out, show S - n = 0 by omega]; rfl)
        exact ⟨.slice pl l.length cl, by rw [hzz]; rfl, by rw [hzz]; exact hL, Br⟩
  · have hzz := ofP_bad h0
    generalize checkZ xs ts = z at *
    have hzb : (z.2.2 != 0) = true := by simp [h0]
    have HZ : Hid _ := hzz
    have HC : Hid _ := hC
    clear hzz hC
    go_enter Tryd.func13, Tryd.ntmps13
    go_wp2_with (go_at_call 23; refine (HC.out _ hb1).mono ?_; rintro e w2 ⟨rfl, hb2⟩)
    go_ret2
    exact ⟨.slice none 0 0, by rw [HZ.out]; rfl, by rw [HZ.out]; exact SlA.nil, Below.thru hb1 hb2 (Nat.le_refl _)⟩
end Go.Proofs.YtgaannoghefbbaaDoor
