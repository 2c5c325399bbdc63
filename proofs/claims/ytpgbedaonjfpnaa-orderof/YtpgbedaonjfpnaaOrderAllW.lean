/- OrderAll, walked. -/
import Derived.Test.YtpgbedaonjfpnaaOrdShown
namespace Go.Proofs.Ytpgbedaonjfpnaa
open Go.RowKit Go.Shelf
attribute [local go_sem] Ext.cell Ext.frozen

theorem map_range_id {n : Nat} {o : List Nat} (h : ∀ a ∈ o, a < n) : (o.map fun i => (List.range n).getD i 0) = o := by
  have : ∀ a ∈ o, (List.range n).getD a 0 = id a := fun a ha => by have := h a ha; simp [this]
  rw [List.map_congr_left this, List.map_id]
theorem allL_range {n : Nat} (hn : n ≤ 6) : allL (List.range n) = extF n noF n [] := by
  unfold allL
  rw [List.length_range, if_pos hn]
  have : ∀ o ∈ extF n noF n [], (o.map fun i => (List.range n).getD i 0) = id o := fun o ho => map_range_id (ext_fit ho).lt
  rw [List.map_congr_left this, List.map_id]
theorem szR_small {xs : List Nat} (h : xs.length ≤ 6) : szR xs = xs.length := by unfold szR; rw [if_neg (by omega)]
set_option maxHeartbeats 4000000 in
theorem OrderAll_true (pa : Option Addr) (ca : Nat) (xs : List Nat) (w : World) (ha : Sl U32E w (.slice pa xs.length ca) xs) :
    Calls Try.prog 3 #[.slice pa xs.length ca] w fun e w' => e = .returned (.bool true) ∧ Below w.heap.size w w' := by
  have C1 := shown6 w
  by_cases h6 : xs.length ≤ 6
  · have h6' : ¬ (6 : Int) < (xs.length : Int) := by omega
    obtain ⟨i0, j1, j2, j3, j4⟩ := get_info info_intO
    have J1 : Hid _ := j1
    have J2 : Hid _ := j2
    have J3 : Hid _ := j3
    have J4 : Hid _ := j4
    clear j1 j2 j3 j4
    go_enter Try.func3, Try.ntmps3
    go_wp2_with (go_at_call 7; refine C1.mono ?_; clear C1; rintro e w1 ⟨rfl, hb1⟩)
    go_loopw [4, 5] (fun s i wr => ∃ k : Nat, k ≤ xs.length ∧ i = .int .i64 k ∧ Own (fun _ => False) NatE wr w.heap.size 3 s (List.range k) ∧ Below w.heap.size w wr) (fun _ i _ => xs.length - (intOf i).toNat)
    case atStart => exact ⟨0, Nat.zero_le _, rfl, Own.nil, hb1⟩
    case round =>
      obtain ⟨k, hk, rfl, hO, hB⟩ := hrel
      obtain ⟨ps, cs, rfl⟩ := hO.len
      have hrk : (List.range k).length = k := List.length_range
      rw [hrk] at hO ⊢
      by_cases hlt : k < xs.length
      · have hlt' : (k : Int) < (xs.length : Int) := by omega
        have hb5 := (Below.refl wr.heap.size wr).alloc (Nat.le_refl _) (.cells #[.int .i64 (k : Int)] 3)
        have hB5 := Below.thru hB hb5 (Nat.le_refl _)
        have hz5 := hB5.size
        go_wp2_with (at_builtin; refine wpList_appB (R := NatE) (A := fun _ => False) (B := fun _ => True) (xs := List.range k) (ys := [k]) (by rfl) (.tmp 21) (.tmp 23) 24 3 i0 (.int .i64 0) 8 (by rfl) Try.underlying24 J1.out J2.out J3.out J4.out (by rfl) w.heap.size (.slice ps k cs) (.slice (some ⟨wr.heap.size, 0, none⟩) 1 1) (by rfl) (by rfl) (hO.keep hb5) (sl_nat1 trivial (by simp)) (fun _ _ _ h => h) (by simp only [List.length_cons, List.length_nil, List.length_range]; unfold maxLen; omega) (by simp only [List.length_cons, List.length_nil, List.length_range]; omega) hz5 ?_; intro p6 k6 w6 hO6 hg6 hw6)
        go_roundw
        case rel => exact ⟨k + 1, by omega, by go_num, by rw [List.range_succ]; simpa using hO6, hB5.grown hg6 hz5 (fun q e => (hO.lt q e).1)⟩
        case measure => simp [intOf]; omega
      · obtain ⟨wq, rfl⟩ : ∃ x : World, x = wr := ⟨_, rfl⟩
        have ek : k = xs.length := by omega
        have hsz := szR_small h6
        have C2 := Linear_l pa ca xs wq (ha.keep hB)
        have hfil := lin_filter (has_within xs)
        have hL : linL xs = linF (szR xs) (hasR xs) := by unfold linL; rw [if_pos (by omega)]
        rw [hL] at C2
        have hall := allL_range h6
        subst ek
        have hcnt : (extF xs.length noF xs.length []).length ≤ 46656 := by have := lin_count (f := noF) h6; rw [lin_no] at this; exact this
        have hrl : ∀ o ∈ extF xs.length noF xs.length [], o.length ≤ 6 := fun o ho => by have := ext_len ho; simp at this; omega
        rw [hsz] at hfil C2
        have CF : ∀ (o : List Nat) (p : Option Addr) (c : Nat) (w2 : World), Sl NatE w2 (.slice p o.length c) o → Below wq.heap.size wq w2 → Calls Try.prog 10 #[.slice p o.length c, .slice pa xs.length ca] w2 fun e w' => e = .returned (.bool (fitsL xs.length (hasR xs) o)) ∧ Below w2.heap.size w2 w' := fun o p c w2 h hb => by
          have := Fits_any p pa c ca o xs w2 h ((ha.keep hB).keep hb)
          rw [hsz] at this
          exact this
        have C3 : ∀ w2, Below wq.heap.size wq w2 → Calls Try.prog 9 #[.slice ps xs.length cs] w2 (ListsT w2 (extF xs.length noF xs.length [])) := fun w2 hb2 => by
          have := All_any ps cs (List.range xs.length) w2 (by rw [List.length_range]; exact (hO.sl.any).keep hb2)
          rw [List.length_range, hall] at this
          exact this
        obtain ⟨ways, hways⟩ : ∃ x, extF xs.length noF xs.length [] = x := ⟨_, rfl⟩
        obtain ⟨L, hLL⟩ : ∃ x, linF xs.length (hasR xs) = x := ⟨_, rfl⟩
        obtain ⟨fit, hfit⟩ : ∃ x, fitsL xs.length (hasR xs) = x := ⟨_, rfl⟩
        have CF' : ∀ (o : List Nat) (p : Option Addr) (c : Nat) (w2 : World), Sl NatE w2 (.slice p o.length c) o → Below wq.heap.size wq w2 → Calls Try.prog 10 #[.slice p o.length c, .slice pa xs.length ca] w2 fun e w' => e = .returned (.bool (fit o)) ∧ Below w2.heap.size w2 w' := by rw [← hfit]; exact CF
        rw [hways] at C3 hcnt hrl hfil
        rw [hLL] at C2 hfil
        rw [hfit] at hfil
        have HCF : Hid _ := CF'
        have HC3 : Hid _ := C3
        have HFIL : Hid _ := hfil
        have HRL : Hid _ := hrl
        clear CF CF' C3 hfil hrl hfit hLL hways hall hL hsz hO
        have hLc : L.length ≤ 46656 := by rw [← HFIL.out]; exact Nat.le_trans (List.length_filter_le _ _) hcnt
        have HLL : Hid _ := (show ∀ o ∈ L, o.length ≤ 6 from fun o ho => HRL.out o (by rw [← HFIL.out] at ho; exact (List.mem_filter.1 ho).1))
        go_wp2_with (first
          | (go_at_call 8; refine C2.mono ?_; clear C2; rintro e w2 ⟨p2, c2, rfl, hs2, hb2⟩)
          | (go_at_call 9; refine (HC3.out w2 hb2).mono ?_; clear HC3; rintro e w3 ⟨p3, c3, rfl, hs3, hb3⟩))
        have hs2' := hs2.keep hb3
        have hb23 := Below.thru hb2 hb3 (Nat.le_refl _)
        clear hs2 hb2 hb3
        go_loopw [8, 9] (fun a i w4 => ∃ k m : Nat, k ≤ ways.length ∧ m ≤ L.length ∧ i = .int .i64 k ∧ a = .int .i64 m ∧ (ways.drop k).filter fit = L.drop m ∧ Below w3.heap.size w3 w4) (fun _ i _ => ways.length - (intOf i).toNat)
        case atStart => exact ⟨0, 0, Nat.zero_le _, Nat.zero_le _, rfl, rfl, by simpa using HFIL.out, Below.refl _ _⟩
        case round =>
          obtain ⟨k, m, hk, hm, rfl, rfl, hf, hB4⟩ := hrel
          have HF : Hid _ := hf
          clear hf
          obtain ⟨w4, rfl⟩ : ∃ x : World, x = wr := ⟨_, rfl⟩
          have hBq := Below.thru hb23 hB4 (Nat.le_refl _)
          have hBt := Below.thru hB hBq (Nat.le_refl _)
          by_cases hlt : k < ways.length
          · have hlt' : (k : Int) < (ways.length : Int) := by omega
            have hdr : ways.drop k = ways[k] :: ways.drop (k + 1) := drop_at hlt
            obtain ⟨b3, o3, rfl, v3, hc3, hv3⟩ := (sl_at (hs3.keep hB4)).2 k hlt
            obtain ⟨pv, cv, rfl⟩ := hv3.len
            have hol := HRL.out _ (List.getElem_mem hlt)
            have l3 := cell_lt hc3
            have CC := HCF.out ways[k] pv cv w4 hv3.any hBq
            have HD : Hid _ := hdr
            clear hdr
            have hws : ways = ways := rfl
            cases hft : fit ways[k] with
            | false =>
              rw [hft] at CC
              have HNX : Hid _ := (show (ways.drop (k + 1)).filter fit = L.drop m by rw [← HF.out, HD.out, List.filter_cons_of_neg (by simp [hft])])
              clear hft
              generalize ways[k] = o at *
              go_wp2_with (go_at_call 10; refine CC.mono ?_; clear CC; rintro e w5 ⟨rfl, hb5⟩)
              go_roundw
              case rel => exact ⟨k + 1, m, by omega, hm, by go_num, rfl, HNX.out, Below.thru hB4 hb5 (Nat.le_refl _)⟩
              case measure => simp [intOf]; omega
            | true =>
              rw [hft] at CC
              have hx : L.drop m = ways[k] :: (ways.drop (k + 1)).filter fit := by rw [← HF.out, HD.out, List.filter_cons_of_pos (by simp [hft])]
              have hml : m < L.length := by
                rcases Nat.lt_or_ge m L.length with h | h
                · exact h
                · rw [List.drop_of_length_le h] at hx; cases hx
              have hml' : (m : Int) < (L.length : Int) := by omega
              have hml2 : decide (L.length ≤ m) = false := by simp; omega
              have hx2 := hx
              rw [List.drop_eq_getElem_cons hml] at hx2
              injection hx2 with hx3 hx4
              have HX4 : Hid _ := hx4.symm
              clear hft hx
              obtain ⟨b2, o2, rfl, v2, hc2, hv2⟩ := (sl_at (hs2'.keep hB4)).2 m hml
              rw [hx3] at hv2
              obtain ⟨pv2, cv2, rfl⟩ := hv2.len
              have l2 := cell_lt hc2
              clear hx3
              generalize ways[k] = o at *
              go_wp2_with (go_at_call 10; refine CC.mono ?_; clear CC; rintro e w5 ⟨rfl, hb5⟩; have hc3' := cell_keep hc3 hb5; have hc2' := cell_keep hc2 hb5; have l3' := cell_lt hc3'; have l2' := cell_lt hc2')
              have hne : ∀ w, Nonempty (Ext w) := ext_some
              have CI : ∀ q : Ext w5, Calls Try.prog 11 #[.slice pv2 o.length cv2, .slice pv o.length cv] q.wd fun e w'' => e = .returned (.bool true) ∧ ∃ q' : Ext w5, w'' = q'.wd := fun q => by
                have := Ints_nat pv2 pv cv2 cv o o q.wd ((hv2.keep hb5).keep q.ok) ((hv3.keep hb5).keep q.ok) (by omega)
                rw [decide_eq_true rfl] at this
                exact calls_ext this
              have HCI : Hid _ := CI
              clear CI hv2 hv3
              refine wp_region_ext (by kernel_rfl) (by kernel_rfl) ?_
              repeat (go_big_quiet_step (first | (with_reducible exact HCI.out _)))
              refine wpQuiet_nil ?_
              rintro _ ⟨rr, rfl⟩
              go_wp2
              go_roundw
              case rel => exact ⟨k + 1, m + 1, by omega, by omega, by go_num, by go_num, HX4.out, Below.thru (Below.thru hB4 hb5 (Nat.le_refl _)) rr.ok (Nat.le_refl _)⟩
              case measure => simp [intOf]; omega
          · have hend : m = L.length := by
              have h := HF.out
              rw [List.drop_of_length_le (by omega)] at h
              have h2 := congrArg List.length h
              simp at h2
              omega
            have hme : ((m : Int) == (L.length : Int)) = true := by rw [hend]; simp
            clear hend
            go_wp2
            go_ret
            exact ⟨rfl, hBt⟩
  · have h6' : (6 : Int) < (xs.length : Int) := by omega
    go_enter Try.func3, Try.ntmps3
    go_wp2_with (go_at_call 7; refine C1.mono ?_; clear C1; rintro e w1 ⟨rfl, hb1⟩)
    go_ret
    exact ⟨rfl, hb1⟩
end Go.Proofs.Ytpgbedaonjfpnaa
