/- OrderOf, walked. -/
import Derived.Test.YtpgbedaonjfpnaaOrdUniq
import Derived.Test.YtpgbedaonjfpnaaOrderManyW
namespace Go.Proofs.Ytpgbedaonjfpnaa
open Go.RowKit Go.Shelf
attribute [local go_sem] Ext.cell Ext.frozen

set_option maxRecDepth 100000 in
set_option maxHeartbeats 4000000 in
theorem OrderOf_true (n by' fr : Nat) (w : World) (hn : n < 256) (hby : by' < 65536) (hfr : fr < 4294967296) :
    Calls Try.prog 5 #[.int .u8 (n : Int), .int .u16 (by' : Int), .int .u32 (fr : Int)] w fun e w' => e = .returned (.bool true) ∧ Below w.heap.size w w' := by
  have C1 := shown6 w
  obtain ⟨i0, j1, j2, j3, j4⟩ := get_info info_intO
  have J1 : Hid _ := j1
  have J2 : Hid _ := j2
  have J3 : Hid _ := j3
  have J4 : Hid _ := j4
  clear j1 j2 j3 j4
  go_enter Try.func5, Try.ntmps5
  go_wp2_with (go_at_call 7; refine C1.mono ?_; clear C1; rintro e w1 ⟨rfl, hb1⟩)
  rw [show ((n : Int) % 7) = ((n % 7 : Nat) : Int) by omega]
  have hK : n % 7 ≤ 6 := by omega
  generalize n % 7 = K at *
  go_loopw [9, 10] (fun s i wr => ∃ k : Nat, k ≤ K ∧ i = .int .i64 k ∧ Own (fun _ => False) NatE wr w.heap.size 3 s (List.range k) ∧ Below w.heap.size w wr) (fun _ i _ => K - (intOf i).toNat)
  case atStart => exact ⟨0, Nat.zero_le _, rfl, Own.nil, hb1⟩
  case round =>
    obtain ⟨k, hk, rfl, hO, hB⟩ := hrel
    obtain ⟨ps, cs, rfl⟩ := hO.len
    have hrk : (List.range k).length = k := List.length_range
    rw [hrk] at hO ⊢
    by_cases hlt : k < K
    · have hlt' : (k : Int) < (K : Int) := by omega
      have hb5 := (Below.refl wr.heap.size wr).alloc (Nat.le_refl _) (.cells #[.int .i64 (k : Int)] 3)
      have hB5 := Below.thru hB hb5 (Nat.le_refl _)
      have hz5 := hB5.size
      go_wp2_with (at_builtin; refine wpList_appB (R := NatE) (A := fun _ => False) (B := fun _ => True) (xs := List.range k) (ys := [k]) (by rfl) (.tmp 24) (.tmp 26) 24 3 i0 (.int .i64 0) 8 (by rfl) Try.underlying24 J1.out J2.out J3.out J4.out (by rfl) w.heap.size (.slice ps k cs) (.slice (some ⟨wr.heap.size, 0, none⟩) 1 1) (by rfl) (by rfl) (hO.keep hb5) (sl_nat1 trivial (by simp)) (fun _ _ _ h => h) (by simp only [List.length_cons, List.length_nil, List.length_range]; unfold maxLen; omega) (by simp only [List.length_cons, List.length_nil, List.length_range]; omega) hz5 ?_; intro p6 k6 w6 hO6 hg6 hw6)
      go_roundw
      case rel => exact ⟨k + 1, by omega, by go_num, by rw [List.range_succ]; simpa using hO6, hB5.grown hg6 hz5 (fun q e => (hO.lt q e).1)⟩
      case measure => simp [intOf]; omega
    · have ek : k = K := by omega
      subst ek
      obtain ⟨wq, rfl⟩ : ∃ x : World, x = wr := ⟨_, rfl⟩
      have hall := allL_range hK
      obtain ⟨hlenL, _⟩ := many_all hK
      have hf6 := fct_le hK
      have hfp : 0 < fct k := by
        have : ∀ n ∈ List.range 7, 0 < fct n := by decide +kernel
        exact this k (by simp; omega)
      have hfit : ∀ o ∈ extF k noF k [], Fit k noF o := fun o ho => ext_fit ho
      have hprs : ∀ o ∈ extF k noF k [], (pairsF k (ahead2 o)).length = k * (k - 1) / 2 := fun o ho => pairs_of hK ho
      have C2 := All_any ps cs (List.range k) wq (by rw [List.length_range]; exact hO.sl.any)
      rw [List.length_range, hall] at C2
      obtain ⟨L, hL⟩ : ∃ x, extF k noF k [] = x := ⟨_, rfl⟩
      rw [hL] at C2 hlenL hfit hprs
      have hLl : L.length ≤ 720 := by omega
      have hLp : 0 < L.length := by omega
      have HFIT : Hid _ := hfit
      have HPRS : Hid _ := hprs
      clear hfit hprs hL hlenL hall hO hf6 hfp
      have hL0 : ((L.length : Int) == 0) = false := by rw [beq_eq_false_iff_ne]; omega
      have hLp' : (0 : Int) < (L.length : Int) := by omega
      obtain ⟨m, hm, hml⟩ : ∃ m : Nat, ((by' : Int) % (L.length : Int)) = (m : Int) ∧ m < L.length := ⟨by' % L.length, (Int.natCast_emod by' L.length).symm, Nat.mod_lt _ hLp⟩
      have hml' : (m : Int) < (L.length : Int) := by omega
      have hft := HFIT.out _ (List.getElem_mem hml)
      have hpr := HPRS.out _ (List.getElem_mem hml)
      have hxl := hft.len
      have hof : hasR (ofO k L[m]) = ahead2 L[m] ∧ szR (ofO k L[m]) = k := ⟨mkR_fun (by omega) (ahead2_within hft.lt), mkR_sz _ (by omega)⟩
      obtain ⟨hac, hli⟩ := lin_of hft
      have hfits : ∀ s, fitsL k (andF (ahead2 L[m]) (crossF s s)) L[m] = true := fun s => fits_iff.2 ((fit_of hft).sub fun i j h => by
        unfold andF at h
        rw [Bool.and_eq_true] at h
        exact h.1)
      have COf := fun (p : Option Addr) (c : Nat) (w4 : World) (h : Sl NatE w4 (.slice p L[m].length c) L[m]) => Of_any p c k L[m] w4 h (by omega) (by omega)
      have CLi : ∀ (p : Option Addr) (c : Nat) (w4 : World), Sl U32E w4 (.slice p (ofO k L[m]).length c) (ofO k L[m]) → Calls Try.prog 8 #[.slice p (ofO k L[m]).length c] w4 (ListsT w4 [L[m]]) := fun p c w4 h => by
        have := Linear_l p c (ofO k L[m]) w4 h
        rw [show linL (ofO k L[m]) = [L[m]] by unfold linL; rw [hof.1, hof.2, if_pos hK, hli]] at this
        exact this
      have CAc : ∀ (p : Option Addr) (c : Nat) (w4 : World), Sl U32E w4 (.slice p (ofO k L[m]).length c) (ofO k L[m]) → Calls Try.prog 16 #[.slice p (ofO k L[m]).length c] w4 fun e w' => e = .returned (.bool true) ∧ Below w4.heap.size w4 w' := fun p c w4 h => by
        have := Acyclic_l p c (ofO k L[m]) w4 h
        rw [show acyL (ofO k L[m]) = true by unfold acyL; rw [hof.1, hof.2, hac]] at this
        exact this
      have COn := fun (p : Option Addr) (c : Nat) (w4 : World) (h : Sl U32E w4 (.slice p (ofO k L[m]).length c) (ofO k L[m])) => Only_l p c (ofO k L[m]) w4 h fr fr hfr hfr
      have CFi : ∀ (p q : Option Addr) (c d : Nat) (w4 : World), Sl NatE w4 (.slice p L[m].length c) L[m] → Sl U32E w4 (.slice q (onlyL (ofO k L[m]) fr fr).length d) (onlyL (ofO k L[m]) fr fr) → Calls Try.prog 10 #[.slice p L[m].length c, .slice q (onlyL (ofO k L[m]) fr fr).length d] w4 fun e w' => e = .returned (.bool true) ∧ Below w4.heap.size w4 w' := fun p q c d w4 h h2 => by
        have := Fits_any p q c d L[m] _ w4 h h2
        rw [only_has, show szR (onlyL (ofO k L[m]) fr fr) = szR (ofO k L[m]) from mkR_sz _ (szR_le _), hof.1, hof.2, hfits] at this
        exact this
      have hpl : (pairsL (ofO k L[m])).length = k * (k - 1) / 2 := by unfold pairsL; rw [hof.1, hof.2, hpr]
      have CPa := fun (p : Option Addr) (c : Nat) (w4 : World) (h : Sl U32E w4 (.slice p (ofO k L[m]).length c) (ofO k L[m])) => Pairs_l p c (ofO k L[m]) w4 h
      have HCO : Hid _ := COf
      have HCL : Hid _ := CLi
      have HCA : Hid _ := CAc
      have HCN : Hid _ := COn
      have HCF : Hid _ := CFi
      have HCP : Hid _ := CPa
      clear COf CLi CAc COn CFi CPa hfits hac hli hof hpr hft
      have HPL : Hid _ := hpl
      clear hpl
      obtain ⟨R, hR⟩ : ∃ R, ofO k L[m] = R := ⟨_, rfl⟩
      obtain ⟨RO, hRO⟩ : ∃ R, onlyL (ofO k L[m]) fr fr = R := ⟨_, rfl⟩
      obtain ⟨PP, hPP⟩ : ∃ R, pairsL (ofO k L[m]) = R := ⟨_, rfl⟩
      obtain ⟨x, hx⟩ : ∃ x, L[m] = x := ⟨_, rfl⟩
      rw [hRO] at HCN HCF
      rw [hPP] at HCP HPL
      rw [hR] at HCO HCL HCA HCN HCP
      rw [hx] at HCO HCL HCF hxl
      have HX : Hid _ := hx
      clear hR hRO hPP hx
      have hx6 : x.length ≤ 6 := by omega
      clear hxl
      go_wp2_with (first
        | (go_at_call 9; refine C2.mono ?_; clear C2; rintro e w3 ⟨p3, c3, rfl, hs3, hb3⟩; obtain ⟨b3, o3, rfl, v3, hc3, hv3⟩ := (sl_at hs3).2 m hml; rw [HX.out] at hv3; obtain ⟨pv, cv, rfl⟩ := hv3.len)
        | (go_at_call 15; refine (HCO.out pv cv w3 hv3.any).mono ?_; clear HCO; rintro e w4 ⟨p4, c4, rfl, hs4, hb4⟩)
        | (go_at_call 8; refine (HCL.out p4 c4 w4 hs4).mono ?_; clear HCL; rintro e w5 ⟨p5, c5, rfl, hs5, hb5⟩; obtain ⟨b5, o5, rfl, v5, hc5, hv5⟩ := (sl_at hs5).2 0 (by simp); simp only [Nat.add_zero, List.getElem_cons_zero] at hc5 hv5; obtain ⟨pv5, cv5, rfl⟩ := hv5.len; have hs45 := hs4.keep hb5; have hv35 := (hv3.keep hb4).keep hb5)
        | (go_at_call 16; refine (HCA.out p4 c4 w5 hs45).mono ?_; clear HCA; rintro e w6 ⟨rfl, hb6⟩; have hc56 := cell_keep hc5 hb6)
        | (go_at_call 11; have CI := Ints_nat pv5 pv cv5 cv x x w6 (hv5.keep hb6) (hv35.keep hb6) (by omega); rw [decide_eq_true rfl] at CI; refine CI.mono ?_; rintro e w7 ⟨rfl, hb7⟩; have hs47 := (hs45.keep hb6).keep hb7; have hv37 := (hv35.keep hb6).keep hb7)
        | (go_at_call 17; refine (HCN.out p4 c4 w7 hs47).mono ?_; clear HCN; rintro e w8 ⟨p8, c8, rfl, hs8, hb8⟩)
        | (go_at_call 10; refine (HCF.out pv p8 cv c8 w8 (hv37.keep hb8).any hs8).mono ?_; clear HCF; rintro e w9 ⟨rfl, hb9⟩; have hs49 := (hs47.keep hb8).keep hb9)
        | (go_at_call 18; refine (HCP.out p4 c4 w9 hs49).mono ?_; clear HCP; rintro e w10 ⟨p10, c10, rfl, hs10, hb10⟩))
      all_goals
        have hBt := Below.thru (Below.thru (Below.thru (Below.thru (Below.thru (Below.thru (Below.thru (Below.thru hB hb3 (Nat.le_refl _)) hb4 (Nat.le_refl _)) hb5 (Nat.le_refl _)) hb6 (Nat.le_refl _)) hb7 (Nat.le_refl _)) hb8 (Nat.le_refl _)) hb9 (Nat.le_refl _)) hb10 (Nat.le_refl _)
        have hk7 : k = 0 ∨ k = 1 ∨ k = 2 ∨ k = 3 ∨ k = 4 ∨ k = 5 ∨ k = 6 := by omega
        go_ret
        refine ⟨?_, hBt⟩
        refine congrArg (fun b => Ending.returned (Value.bool b)) (?_ : _ = true)
        rw [HPL.out]
        clear hBt
        rcases hk7 with h7 | h7 | h7 | h7 | h7 | h7 | h7 <;> subst h7 <;> first | decide +kernel | (exfalso; omega)
end Go.Proofs.Ytpgbedaonjfpnaa
