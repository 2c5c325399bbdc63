/- OrderMany, walked. -/
import Derived.Test.YtpgbedaonjfpnaaOrderAllW
namespace Go.Proofs.Ytpgbedaonjfpnaa
open Go.RowKit Go.Shelf
attribute [local go_sem] Ext.cell Ext.frozen

def fct : Nat → Nat
  | 0 => 1
  | n + 1 => fct n * (n + 1)
theorem fct_le {n : Nat} (h : n ≤ 6) : fct n ≤ 720 := by
  have : ∀ n ∈ List.range 7, fct n ≤ 720 := by decide +kernel
  exact this n (by simp; omega)
/-- As many orders as ways, no two that follow one another the same. -/
theorem many_all {n : Nat} (h : n ≤ 6) : (extF n noF n []).length = fct n ∧ ∀ i (_ : i + 1 < (extF n noF n []).length), (extF n noF n []).getD (i + 1) [] ≠ (extF n noF n []).getD i [] := by
  have h1 : ∀ n ∈ List.range 7, (extF n noF n []).length = fct n := by decide +kernel
  have h2 : ∀ n ∈ List.range 7, ((extF n noF n []).zip (extF n noF n []).tail).all (fun z => z.1 != z.2) = true := by decide +kernel
  have hm : n ∈ List.range 7 := by simp; omega
  refine ⟨h1 n hm, fun i hi e => ?_⟩
  have h3 := h2 n hm
  generalize extF n noF n [] = L at *
  rw [List.all_eq_true] at h3
  have h4 : (L.zip L.tail)[i]? = some (L.getD i [], L.getD (i + 1) []) := by
    rw [List.getElem?_zip_eq_some]
    refine ⟨?_, ?_⟩
    · rw [List.getElem?_eq_getElem (by omega)]; simp [show i < L.length by omega]
    · rw [List.getElem?_tail, List.getElem?_eq_getElem hi]; simp [hi]
  have := h3 _ (List.mem_of_getElem? h4)
  simp only [bne_iff_ne, ne_eq] at this
  exact this e.symm

set_option maxRecDepth 100000 in
set_option maxHeartbeats 4000000 in
theorem OrderMany_true (n : Nat) (w : World) (hn : n < 256) :
    Calls Try.prog 4 #[.int .u8 (n : Int)] w fun e w' => e = .returned (.bool true) ∧ Below w.heap.size w w' := by
  have C1 := shown6 w
  obtain ⟨i0, j1, j2, j3, j4⟩ := get_info info_intO
  have J1 : Hid _ := j1
  have J2 : Hid _ := j2
  have J3 : Hid _ := j3
  have J4 : Hid _ := j4
  clear j1 j2 j3 j4
  go_enter Try.func4, Try.ntmps4
  go_wp2_with (go_at_call 7; refine C1.mono ?_; clear C1; rintro e w1 ⟨rfl, hb1⟩)
  rw [show ((n : Int) % 7) = ((n % 7 : Nat) : Int) by omega]
  have hK : n % 7 ≤ 6 := by omega
  generalize n % 7 = K at *
  go_loopw [5, 6, 7] (fun s m i wr => ∃ k : Nat, k ≤ K ∧ i = .int .i64 k ∧ m = .int .i64 (fct k : Nat) ∧ Own (fun _ => False) NatE wr w.heap.size 3 s (List.range k) ∧ Below w.heap.size w wr) (fun _ _ i _ => K - (intOf i).toNat)
  case atStart => exact ⟨0, Nat.zero_le _, rfl, rfl, Own.nil, hb1⟩
  case round =>
    obtain ⟨k, hk, rfl, rfl, hO, hB⟩ := hrel
    obtain ⟨ps, cs, rfl⟩ := hO.len
    have hrk : (List.range k).length = k := List.length_range
    rw [hrk] at hO ⊢
    have hf := fct_le (n := k) (by omega)
    by_cases hlt : k < K
    · have hlt' : (k : Int) < (K : Int) := by omega
      have hb5 := (Below.refl wr.heap.size wr).alloc (Nat.le_refl _) (.cells #[.int .i64 (k : Int)] 3)
      have hB5 := Below.thru hB hb5 (Nat.le_refl _)
      have hz5 := hB5.size
      have hf2 := fct_le (n := k + 1) (by omega)
      have hfs : ((fct k : Nat) : Int) * ((k : Int) + 1) = ((fct (k + 1) : Nat) : Int) := by
        show _ = ((fct k * (k + 1) : Nat) : Int)
        simp
      have HFS : Hid _ := hfs
      clear hfs
      have hw : IntKind.i64.wrap (((fct k : Nat) : Int) * ((k : Int) + 1)) = ((fct (k + 1) : Nat) : Int) := by
        rw [HFS.out, IntKind.wrap_i64]; omega
      obtain ⟨fk1, hfk1⟩ : ∃ z, fct (k + 1) = z := ⟨_, rfl⟩
      rw [hfk1] at hw
      have HFK : Hid _ := hfk1
      clear hfk1 hf2
      generalize fct k = fk at *
      go_wp2_with (at_builtin; refine wpList_appB (R := NatE) (A := fun _ => False) (B := fun _ => True) (xs := List.range k) (ys := [k]) (by rfl) (.tmp 20) (.tmp 22) 24 3 i0 (.int .i64 0) 8 (by rfl) Try.underlying24 J1.out J2.out J3.out J4.out (by rfl) w.heap.size (.slice ps k cs) (.slice (some ⟨wr.heap.size, 0, none⟩) 1 1) (by rfl) (by rfl) (hO.keep hb5) (sl_nat1 trivial (by simp)) (fun _ _ _ h => h) (by simp only [List.length_cons, List.length_nil, List.length_range]; unfold maxLen; omega) (by simp only [List.length_cons, List.length_nil, List.length_range]; omega) hz5 ?_; intro p6 k6 w6 hO6 hg6 hw6)
      go_roundw
      case rel => exact ⟨k + 1, by omega, by go_num, by rw [HFK.out], by rw [List.range_succ]; simpa using hO6, hB5.grown hg6 hz5 (fun q e => (hO.lt q e).1)⟩
      case measure => simp [intOf]; omega
    · have ek : k = K := by omega
      subst ek
      obtain ⟨wq, rfl⟩ : ∃ x : World, x = wr := ⟨_, rfl⟩
      have hall := allL_range hK
      obtain ⟨hlenL, hadj⟩ := many_all hK
      have hfit : ∀ o ∈ extF k noF k [], Fit k noF o := fun o ho => ext_fit ho
      have C2 := All_any ps cs (List.range k) wq (by rw [List.length_range]; exact hO.sl.any)
      rw [List.length_range, hall] at C2
      have C3 := fun w2 => New_l w2 (k : Int)
      have C4 : ∀ (p : Option Addr) (c : Nat) (w2 : World), Sl U32E w2 (.slice p (newL (k : Int)).length c) (newL (k : Int)) → Calls Try.prog 8 #[.slice p (newL (k : Int)).length c] w2 (ListsT w2 (extF k noF k [])) := fun p c w2 h => by
        have := Linear_l p c (newL (k : Int)) w2 h
        rw [linL_new hK] at this
        exact this
      obtain ⟨L, hL⟩ : ∃ x, extF k noF k [] = x := ⟨_, rfl⟩
      obtain ⟨nl, hnl⟩ : ∃ x, newL (k : Int) = x := ⟨_, rfl⟩
      obtain ⟨fk, hfk⟩ : ∃ x, fct k = x := ⟨_, rfl⟩
      rw [hL] at C2 C4 hlenL hadj hfit
      rw [hnl] at C3 C4
      rw [hfk] at hlenL hf ⊢
      have HC3 : Hid _ := C3
      have HC4 : Hid _ := C4
      have HFIT : Hid _ := hfit
      have HADJ : Hid _ := hadj
      have hLe : ((L.length : Int) == (fk : Int)) = true := by rw [hlenL]; simp
      have hL7 : L.length ≤ 720 := by omega
      have HLL : Hid _ := hlenL
      clear C3 C4 hfit hadj hL hnl hfk hlenL hall hO
      go_wp2_with (first
        | (go_at_call 9; refine C2.mono ?_; clear C2; rintro e w3 ⟨p3, c3, rfl, hs3, hb3⟩))
      go_loopw [9] (fun i wr => ∃ m : Nat, m ≤ L.length ∧ i = .int .i64 m ∧ Below w3.heap.size w3 wr) (fun i _ => L.length - (intOf i).toNat)
      case atStart => exact ⟨0, Nat.zero_le _, rfl, Below.refl _ _⟩
      case round =>
        obtain ⟨m, hm, rfl, hB4⟩ := hrel
        obtain ⟨w4, rfl⟩ : ∃ x : World, x = wr := ⟨_, rfl⟩
        by_cases hlt : m < L.length
        · have hlt' : (m : Int) < (L.length : Int) := by omega
          obtain ⟨b3, o3, rfl, v3, hc3, hv3⟩ := (sl_at (hs3.keep hB4)).2 m hlt
          obtain ⟨pv, cv, rfl⟩ := hv3.len
          have hft := HFIT.out _ (List.getElem_mem hlt)
          have hadj' : ∀ i, m = i + 1 → L[m] ≠ L.getD i [] := fun i hi => by
            have := HADJ.out i (by omega)
            rw [← hi] at this
            simpa [hlt] using this
          have HADJ' : Hid _ := hadj'
          clear hadj'
          generalize L[m] = x at *
          have hxl : x.length ≤ 6 := by rw [hft.len]; exact hK
          have hxm : ∀ a, a < k → x.contains a = true := fun a ha => by simpa using hft.mem ha
          have HXM : Hid _ := hxm
          clear hxm hft
          go_wp2
          go_loopw [10] (fun i wr => ∃ j : Nat, j ≤ k ∧ i = .int .i64 j ∧ Below w4.heap.size w4 wr) (fun i _ => k - (intOf i).toNat)
          case atStart => exact ⟨0, Nat.zero_le _, rfl, Below.refl _ _⟩
          case round =>
            obtain ⟨j, hj, rfl, hB5⟩ := hrel
            by_cases hjk : j < k
            · have hjk' : (j : Int) < (k : Int) := by omega
              have hc5 := cell_keep hc3 hB5
              have CC := In_nat pv cv x j wr (hv3.keep hB5).any (by omega)
              rw [HXM.out j hjk] at CC
              go_wp2_with (go_at_call 12; refine CC.mono ?_; clear CC; rintro e w6 ⟨rfl, hb6⟩)
              go_roundw
              case rel => exact ⟨j + 1, by omega, by go_num, Below.thru hB5 hb6 (Nat.le_refl _)⟩
              case measure => simp [intOf]; omega
            · have hc5 := cell_keep hc3 hB5
              have l5 := cell_lt hc5
              have hne : ∀ w, Nonempty (Ext w) := ext_some
              by_cases hm0 : m = 0
              · subst hm0
                go_wp2
                refine wp_region_ext (by kernel_rfl) (by kernel_rfl) ?_
                repeat (go_big_quiet_step (fail))
                refine wpQuiet_nil ?_
                rintro _ ⟨rr, rfl⟩
                go_wp2
                go_roundw
                case rel => exact ⟨1, by omega, by go_num, Below.thru (Below.thru hB4 hB5 (Nat.le_refl _)) rr.ok (Nat.le_refl _)⟩
                case measure => simp [intOf]; omega
              · obtain ⟨i, hi⟩ : ∃ i, m = i + 1 := ⟨m - 1, by omega⟩
                have hil : i < L.length := by omega
                have hil' : (i : Int) < (L.length : Int) := by omega
                have hmi : (m : Int) - 1 = (i : Int) := by omega
                have hmp : decide (0 < m) = true := by simp; omega
                have hne2 := HADJ'.out i hi
                obtain ⟨b3', o3', e3, v4, hc4, hv4⟩ := (sl_at ((hs3.keep hB4).keep hB5)).2 i hil
                cases e3
                obtain ⟨pv4, cv4, rfl⟩ := hv4.len
                have l4 := cell_lt hc4
                rw [show L.getD i [] = L[i] by simp [hil]] at hne2
                have CI : ∀ q : Ext wr, Calls Try.prog 11 #[.slice pv x.length cv, .slice pv4 L[i].length cv4] q.wd fun e w'' => e = .returned (.bool false) ∧ ∃ q' : Ext wr, w'' = q'.wd := fun q => by
                  have := Ints_nat pv pv4 cv cv4 x L[i] q.wd ((hv3.keep hB5).keep q.ok) (hv4.keep q.ok) (by omega)
                  rw [decide_eq_false hne2] at this
                  exact calls_ext this
                generalize L[i] = y at *
                have HCI : Hid _ := CI
                clear CI hi hm0 hne2 hv4
                go_wp2
                refine wp_region_ext (by kernel_rfl) (by kernel_rfl) ?_
                repeat (go_big_quiet_step (first | (with_reducible exact HCI.out _)))
                refine wpQuiet_nil ?_
                rintro _ ⟨rr, rfl⟩
                go_wp2
                go_roundw
                case rel => exact ⟨m + 1, by omega, by go_num, Below.thru (Below.thru hB4 hB5 (Nat.le_refl _)) rr.ok (Nat.le_refl _)⟩
                case measure => simp [intOf]; omega
        · have hBt := Below.thru (Below.thru hB hb3 (Nat.le_refl _)) hB4 (Nat.le_refl _)
          have hs4 := hs3.keep hB4
          have HL6 : Hid _ := (show ∀ o ∈ L, o.length ≤ 1000000 from fun o ho => by rw [(HFIT.out o ho).len]; omega)
          go_wp2_with (first
            | (go_at_call 14; refine (HC3.out w4).mono ?_; rintro e w6 ⟨p6, c6, rfl, hs6, hb6⟩)
            | (go_at_call 8; refine (HC4.out p6 c6 w6 hs6).mono ?_; rintro e w7 ⟨p7, c7, rfl, hs7, hb7⟩; have CL := Lists_nat p7 p3 c7 c3 L L w7 hs7 ((hs4.keep hb6).keep hb7) (by omega) HL6.out; rw [decide_eq_true rfl] at CL)
            | (go_at_call 13; refine CL.mono ?_; rintro e w8 ⟨rfl, hb8⟩))
          go_ret
          exact ⟨rfl, Below.thru (Below.thru (Below.thru hBt hb6 (Nat.le_refl _)) hb7 (Nat.le_refl _)) hb8 (Nat.le_refl _)⟩
end Go.Proofs.Ytpgbedaonjfpnaa
