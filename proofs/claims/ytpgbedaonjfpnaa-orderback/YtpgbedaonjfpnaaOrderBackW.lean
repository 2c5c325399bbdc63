/- OrderBack, walked. -/
import Derived.Test.YtpgbedaonjfpnaaOrderAllW
namespace Go.Proofs.Ytpgbedaonjfpnaa
open Go.RowKit Go.Shelf
attribute [local go_sem] Ext.cell Ext.frozen

/-- Where each thing from the j-th on stands. -/
def Placed (n : Nat) (x : List Nat) (j : Nat) (cs : Array Value) : Prop := cs.size = n ∧ ∀ i (h : i < x.length), j ≤ i → cs[x[i]]? = some (.int .i64 (i : Int))
theorem Placed.step {n : Nat} {x : List Nat} {j : Nat} {cs : Array Value} (h : Placed n x (j + 1) cs) (hn : x.Nodup) (hj : j < x.length) (hx : x[j] < n) : Placed n x j (cs.setIfInBounds x[j] (.int .i64 (j : Int))) := by
  refine ⟨by simpa using h.1, fun i hi hji => ?_⟩
  rw [Array.getElem?_setIfInBounds]
  by_cases e : i = j
  · subst e
    rw [if_pos rfl, if_pos (by rw [h.1]; exact hx)]
  · have hne : x[j] ≠ x[i] := fun e2 => e (nodup_at hn (List.getElem?_eq_getElem hi) (by rw [List.getElem?_eq_getElem hj, e2]))
    rw [if_neg hne]
    exact h.2 i hi (by omega)
theorem Placed.lt {n : Nat} {f : Nat → Nat → Bool} {x : List Nat} {cs : Array Value} (h : Placed n x 0 cs) (hf : Fit n f x) (hw : Within n f) {i k : Nat} (hp : plusF n f i k = true) (hi : i < n) (hk : k < n) : ∃ a b : Nat, cs[i]? = some (.int .i64 (a : Int)) ∧ cs[k]? = some (.int .i64 (b : Int)) ∧ a < b := by
  obtain ⟨a, ha, ea⟩ := List.getElem_of_mem (hf.mem hi)
  obtain ⟨b, hb, eb⟩ := List.getElem_of_mem (hf.mem hk)
  refine ⟨a, b, by rw [← ea]; exact h.2 a ha (Nat.zero_le _), by rw [← eb]; exact h.2 b hb (Nat.zero_le _), ?_⟩
  exact (hf.plus hw hp).at hf.nodup (by rw [List.getElem?_eq_getElem ha, ea]) (by rw [List.getElem?_eq_getElem hb, eb])

theorem make_ints (n : Nat) (w : World) (hn : n ≤ 100) : (Instr.makeSlice 24 (.int .i64 (n : Int)) (.int .i64 (n : Int))).run Try.prog w = .ok (.slice (some ⟨w.heap.size, 0, none⟩) n n) (w.alloc (.cells (madeCells (Value.int .i64 0).cells n) 3)) := by
  obtain ⟨i, j1, j2, j3, j4⟩ := get_info info_intO
  rw [run_makeSlice (P := Try.prog) w 24 3 _ _ Try.underlying24 j1 j2 .i64 .i64 n n (by omega) (Int.le_refl _) (by rw [j3]; omega) (by rw [j4]; omega) (by omega), j3]
  simp
theorem made_size (n : Nat) : (madeCells (Value.int .i64 0).cells n).size = n := by simp [madeCells]

set_option maxRecDepth 100000 in
set_option maxHeartbeats 4000000 in
theorem OrderBack_true (pa : Option Addr) (ca : Nat) (xs : List Nat) (w : World) (ha : Sl U32E w (.slice pa xs.length ca) xs) :
    Calls Try.prog 6 #[.slice pa xs.length ca] w fun e w' => e = .returned (.bool true) ∧ Below w.heap.size w w' := by
  have C1 := shown6 w
  by_cases h6 : xs.length ≤ 6
  · have h6' : ¬ (6 : Int) < (xs.length : Int) := by omega
    obtain ⟨i0, j1, j2, j3, j4⟩ := get_info info_intO
    have J1 : Hid _ := j1
    have J2 : Hid _ := j2
    have J3 : Hid _ := j3
    have J4 : Hid _ := j4
    clear j1 j2 j3 j4
    have hsz := szR_small h6
    have hW := has_within xs
    rw [hsz] at hW
    have C2 : ∀ w1, Below w.heap.size w w1 → Calls Try.prog 8 #[.slice pa xs.length ca] w1 (ListsT w1 (linF xs.length (hasR xs))) := fun w1 hb => by
      have := Linear_l pa ca xs w1 (ha.keep hb)
      rw [show linL xs = linF xs.length (hasR xs) by unfold linL; rw [if_pos (by omega), hsz]] at this
      exact this
    have C3 : ∀ w1, Below w.heap.size w w1 → Calls Try.prog 19 #[.slice pa xs.length ca] w1 (Tl w1 (plusL xs)) := fun w1 hb => Plus_l pa ca xs w1 (ha.keep hb)
    have hpl : (plusL xs).length = xs.length := by unfold plusL; rw [mkR_len, hsz]
    have hpm : ∀ z ∈ pairsL (plusL xs), z.1 < xs.length ∧ z.2 < xs.length ∧ plusF xs.length (hasR xs) z.1 z.2 = true := fun z hz => by
      obtain ⟨i, k⟩ := z
      have := pairs_mem.1 hz
      rw [plus_hasL, show szR (plusL xs) = szR xs from mkR_sz _ (szR_le xs), hsz] at this
      exact this
    have C5 : ∀ (o : List Nat) (p : Option Addr) (c : Nat) (q : Option Addr) (d : Nat) (w2 : World), Sl NatE w2 (.slice p o.length c) o → Sl U32E w2 (.slice q (invL xs).length d) (invL xs) → Fit xs.length (invF (hasR xs)) o → Calls Try.prog 10 #[.slice p o.length c, .slice q (invL xs).length d] w2 fun e w' => e = .returned (.bool true) ∧ Below w2.heap.size w2 w' := fun o p c q d w2 h h2 hf => by
      have := Fits_any p q c d o (invL xs) w2 h h2
      rw [inv_sz, inv_has, hsz, fits_iff.2 hf] at this
      exact this
    have hlf : ∀ x ∈ linF xs.length (hasR xs), Fit xs.length (hasR xs) x := fun x hx => lin_fit hx
    have hcnt : (linF xs.length (hasR xs)).length ≤ 46656 := lin_count h6
    have hpc := pairsL_len (plusL xs)
    have C4 := fun (p : Option Addr) (c : Nat) (w2 : World) (h : Sl U32E w2 (.slice p (plusL xs).length c) (plusL xs)) => Pairs_l p c (plusL xs) w2 h
    obtain ⟨L, hL⟩ : ∃ L, linF xs.length (hasR xs) = L := ⟨_, rfl⟩
    obtain ⟨PP, hPP⟩ : ∃ L, pairsL (plusL xs) = L := ⟨_, rfl⟩
    obtain ⟨f, hf⟩ : ∃ f, hasR xs = f := ⟨_, rfl⟩
    rw [hL] at C2 hlf hcnt
    rw [hPP] at C4 hpm hpc
    rw [hf] at hpm C5 hlf hW
    have HC2 : Hid _ := C2
    have HC3 : Hid _ := C3
    have HC4 : Hid _ := C4
    have HC5 : Hid _ := C5
    have HLF : Hid _ := hlf
    have HPM : Hid _ := hpm
    have HW : Hid _ := hW
    clear C2 C3 C4 C5 hlf hpm hW hL hPP hf hsz hpl
    go_enter Try.func6, Try.ntmps6
    go_wp2_with (first
      | (go_at_call 7; refine C1.mono ?_; clear C1; rintro e w1 ⟨rfl, hb1⟩)
      | (go_at_call 8; refine (HC2.out w1 hb1).mono ?_; clear HC2; rintro e w2 ⟨p2, c2, rfl, hs2, hb2⟩; have hB2 := Below.thru hb1 hb2 (Nat.le_refl _))
      | (go_at_call 19; refine (HC3.out w2 hB2).mono ?_; clear HC3; rintro e w3 ⟨p3, c3, rfl, hs3, hb3⟩)
      | (go_at_call 18; refine (HC4.out p3 c3 w3 hs3).mono ?_; clear HC4; rintro e w4 ⟨p4, c4, rfl, hs4, hb4⟩))
    have hB4 := Below.thru (Below.thru hB2 hb3 (Nat.le_refl _)) hb4 (Nat.le_refl _)
    have hs2' := (hs2.keep hb3).keep hb4
    clear hs2 hs3 hb1 hb2 hb3 hb4 hB2
    go_loopw [6] (fun i wr => ∃ k : Nat, k ≤ L.length ∧ i = .int .i64 k ∧ Below w4.heap.size w4 wr) (fun i _ => L.length - (intOf i).toNat)
    case atStart => exact ⟨0, Nat.zero_le _, rfl, Below.refl _ _⟩
    case round =>
      obtain ⟨k, hk, rfl, hB5⟩ := hrel
      obtain ⟨w5, rfl⟩ : ∃ x : World, x = wr := ⟨_, rfl⟩
      by_cases hlt : k < L.length
      · have hlt' : (k : Int) < (L.length : Int) := by omega
        have hfit := HLF.out _ (List.getElem_mem hlt)
        obtain ⟨b2, o2, rfl, v2, hc2, hv2⟩ := (sl_at (hs2'.keep hB5)).2 k hlt
        obtain ⟨pv, cv, rfl⟩ := hv2.len
        have l2 := cell_lt hc2
        generalize L[k] = x at *
        have hxl := hfit.len
        have hmk := make_ints xs.length w5 (by omega)
        have HFIT : Hid _ := hfit
        have HXL : Hid _ := hxl
        clear hfit hxl
        have hx6 : x.length ≤ 6 := by rw [HXL.out]; exact h6
        have ba : Below w5.heap.size w5 (w5.alloc (.cells (madeCells (Value.int .i64 0).cells xs.length) 3)) := (Below.refl _ _).alloc (Nat.le_refl _) _
        have hcell1 := cell_keep hc2 ba
        have hBP : Blk (w5.alloc (.cells (madeCells (Value.int .i64 0).cells xs.length) 3)) w5.heap.size (madeCells (Value.int .i64 0).cells xs.length) 3 := Blk.new
        have hv6 := hv2.keep ba
        have HMZ : Hid _ := made_size xs.length
        generalize madeCells (Value.int .i64 0).cells xs.length = cs0 at *
        go_wp2
        go_loopw [7, 9] (fun s i wr => ∃ (j : Nat) (cs : Array Value), j ≤ x.length ∧ i = .int .i64 ((j : Int) - 1) ∧ Own (fun _ => False) NatE wr (w5.heap.size + 1) 3 s (x.drop j).reverse ∧ Blk wr w5.heap.size cs 3 ∧ Placed xs.length x j cs ∧ Below w5.heap.size w5 wr) (fun _ i _ => (intOf i + 1).toNat)
        case atStart => exact ⟨x.length, cs0, Nat.le_refl _, rfl, by simpa using Own.nil, hBP, ⟨HMZ.out, fun i h1 h2 => by omega⟩, ba⟩
        case round =>
          obtain ⟨j, cs, hj, rfl, hO, hBk, hPl, hB6⟩ := hrel
          obtain ⟨w6, rfl⟩ : ∃ x : World, x = wr := ⟨_, rfl⟩
          obtain ⟨ps, cps, rfl⟩ := hO.len
          have hrl : (x.drop j).reverse.length = x.length - j := by simp
          rw [hrl] at hO ⊢
          have HPL : Hid _ := hPl
          clear hPl
          have hc6 := cell_keep hc2 hB6
          have lp := hBk.lt
          cases j with
          | succ j =>
            have hjl : j < x.length := by omega
            have hjl' : (j : Int) < (x.length : Int) := by omega
            have e1 : ((j + 1 : Nat) : Int) - 1 = (j : Int) := by omega
            rw [e1]
            obtain ⟨bv, ov, rfl, _, hvc⟩ := (nat_at (hv2.keep hB6)).2 j hjl
            have hyn : x[j] < xs.length := HFIT.out.lt _ (List.getElem_mem hjl)
            have hyn' : (x[j] : Int) < (xs.length : Int) := by omega
            have hyn2 : ¬ (xs.length : Int) ≤ (x[j] : Int) := by omega
            have hps := Placed.step HPL.out HFIT.out.nodup hjl hyn
            have hre : (x.drop j).reverse = (x.drop (j + 1)).reverse ++ [x[j]] := by rw [List.drop_eq_getElem_cons hjl, List.reverse_cons]
            have hcy : (cs[x[j]]?).isSome = true := by rw [Array.getElem?_eq_getElem (by rw [HPL.out.1]; exact hyn)]; rfl
            have HPS : Hid _ := hps
            have HRE : Hid _ := hre
            have HCY : Hid _ := hcy
            clear hps hre hcy
            generalize x[j] = y at *
            obtain ⟨z0, hz0⟩ := Option.isSome_iff_exists.1 HCY.out
            have hb7 := (Below.refl w6.heap.size w6).alloc (Nat.le_refl _) (.cells #[.int .i64 (y : Int)] 3)
            have hz7 : w5.heap.size + 1 ≤ (w6.alloc (.cells #[.int .i64 (y : Int)] 3)).heap.size := by simp; omega
            go_wp2_with (at_builtin; refine wpList_appB (R := NatE) (A := fun _ => False) (B := fun _ => True) (xs := (x.drop (j + 1)).reverse) (ys := [y]) (by rfl) (.tmp 56) (.tmp 58) 24 3 i0 (.int .i64 0) 8 (by rfl) Try.underlying24 J1.out J2.out J3.out J4.out (by rfl) (w5.heap.size + 1) (.slice ps (x.length - (j + 1)) cps) (.slice (some ⟨w6.heap.size, 0, none⟩) 1 1) (by rfl) (by rfl) (hO.keep hb7) (sl_nat1 trivial (by simp)) (fun _ _ _ h => h) (by simp only [List.length_cons, List.length_nil, List.length_reverse, List.length_drop]; unfold maxLen; omega) (by simp only [List.length_cons, List.length_nil, List.length_reverse, List.length_drop]; omega) hz7 ?_; intro p8 k8 w8 hO8 hg8 hw8; have B8 := Blk.grown (hBk.keep hb7) hg8 (fun e => by have := (hO.lt _ e.symm).1; omega); have c8 := B8.cell y; have f8 := B8.frozen y; rw [hz0] at c8)
            go_roundw
            case rel => exact ⟨j, _, by omega, by go_num, by rw [HRE.out]; exact Own.agree (by simpa using hO8) (grownBy_set _ ⟨w5.heap.size, y, none⟩ (.int .i64 (j : Int))) (fun q e => by cases e; exact ⟨id, fun e2 => by have := (hO8.lt _ (by simpa using e2)).1; omega⟩), Blk.set (i := y) B8 (.int .i64 (j : Int)), HPS.out, below_set ((Below.thru hB6 hb7 (Nat.le_refl _)).grown hg8 (by omega) (fun q e => by have := (hO.lt q e).1; omega)) (Nat.le_refl _) _⟩
            case measure => simp [intOf]
          | zero =>
            have e0 : x.length - 0 = x.length := rfl
            have hO' : Own (fun _ => False) NatE w6 (w5.heap.size + 1) 3 (.slice ps x.reverse.length cps) x.reverse := by simpa using hO
            have hxr : x.reverse.length = x.length := by simp
            have CI := Inv_l pa ca xs w6 (((ha.keep hB4).keep hB5).keep hB6)
            have CF := fun (q : Option Addr) (d : Nat) (w7 : World) (hb : Below w6.heap.size w6 w7) (h : Sl U32E w7 (.slice q (invL xs).length d) (invL xs)) => HC5.out x.reverse ps cps q d w7 ((hO'.sl.any).keep hb) h HFIT.out.back
            rw [hxr] at CF
            have HCF : Hid _ := CF
            clear CF hO' hxr
            rw [e0]
            clear e0
            go_wp2_with (first
              | (go_at_call 20; refine CI.mono ?_; clear CI; rintro e w7 ⟨p7, c7, rfl, hs7, hb7⟩)
              | (go_at_call 10; refine (HCF.out p7 c7 w7 hb7 hs7).mono ?_; clear HCF; rintro e w8 ⟨rfl, hb8⟩))
            have hB8 := Below.thru hb7 hb8 (Nat.le_refl _)
            have hBk8 := hBk.keep hB8
            have hs8 := (((hs4.keep hB5).keep hB6).keep hB8)
            have hB58 := Below.thru hB6 hB8 (Nat.le_refl _)
            clear hBk hB6 hB8 hb7 hb8 hs7 hc6 lp
            go_loopw [11] (fun i wr => ∃ m : Nat, m ≤ PP.length ∧ i = .int .i64 m ∧ Below w8.heap.size w8 wr) (fun i _ => PP.length - (intOf i).toNat)
            case atStart => exact ⟨0, Nat.zero_le _, rfl, Below.refl _ _⟩
            case round =>
              obtain ⟨m, hm, rfl, hB9⟩ := hrel
              by_cases hmp : m < PP.length
              · have hmp' : (m : Int) < (PP.length : Int) := by omega
                obtain ⟨b4, o4, rfl, hq1, hq2⟩ := (pair_at (hs8.keep hB9)).2 m hmp
                obtain ⟨m1, m2, m3⟩ := HPM.out _ (List.getElem_mem hmp)
                have hB10 := hBk8.keep hB9
                obtain ⟨a, b, e1, e2, hab⟩ := Placed.lt HPL.out HFIT.out HW.out m3 m1 m2
                have d1 := hB10.cell PP[m].1
                have d2 := hB10.cell PP[m].2
                rw [e1] at d1
                rw [e2] at d2
                have n1 : (PP[m].1 : Int) < (xs.length : Int) := by omega
                have n2 : (PP[m].2 : Int) < (xs.length : Int) := by omega
                have l4 := cell_lt hq1
                have l5 := cell_lt d1
                have hne : ∀ w, Nonempty (Ext w) := ext_some
                have hab' : decide (b ≤ a) = false := by simp; omega
                clear m1 m2 m3 e1 e2
                generalize PP[m].1 = y1 at *
                generalize PP[m].2 = y2 at *
                go_wp2
                refine wp_region_ext (by kernel_rfl) (by kernel_rfl) ?_
                repeat (go_big_quiet_step (fail))
                refine wpQuiet_nil ?_
                rintro _ ⟨rr, rfl⟩
                go_wp2
                go_roundw
                case rel => exact ⟨m + 1, by omega, by go_num, Below.thru hB9 rr.ok (Nat.le_refl _)⟩
                case measure => simp [intOf]; omega
              · go_wp2
                go_roundw
                case rel => exact ⟨k + 1, by omega, by go_num, Below.thru hB5 (Below.thru hB58 hB9 (Nat.le_refl _)) (Nat.le_refl _)⟩
                case measure => simp [intOf]; omega
      · go_wp2
        go_ret
        exact ⟨rfl, Below.thru hB4 hB5 (Nat.le_refl _)⟩
  · have h6' : (6 : Int) < (xs.length : Int) := by omega
    go_enter Try.func6, Try.ntmps6
    go_wp2_with (go_at_call 7; refine C1.mono ?_; clear C1; rintro e w1 ⟨rfl, hb1⟩)
    go_ret
    exact ⟨rfl, hb1⟩
end Go.Proofs.Ytpgbedaonjfpnaa
