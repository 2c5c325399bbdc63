/- The contracts of order.Fits, and of the document's Ints, In, Lists, at lists of numbers. -/
import Derived.Test.YtpgbedaonjfpnaaOrdCol
import Derived.Test.YtpgbedaonjfpnaaInts
namespace Go.Proofs.Ytpgbedaonjfpnaa
open Go.RowKit Go.Shelf
attribute [local go_sem] Ext.cell Ext.frozen

theorem fitsFrom_lt {n : Nat} {f : Nat → Nat → Bool} {l : List Nat} {k : Nat} {y : List Nat} : fitsFrom n f l (k :: y) = (decide (k < n) && stands n f l k && fitsFrom n f (l ++ [k]) y) := rfl
set_option maxHeartbeats 2000000 in
theorem Fits_any (p q : Option Addr) (c d : Nat) (l xs : List Nat) (w : World) (hl : Sl NatE w (.slice p l.length c) l) (hx : Sl U32E w (.slice q xs.length d) xs) :
    Calls Try.prog 10 #[.slice p l.length c, .slice q xs.length d] w fun e w' => e = .returned (.bool (fitsL (szR xs) (hasR xs) l)) ∧ Below w.heap.size w w' := by
  have C := Inv_l q d xs w hx
  have il := inv_len xs
  have h32 := szR_le xs
  have hmay := fun t (ht : ∀ a ∈ t, a < szR xs) k => may_stands (xs := xs) ht k
  generalize hrs : invL xs = rs at *
  clear hrs
  have HMAY : Hid _ := hmay
  clear hmay
  by_cases hlen : l.length = szR xs
  · have ef : Hid _ := (show fitsL (szR xs) (hasR xs) l = fitsFrom (szR xs) (hasR xs) [] l by simp [fitsL, hlen])
    have t1 : ((l.length : Int) != (rs.length : Int)) = false := by rw [il, hlen]; simp
    have HL : Hid _ := hlen
    have HIL : Hid _ := il
    clear hlen il
    have hl32 : l.length ≤ 32 := by have := HL.out; omega
    go_enter Try.func10, Try.ntmps10
    go_wp2_with (go_at_call 20; refine C.mono ?_; clear C; rintro e w1 ⟨p1, c1, rfl, hr, hb1⟩)
    go_loopw [6, 18] (fun m i wr => ∃ k : Nat, k ≤ l.length ∧ i = .int .i64 k ∧ m = .int .u32 (mask (l.take k) : Nat) ∧ (∀ a ∈ l.take k, a < szR xs) ∧ fitsFrom (szR xs) (hasR xs) (l.take k) (l.drop k) = fitsFrom (szR xs) (hasR xs) [] l ∧ Below w1.heap.size w1 wr) (fun _ i _ => l.length - (intOf i).toNat)
    case atStart => exact ⟨0, Nat.zero_le _, rfl, rfl, by simp, by simp, Below.refl _ _⟩
    case round =>
      obtain ⟨k, hk, rfl, rfl, hlt, hfit, hBr⟩ := hrel
      have HF : Hid _ := hfit
      clear hfit
      by_cases hkl : k < l.length
      · have hkl' : (k : Int) < (l.length : Int) := by omega
        obtain ⟨_, hat⟩ := nat_at ((hl.keep hb1).keep hBr)
        obtain ⟨lb, lo, rfl, _, hc⟩ := hat k hkl
        clear hat
        have hpl := mask_lt (l := l.take k) fun a ha => by have := hlt a ha; omega
        have C1 := mayStand_any p1 c1 rs l[k] (mask (l.take k)) wr (hr.keep hBr) (by have := HIL.out; omega) hpl
        rw [HMAY.out _ hlt] at C1
        have hdrop : l.drop k = l[k] :: l.drop (k + 1) := drop_at hkl
        have htake : l.take (k + 1) = l.take k ++ [l[k]] := List.take_succ_eq_append_getElem hkl
        have hstep : fitsFrom (szR xs) (hasR xs) [] l = ((decide (l[k] < szR xs) && stands (szR xs) (hasR xs) (l.take k) l[k]) && fitsFrom (szR xs) (hasR xs) (l.take (k + 1)) (l.drop (k + 1))) := by
          rw [← HF.out, hdrop, fitsFrom_lt, htake]
        have hor : l[k] < szR xs → bits .or .u32 (mask (l.take k) : Nat) ((2 : Int) ^ l[k] % 4294967296) = ((mask (l.take (k + 1)) : Nat) : Int) := fun h => by rw [htake]; exact or_mask (fun a ha => by have := hlt a ha; omega) (by omega)
        have hlt2 : l[k] < szR xs → ∀ a ∈ l.take (k + 1), a < szR xs := fun h a ha => by
          rw [htake] at ha
          rcases List.mem_append.1 ha with h1 | h1
          · exact hlt a h1
          · simp at h1; omega
        have HS : Hid _ := hstep
        have HOR : Hid _ := hor
        have HL2 : Hid _ := hlt2
        clear hstep hor hlt2 hdrop htake
        generalize mask (l.take k) = pl at *
        generalize l[k] = z at *
        cases hs : (decide (z < szR xs) && stands (szR xs) (hasR xs) (l.take k) z) with
        | false =>
          rw [hs] at C1
          have HSS : Hid _ := hs
          clear hs
          go_wp2_with (go_at_call 26; refine C1.mono ?_; clear C1; rintro e w3 ⟨rfl, hb3⟩)
          go_ret
          refine ⟨?_, Below.thru (Below.thru hb1 hBr (Nat.le_refl _)) hb3 (Nat.le_refl _)⟩
          rw [ef.out, HS.out, HSS.out]; rfl
        | true =>
          rw [hs] at C1
          have hz : z < szR xs := by simp only [Bool.and_eq_true, decide_eq_true_eq] at hs; exact hs.1
          have HSS : Hid _ := hs
          clear hs
          have HO := HOR.out hz
          have hz32 : z < 32 := by omega
          go_wp2_with (go_at_call 26; refine C1.mono ?_; clear C1; rintro e w3 ⟨rfl, hb3⟩)
          go_roundw
          case rel => exact ⟨k + 1, by omega, by go_num, rfl, HL2.out hz, by rw [HS.out, HSS.out, Bool.true_and], Below.thru hBr hb3 (Nat.le_refl _)⟩
          case measure => simp [intOf]; omega
      · have ek : k = l.length := by omega
        have hd : Hid _ := (show l.drop k = [] by rw [ek]; simp)
        clear ek
        go_wp2
        go_ret
        refine ⟨?_, Below.thru hb1 hBr (Nat.le_refl _)⟩
        rw [ef.out, ← HF.out, hd.out]; rfl
  · have ef : Hid _ := (show fitsL (szR xs) (hasR xs) l = false by simp [fitsL, hlen])
    have t1 : ((l.length : Int) != (rs.length : Int)) = true := by
      rw [il, bne_iff_ne]; omega
    clear hlen il
    go_enter Try.func10, Try.ntmps10
    go_wp2_with (go_at_call 20; refine C.mono ?_; clear C; rintro e w1 ⟨p1, c1, rfl, hr, hb1⟩)
    go_ret
    exact ⟨by rw [ef.out]; rfl, hb1⟩

theorem nat_cells {A : Nat → Prop} {w : World} {p : Option Addr} {c : Nat} {xs : List Nat} (h : SlA A NatE w (.slice p xs.length c) xs) (hne : xs ≠ []) : ∃ b o, p = some ⟨b, o, none⟩ ∧ ∀ i, i < (xs.map Int.ofNat).length → w.cell? ⟨b, o + i, none⟩ = some (.int .i64 ((xs.map Int.ofNat).getD i 0)) := by
  obtain ⟨_, hat⟩ := nat_at h
  cases xs with
  | nil => exact absurd rfl hne
  | cons x xs =>
    obtain ⟨b, o, rfl, _, _⟩ := hat 0 (by simp)
    refine ⟨b, o, rfl, fun i hi => ?_⟩
    have hi' : i < (x :: xs).length := by simpa using hi
    obtain ⟨b2, o2, e2, _, h4⟩ := hat i hi'
    cases e2
    rw [h4, List.getD_eq_getElem?_getD, List.getElem?_map, List.getElem?_eq_getElem hi']
    rfl
theorem Ints_nat {A B : Nat → Prop} (p q : Option Addr) (c d : Nat) (xs ys : List Nat) (w : World) (hx : SlA A NatE w (.slice p xs.length c) xs) (hy : SlA B NatE w (.slice q ys.length d) ys) (hn : xs.length ≤ 1000000) :
    Calls Try.prog 11 #[.slice p xs.length c, .slice q ys.length d] w fun e w' => e = .returned (.bool (decide (xs = ys))) ∧ Below w.heap.size w w' := by
  by_cases hl : xs.length = ys.length
  · by_cases hne : xs = []
    · subst hne
      have hy0 : ys = [] := List.length_eq_zero_iff.1 hl.symm
      subst hy0
      refine (Ints_nil p q c d w).mono ?_
      rintro e w' ⟨rfl, rfl⟩
      exact ⟨rfl, Below.refl _ _⟩
    · obtain ⟨b1, o1, rfl, h1⟩ := nat_cells hx hne
      obtain ⟨b2, o2, rfl, h2⟩ := nat_cells hy (fun e => hne (List.length_eq_zero_iff.1 (by rw [hl, e]; rfl)))
      have hc := Ints_same b1 o1 b2 o2 c d (xs.map Int.ofNat) (ys.map Int.ofNat) w (by simpa using hn) (by simpa using hl.symm) h1 (fun i hi => h2 i (by simpa [hl] using hi))
      simp only [List.length_map] at hc
      rw [← hl]
      refine hc.mono ?_
      rintro e w' ⟨rfl, n, rfl⟩
      refine ⟨?_, below_drewN n (Below.refl _ _)⟩
      congr 2
      refine decide_eq_decide.2 ⟨fun h => ?_, fun h => by rw [h]⟩
      exact (List.map_inj_right (fun x y hxy => Int.ofNat.inj hxy)).1 h
  · refine (Ints_len p q xs.length ys.length c d w hl).mono ?_
    rintro e w' ⟨rfl, rfl⟩
    refine ⟨?_, Below.refl _ _⟩
    have : xs ≠ ys := fun e => hl (by rw [e])
    simp [this]

set_option maxHeartbeats 1000000 in
theorem In_nat (p : Option Addr) (c : Nat) (xs : List Nat) (z : Nat) (w : World) (hx : Sl NatE w (.slice p xs.length c) xs) (hn : xs.length ≤ 1000000) :
    Calls Try.prog 12 #[.slice p xs.length c, .int .i64 (z : Int)] w fun e w' => e = .returned (.bool (xs.contains z)) ∧ Below w.heap.size w w' := by
  go_enter Try.func12, Try.ntmps12
  go_wp2
  go_loopw [5] (fun i wr => ∃ k : Nat, k ≤ xs.length ∧ i = .int .i64 k ∧ (xs.drop k).contains z = xs.contains z ∧ Below w.heap.size w wr) (fun i _ => xs.length - (intOf i).toNat)
  case atStart => exact ⟨0, Nat.zero_le _, rfl, by simp, Below.refl _ _⟩
  case round =>
    obtain ⟨k, hk, rfl, hc, hB⟩ := hrel
    have HC : Hid _ := hc
    clear hc
    by_cases hlt : k < xs.length
    · have hlt' : (k : Int) < (xs.length : Int) := by omega
      obtain ⟨b, o, rfl, _, hcell⟩ := (nat_at (hx.keep hB)).2 k hlt
      have HD : Hid _ := (show xs.drop k = xs[k] :: xs.drop (k + 1) from drop_at hlt)
      generalize xs[k] = y at *
      by_cases hyz : y = z
      · subst hyz
        have HR : Hid _ := (show xs.contains y = true by rw [← HC.out, HD.out]; simp)
        go_wp2
        go_ret
        exact ⟨by rw [HR.out]; rfl, hB⟩
      · have hyz' : ((y : Int) == (z : Int)) = false := by rw [beq_eq_false_iff_ne]; omega
        have HR : Hid _ := (show (xs.drop (k + 1)).contains z = xs.contains z by
          rw [← HC.out, HD.out, List.contains_cons]
          have : (z == y) = false := by rw [beq_eq_false_iff_ne]; omega
          rw [this, Bool.false_or])
        clear hyz
        go_wp2
        go_roundw
        case rel => exact ⟨k + 1, by omega, by go_num, HR.out, hB⟩
        case measure => simp [intOf]; omega
    · have ek : k = xs.length := by omega
      have HR : Hid _ := (show xs.contains z = false by rw [← HC.out, ek]; simp)
      clear ek
      go_wp2
      go_ret
      exact ⟨by rw [HR.out]; rfl, hB⟩

set_option maxHeartbeats 1000000 in
theorem Index_nat (p : Option Addr) (c : Nat) (xs : List Nat) (z : Nat) (w : World) (hx : Sl NatE w (.slice p xs.length c) xs) (hn : xs.length ≤ 1000000) :
    Calls Try.prog 39 #[.slice p xs.length c, .int .i64 (z : Int)] w fun e w' => (∃ i : Int, e = .returned (.int .i64 i) ∧ decide (0 ≤ i) = xs.contains z) ∧ Below w.heap.size w w' := by
  go_enter Try.func39, Try.ntmps39
  go_wp2
  go_loopw [8] (fun i wr => ∃ k : Nat, k ≤ xs.length ∧ i = .int .i64 k ∧ (xs.drop k).contains z = xs.contains z ∧ Below w.heap.size w wr) (fun i _ => xs.length - (intOf i).toNat)
  case atStart => exact ⟨0, Nat.zero_le _, rfl, by simp, Below.refl _ _⟩
  case round =>
    obtain ⟨k, hk, rfl, hc, hB⟩ := hrel
    have HC : Hid _ := hc
    clear hc
    by_cases hlt : k < xs.length
    · have hlt' : (k : Int) < (xs.length : Int) := by omega
      obtain ⟨b, o, rfl, _, hcell⟩ := (nat_at (hx.keep hB)).2 k hlt
      have HD : Hid _ := (show xs.drop k = xs[k] :: xs.drop (k + 1) from drop_at hlt)
      generalize xs[k] = y at *
      by_cases hyz : y = z
      · subst hyz
        have HR : Hid _ := (show xs.contains y = true by rw [← HC.out, HD.out]; simp)
        go_wp2
        go_ret
        exact ⟨⟨_, rfl, by rw [HR.out]; simp⟩, hB⟩
      · have hyz' : ((z : Int) == (y : Int)) = false := by rw [beq_eq_false_iff_ne]; omega
        have HR : Hid _ := (show (xs.drop (k + 1)).contains z = xs.contains z by
          rw [← HC.out, HD.out, List.contains_cons]
          have : (z == y) = false := by rw [beq_eq_false_iff_ne]; omega
          rw [this, Bool.false_or])
        clear hyz
        go_wp2
        go_roundw
        case rel => exact ⟨k + 1, by omega, by go_num, HR.out, hB⟩
        case measure => simp [intOf]; omega
    · have ek : k = xs.length := by omega
      have HR : Hid _ := (show xs.contains z = false by rw [← HC.out, ek]; simp)
      clear ek
      go_wp2
      go_ret
      exact ⟨⟨_, rfl, by rw [HR.out]; rfl⟩, hB⟩
set_option maxHeartbeats 1000000 in
theorem Contains_nat (p : Option Addr) (c : Nat) (xs : List Nat) (z : Nat) (w : World) (hx : Sl NatE w (.slice p xs.length c) xs) (hn : xs.length ≤ 1000000) :
    Calls Try.prog 28 #[.slice p xs.length c, .int .i64 (z : Int)] w fun e w' => e = .returned (.bool (xs.contains z)) ∧ Below w.heap.size w w' := by
  have C := Index_nat p c xs z w hx hn
  go_enter Try.func28, Try.ntmps28
  go_wp2_with (go_at_call 39; refine C.mono ?_; clear C; rintro e w1 ⟨⟨i, rfl, hi⟩, hb⟩; have HI : Hid _ := hi; clear hi)
  all_goals (go_ret; exact ⟨by rw [← HI.out]; first | rfl | simp [*], hb⟩)

set_option maxHeartbeats 1000000 in
theorem Lists_nat {A B : Nat → Prop} (p q : Option Addr) (c d : Nat) (xs ys : List (List Nat)) (w : World) (hx : SlA A (SlE NatE) w (.slice p xs.length c) xs) (hy : SlA B (SlE NatE) w (.slice q ys.length d) ys) (hn : xs.length ≤ 1000000) (hl : ∀ x ∈ xs, x.length ≤ 1000000) :
    Calls Try.prog 13 #[.slice p xs.length c, .slice q ys.length d] w fun e w' => e = .returned (.bool (decide (xs = ys))) ∧ Below w.heap.size w w' := by
  by_cases hlen : xs.length = ys.length
  · have t1 : ((xs.length : Int) != (ys.length : Int)) = false := by rw [hlen]; simp
    have HL : Hid _ := hlen
    clear hlen
    go_enter Try.func13, Try.ntmps13
    go_wp2
    go_loopw [5] (fun i wr => ∃ k : Nat, k ≤ xs.length ∧ i = .int .i64 k ∧ xs.take k = ys.take k ∧ Below w.heap.size w wr) (fun i _ => xs.length - (intOf i).toNat)
    case atStart => exact ⟨0, Nat.zero_le _, rfl, by simp, Below.refl _ _⟩
    case round =>
      obtain ⟨k, hk, rfl, htk, hB⟩ := hrel
      have HT : Hid _ := htk
      clear htk
      by_cases hlt : k < xs.length
      · have hlt' : (k : Int) < (xs.length : Int) := by omega
        have hltY : k < ys.length := by rw [← HL.out]; exact hlt
        have hltY' : (k : Int) < (ys.length : Int) := by omega
        obtain ⟨b, o, rfl, v, hcv, hv⟩ := (sl_at (hx.keep hB)).2 k hlt
        obtain ⟨b2, o2, rfl, v2, hcv2, hv2⟩ := (sl_at (hy.keep hB)).2 k hltY
        obtain ⟨pv, kv, rfl⟩ := hv.len
        obtain ⟨pv2, kv2, rfl⟩ := hv2.len
        have hxl := hl _ (List.getElem_mem hlt)
        have l1 := cell_lt hcv
        have l2 := cell_lt hcv2
        have hne : ∀ w, Nonempty (Ext w) := ext_some
        have ht1 : xs.take (k + 1) = xs.take k ++ [xs[k]] := List.take_succ_eq_append_getElem hlt
        have ht2 : ys.take (k + 1) = ys.take k ++ [ys[k]] := List.take_succ_eq_append_getElem hltY
        have hex : xs = xs.take k ++ xs[k] :: xs.drop (k + 1) := by rw [← List.drop_eq_getElem_cons hlt, List.take_append_drop]
        have hey : ys = ys.take k ++ ys[k] :: ys.drop (k + 1) := by rw [← List.drop_eq_getElem_cons hltY, List.take_append_drop]
        have CC : ∀ q : Ext wr, Calls Try.prog 11 #[.slice pv xs[k].length kv, .slice pv2 ys[k].length kv2] q.wd fun e w'' => e = .returned (.bool (decide (xs[k] = ys[k]))) ∧ ∃ q' : Ext wr, w'' = q'.wd := fun q => calls_ext (Ints_nat pv pv2 kv kv2 xs[k] ys[k] q.wd (hv.keep q.ok) (hv2.keep q.ok) hxl)
        have hne2 : xs[k] ≠ ys[k] → xs ≠ ys := fun h e => h (by subst e; rfl)
        have hT2 : xs[k] = ys[k] → xs.take (k + 1) = ys.take (k + 1) := fun h => by rw [ht1, ht2, HT.out, h]
        have HN : Hid _ := hne2
        have HT2 : Hid _ := hT2
        clear ht1 ht2 hex hey hne2 hT2 hv hv2 hxl
        generalize xs[k] = x at *
        generalize ys[k] = y at *
        have HCC : Hid _ := CC
        clear CC
        by_cases hxy : x = y
        · have hd : decide (x = y) = true := decide_eq_true hxy
          have HXY : Hid _ := hxy
          clear hxy
          go_wp2
          refine wp_region_ext (by kernel_rfl) (by kernel_rfl) ?_
          repeat (go_big_quiet_step (first | (with_reducible exact HCC.out _)))
          refine wpQuiet_nil ?_
          rintro _ ⟨rr, rfl⟩
          go_wp2
          go_roundw
          case rel => exact ⟨k + 1, by omega, by go_num, HT2.out HXY.out, Below.thru hB rr.ok (Nat.le_refl _)⟩
          case measure => simp [intOf]; omega
        · have hd : decide (x = y) = false := decide_eq_false hxy
          have HXY : Hid _ := hxy
          clear hxy
          go_wp2
          refine wp_region_ext (by kernel_rfl) (by kernel_rfl) ?_
          repeat (go_big_quiet_step (first | (with_reducible exact HCC.out _)))
          refine wpQuiet_nil ?_
          rintro _ ⟨rr, rfl⟩
          go_wp2
          go_ret
          exact ⟨by rw [decide_eq_false (HN.out HXY.out)]; rfl, Below.thru hB rr.ok (Nat.le_refl _)⟩
      · have HE : Hid _ := (show xs = ys by
          have h := HT.out
          have h1 := HL.out
          rw [List.take_of_length_le (by omega), List.take_of_length_le (by omega)] at h
          exact h)
        go_wp2
        go_ret
        exact ⟨by rw [decide_eq_true HE.out]; rfl, hB⟩
  · have t1 : ((xs.length : Int) != (ys.length : Int)) = true := by rw [bne_iff_ne]; omega
    have HL : Hid _ := (show xs ≠ ys from fun e => hlen (by rw [e]))
    clear hlen
    go_enter Try.func13, Try.ntmps13
    go_wp2
    go_ret
    exact ⟨by rw [decide_eq_false HL.out]; rfl, Below.refl _ _⟩
end Go.Proofs.Ytpgbedaonjfpnaa
