/- Contracts of rel's Acyclic, Same, Pairs, and of slices.Equal. -/
import Derived.Test.YtpgbedaonjfpnaaRelClose
namespace Go.Proofs.Ytpgbedaonjfpnaa
open Go.RowKit
attribute [local go_sem] Ext.cell Ext.frozen

set_option maxHeartbeats 4000000 in
theorem Acyclic_any (p : Option Addr) (c : Nat) (xs : List Nat) (w : World) (hx : Sl U32E w (.slice p xs.length c) xs) : Calls Try.prog 16 #[.slice p xs.length c] w fun e w' => e = .returned (.bool (acyF (szR xs) (hasR xs))) ∧ Below w.heap.size w w' := by
  have C := Plus_any p c xs w hx
  have h32 := szR_le xs
  generalize hasR xs = f at *
  generalize szR xs = n at *
  clear hx
  go_enter Try.func16, Try.ntmps16
  go_wp2_with (go_at_call 19; refine C.mono ?_; rintro e w1 ⟨b, rfl, hR, hb, hB⟩)
  clear C
  go_loopw [9] (fun i wr => ∃ k : Nat, k ≤ n ∧ i = .int .i64 k ∧ ((List.range n).drop k).all (fun i => !plusF n f i i) = acyF n f ∧ Below w1.heap.size w1 wr) (fun i _ => n - (intOf i).toNat)
  case atStart => exact ⟨0, Nat.zero_le _, rfl, rfl, Below.refl _ _⟩
  case round =>
    obtain ⟨k, hk, rfl, hF, hBr⟩ := hrel
    have HF : Hid _ := hF
    clear hF
    by_cases hlt : k < n
    · have hlt' : (k : Int) < (n : Int) := by omega
      have hRr := hR.keep hBr
      have hc := hRr.cell hlt
      have C1 := hasBit_any (rowN (plusF n f k) n) k wr (rowN_u32 h32) (by omega)
      rw [rowN_bit, decide_eq_true hlt, Bool.true_and] at C1
      have HG := HF.out
      rw [drop_at (by simpa using hlt), List.getElem_range, List.all_cons] at HG
      generalize rowN (plusF n f k) n = x at *
      cases hbit : plusF n f k k with
      | true =>
        rw [hbit] at C1 HG
        have HG : Hid _ := HG
        clear hbit
        go_wp2_with (go_at_call 29; refine C1.mono ?_; rintro e w3 ⟨rfl, hb3⟩)
        go_ret
        exact ⟨by rw [← HG.out]; rfl, Below.thru (Below.thru hB hBr (Nat.le_refl _)) hb3 (Nat.le_refl _)⟩
      | false =>
        rw [hbit] at C1 HG
        have HG : Hid _ := HG
        clear hbit
        go_wp2_with (go_at_call 29; refine C1.mono ?_; rintro e w3 ⟨rfl, hb3⟩)
        go_roundw
        case rel => exact ⟨k + 1, by omega, by go_num, HG.out, Below.thru hBr hb3 (Nat.le_refl _)⟩
        case measure => simp [intOf]; omega
    · have e : k = n := by omega
      have hlt' : ¬ (k : Int) < (n : Int) := by omega
      subst e
      have HG := HF.out
      rw [List.drop_of_length_le (by simp), List.all_nil] at HG
      have HG : Hid _ := HG
      go_wp2
      go_ret
      exact ⟨by rw [← HG.out]; rfl, Below.thru hB hBr (Nat.le_refl _)⟩

/-- The pairs of i, as far as k; and of all ahead of i. -/
def rowP (f : Nat → Nat → Bool) (i k : Nat) : List (Nat × Nat) := ((List.range k).filter (f i)).map fun y => (i, y)
def pairsTo (f : Nat → Nat → Bool) (n i : Nat) : List (Nat × Nat) := (List.range i).flatMap fun x => rowP f x n
theorem pairsTo_all (f : Nat → Nat → Bool) (n : Nat) : pairsTo f n n = pairsF n f := rfl
theorem pairsTo_succ (f : Nat → Nat → Bool) (n i : Nat) : pairsTo f n (i + 1) = pairsTo f n i ++ rowP f i n := by
  simp [pairsTo, List.range_succ, List.flatMap_append]
theorem rowP_yes {f : Nat → Nat → Bool} {i k : Nat} (h : f i k = true) : rowP f i (k + 1) = rowP f i k ++ [(i, k)] := by
  simp [rowP, List.range_succ, List.filter_append, h]
theorem rowP_no {f : Nat → Nat → Bool} {i k : Nat} (h : f i k = false) : rowP f i (k + 1) = rowP f i k := by
  simp [rowP, List.range_succ, List.filter_append, h]
theorem pair_one {w : World} {b c i k : Nat} (h0 : w.cell? ⟨b, 0, none⟩ = some (.int .i64 (i : Int))) (h1 : w.cell? ⟨b, 1, none⟩ = some (.int .i64 (k : Int))) (hc : 1 ≤ c := by decide) : Sl PairE w (.slice (some ⟨b, 0, none⟩) 1 c) [(i, k)] := by
  refine ⟨_, c, rfl, ⟨(fun e => by cases e), hc⟩, fun _ => ⟨b, 0, rfl, trivial, fun j hj => ?_⟩⟩
  have hj' : j = 0 := by simp at hj; omega
  subst hj'
  refine ⟨[.int .i64 (i : Int), .int .i64 (k : Int)], rfl, fun m u hu => ?_⟩
  match m, hu with
  | 0, hu => simp at hu; subst hu; simpa using h0
  | 1, hu => simp at hu; subst hu; simpa using h1
  | m + 2, hu => simp at hu
theorem info_pair : ((Try.prog.info? 45).map fun i => (i.zero, i.size, i.bytes)) = some (some (.agg #[.int .i64 0, .int .i64 0]), 2, 16) := by kernel_rfl

set_option maxHeartbeats 4000000 in
theorem Pairs_any (p : Option Addr) (c : Nat) (xs : List Nat) (w : World) (hx : Sl U32E w (.slice p xs.length c) xs) : Calls Try.prog 18 #[.slice p xs.length c] w fun e w' => ∃ v, e = .returned v ∧ Sl PairE w' v (pairsF (szR xs) (hasR xs)) ∧ Below w.heap.size w w' := by
  obtain ⟨i0, j1, j2, j3, j4⟩ := get_info info_pair
  have J1 : Hid _ := j1
  have J2 : Hid _ := j2
  have J3 : Hid _ := j3
  have J4 : Hid _ := j4
  clear j1 j2 j3 j4
  have C := things_any p c xs w
  have hl := szR_len xs
  have h32 := szR_le xs
  have hX : ∀ i k (h : i < xs.length), i < szR xs → k < szR xs → xs[i].testBit k = hasR xs i k := fun i k h hi hk => has_at hi hk h
  generalize hasR xs = f at *
  generalize szR xs = n at *
  have HX : Hid _ := hX
  clear hX
  go_enter Try.func18, Try.ntmps18
  go_wp2_with (go_at_call 32; refine C.mono ?_; rintro e w1 ⟨rfl, hB⟩)
  clear C
  go_loopw [3, 10] (fun a i wr => ∃ (k : Nat) (out : List (Nat × Nat)), k ≤ n ∧ i = .int .i64 k ∧ Own (fun _ => False) PairE wr w.heap.size 45 a out ∧ out = pairsTo f n k ∧ out.length ≤ k * 32 ∧ Below w.heap.size w wr) (fun _ i _ => n - (intOf i).toNat)
  case atStart => exact ⟨0, [], Nat.zero_le _, rfl, Own.nil, rfl, by simp, hB⟩
  case round =>
    obtain ⟨k, out, hk, rfl, hO, hout, hlen, hBr⟩ := hrel
    obtain ⟨w2, rfl⟩ : ∃ x : World, x = wr := ⟨_, rfl⟩
    obtain ⟨pa, ca, rfl⟩ := hO.len
    have HOUT : Hid _ := hout
    clear hout
    by_cases hlt : k < n
    · have hlt' : (k : Int) < (n : Int) := by omega
      have hlt2 : (k : Int) < (xs.length : Int) := by omega
      go_wp2
      go_loopw [3, 14] (fun a i wr => ∃ (j : Nat) (out' : List (Nat × Nat)), j ≤ n ∧ i = .int .i64 j ∧ Own (fun _ => False) PairE wr w.heap.size 45 a out' ∧ out' = pairsTo f n k ++ rowP f k j ∧ out'.length ≤ k * 32 + j ∧ Below w.heap.size w wr) (fun _ i _ => n - (intOf i).toNat)
      case atStart => exact ⟨0, out, Nat.zero_le _, rfl, hO, by rw [HOUT.out]; simp [rowP], by omega, hBr⟩
      case round =>
        obtain ⟨j, out', hj, rfl, hO', hout', hlen', hBi⟩ := hrel
        obtain ⟨pa', ca', rfl⟩ := hO'.len
        have HOUT' : Hid _ := hout'
        clear hout'
        by_cases hjn : j < n
        · have hjn' : (j : Int) < (n : Int) := by omega
          obtain ⟨hu, ab, ao, rfl, hc⟩ := (u32_at (hx.keep hBi)).2 k (by omega)
          have C1 := hasBit_any xs[k] j wr hu (by omega)
          rw [HX.out k j (by omega) hlt hjn] at C1
          generalize xs[k] = x at *
          cases hbit : f k j with
          | true =>
            rw [hbit] at C1
            have HB : Hid _ := hbit
            clear hbit
            go_wp2_with (first
              | (go_at_call 29; refine C1.mono ?_; rintro e w3 ⟨rfl, hb3⟩; have hO3 := hO'.keep hb3; have hB3 := Below.thru hBi hb3 (Nat.le_refl _))
              | (at_builtin; have hA3 := (Below.refl w3.heap.size w3).alloc (Nat.le_refl _) (.cells #[.int .i64 (k : Int), .int .i64 (j : Int)] 45); have hB4 := Below.thru hB3 hA3 (Nat.le_refl _); refine wpList_app (R := PairE) (A := fun _ => False) (xs := out') (ys := [(k, j)]) (by rfl) (.tmp 23) (.tmp 27) 41 45 i0 _ 16 (by rfl) Try.underlying41 J1.out J2.out J3.out J4.out (by rfl) w.heap.size (.slice pa' out'.length ca') (.slice (some ⟨w3.heap.size, 0, none⟩) 1 1) (by rfl) (by rfl) (hO3.keep hA3) (pair_one (by simp) (by simp)) (fun _ _ _ h => h) (by simp only [List.length_cons, List.length_nil]; omega) (by decide) hB4.size ?_; intro p5 c5 w5 hO5 hg5 hat5))
            go_roundw
            case rel => exact ⟨j + 1, out' ++ [(k, j)], by omega, by go_num, by simpa using hO5, by rw [HOUT'.out, rowP_yes HB.out, List.append_assoc], by simp only [List.length_append, List.length_cons, List.length_nil]; omega, hB4.grown hg5 hB4.size (fun q hq => ((hO3.keep hA3).lt q hq).1)⟩
            case measure => simp [intOf]; omega
          | false =>
            rw [hbit] at C1
            have HB : Hid _ := hbit
            clear hbit
            go_wp2_with (go_at_call 29; refine C1.mono ?_; rintro e w3 ⟨rfl, hb3⟩)
            go_roundw
            case rel => exact ⟨j + 1, out', by omega, by go_num, hO'.keep hb3, by rw [HOUT'.out, rowP_no HB.out], by omega, Below.thru hBi hb3 (Nat.le_refl _)⟩
            case measure => simp [intOf]; omega
        · have e : j = n := by omega
          have hjn' : ¬ (j : Int) < (n : Int) := by omega
          subst e
          go_wp2
          go_roundw
          case rel => exact ⟨k + 1, out', by omega, by go_num, hO', by rw [HOUT'.out, pairsTo_succ], by omega, hBi⟩
          case measure => simp [intOf]; omega
    · have e : k = n := by omega
      have hlt' : ¬ (k : Int) < (n : Int) := by omega
      subst e
      go_wp2
      go_ret
      exact ⟨_, rfl, by rw [← pairsTo_all, ← HOUT.out]; exact hO.sl.any, hBr⟩
end Go.Proofs.Ytpgbedaonjfpnaa
