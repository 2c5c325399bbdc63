/- Contracts of rel's Or, And, Cross, Only, Put. -/
import Derived.Test.YtpgbedaonjfpnaaRelClean
namespace Go.Proofs.Ytpgbedaonjfpnaa
open Go.RowKit
attribute [local go_sem] Ext.cell Ext.frozen

/-- What is told: a new row of n numbers, the pairs of f. -/
def Told (w : World) (n : Nat) (f : Nat → Nat → Bool) (e : Ending) (w' : World) : Prop := ∃ b, e = .returned (.slice (some ⟨b, 0, none⟩) n n) ∧ Row w' b 37 n (fun i => rowN (f i) n) ∧ w.heap.size ≤ b ∧ Below w.heap.size w w'
theorem bothN_len (xs ys : List Nat) : bothN xs ys ≤ xs.length ∧ bothN xs ys ≤ ys.length := by
  have h1 := szR_len xs
  have h2 := szR_len ys
  unfold bothN
  split <;> omega
theorem Row.told {w : World} {b n : Nat} {t : TypeId} {f g : Nat → Nat → Bool} (h : Row w b t n fun i => rowN (f i) n) (hg : ∀ i k, i < n → k < n → f i k = g i k) : Row w b t n fun i => rowN (g i) n :=
  h.congr fun i hi => row_ext (rowN_lt _ _) (rowN_lt _ _) fun k hk => by rw [rowN_bit, rowN_bit, hg i k hi hk]

set_option maxHeartbeats 4000000 in
theorem And_any (p q : Option Addr) (c d : Nat) (xs ys : List Nat) (w : World) (hx : Sl U32E w (.slice p xs.length c) xs) (hy : Sl U32E w (.slice q ys.length d) ys) : Calls Try.prog 30 #[.slice p xs.length c, .slice q ys.length d] w (Told w (bothN xs ys) (andF (hasR xs) (hasR ys))) := by
  have C := ofBoth_any p q c d xs ys w
  have hl := bothN_len xs ys
  have h32 := bothN_le xs ys
  have hF : ∀ i (h : i < xs.length) (h' : i < ys.length), i < bothN xs ys → (xs[i] &&& ys[i]) &&& (2 ^ bothN xs ys - 1) = rowN (andF (hasR xs) (hasR ys) i) (bothN xs ys) := fun i h h' hi => and_ones _ _ fun k hk => by
    obtain ⟨e1, e2⟩ := bothN_l hi
    rw [Nat.testBit_and, has_at (by omega) (by omega) h, has_at (by omega) (by omega) h']
    rfl
  have HF : Hid _ := hF
  clear hF
  obtain ⟨f, hf⟩ : ∃ f, f = andF (hasR xs) (hasR ys) := ⟨_, rfl⟩
  rw [← hf] at HF ⊢
  clear hf
  generalize bothN xs ys = n at *
  obtain ⟨hl1, hl2⟩ := hl
  go_enter Try.func30, Try.ntmps30
  go_wp2_with (go_at_call 40; refine C.mono ?_; rintro e w1 ⟨b, rfl, hR, hb, hB⟩)
  clear C
  go_loopw [12] (fun i wr => ∃ k : Nat, k ≤ n ∧ i = .int .i64 k ∧ Row wr b 37 n (partN (fun i => rowN (f i) n) k) ∧ Below w.heap.size w wr) (fun i _ => n - (intOf i).toNat)
  case atStart => exact ⟨0, Nat.zero_le _, rfl, hR.start _, hB⟩
  case round =>
    obtain ⟨k, hk, rfl, hRr, hBr⟩ := hrel
    by_cases hlt : k < n
    · obtain ⟨hu, ab, ao, rfl, hc⟩ := (u32_at (hx.keep hBr)).2 k (by omega)
      obtain ⟨hu', bb, bo, rfl, hc'⟩ := (u32_at (hy.keep hBr)).2 k (by omega)
      have HX := HF.out k (by omega) (by omega) hlt
      generalize xs[k] = x at *
      generalize ys[k] = y at *
      have HX : Hid _ := HX
      have hz := cell_lt hc
      have hz' := cell_lt hc'
      have hz2 := hRr.lt
      have hfr := hRr.frozen k
      have hlt' : (k : Int) < (n : Int) := by omega
      have hlt2 : (k : Int) < (xs.length : Int) := by omega
      have hlt3 : (k : Int) < (ys.length : Int) := by omega
      go_wp2
      have hne : ∀ w, Nonempty (Ext w) := ext_some
      have hne2 : Nonempty AnyW := anyW_some
      refine wp_region_mixL [([0, 1, 2, 3, 4, 5, 6, 7, 8, 9, 10, 11, 12], 13, false), ([14, 15], 16, true)] [] [16] (by kernel_rfl) (by kernel_rfl) (fun _ _ d _ _ h => by cases d <;> exact h) ?_
      dsimp only [List.map, mapL, opAt]
      refine wpMixL_stage ?_
      repeat (go_big_quiet_step (fail))
      refine wpQuiet_nil ?_
      have hD : Below wr.heap.size wr wr.drew := (Below.refl _ _).drew
      go_wp2_with (go_at_call 41; refine (allBits_any n _ h32).mono ?_; rintro e w4 ⟨rfl, hb4⟩)
      have hB4 : Below wr.heap.size wr w4 := hD.trans hb4
      refine ⟨.inr hB4, ?_⟩
      refine wpMixL_stage ?_
      repeat (go_big_quiet_step (fail))
      refine wpQuiet_nil ?_
      have hR4 := hRr.keep hB4
      have hfr4 := hR4.frozen k
      have hc4 := hR4.cell hlt
      go_wp2
      refine ⟨.inl trivial, ?_⟩
      refine wpMixL_last ?_
      refine wpQuiet_nil ?_
      go_wp2
      go_roundw
      case rel => exact ⟨k + 1, by omega, by go_num, hR4.step hlt (by rw [and_u32 hu hu', and_u32 (show x &&& y < 2 ^ 32 from Nat.and_lt_two_pow _ hu') (ones_lt h32), HX.out]), below_set (hBr.trans (hB4.mono hBr.size)) hb _⟩
      case measure => simp [intOf]; omega
    · have e : k = n := by omega
      have hlt' : ¬ (k : Int) < (n : Int) := by omega
      subst e
      go_wp2
      go_ret
      exact ⟨b, rfl, hRr.done fun _ _ => rfl, hb, hBr⟩

def crossF (s t i k : Nat) : Bool := s.testBit i && Nat.testBit t k
set_option maxHeartbeats 4000000 in
theorem Cross_any (m : Int) (s t : Nat) (w : World) (hs : s < 4294967296) (ht : t < 4294967296) : Calls Try.prog 31 #[.int .i64 m, .int .u32 (s : Int), .int .u32 (t : Int)] w (Told w (newN m) (crossF s t)) := by
  have C := New_any m w
  have h32 : newN m ≤ 32 := by unfold newN; split <;> omega
  generalize newN m = n at *
  have hF1 : ∀ i, s.testBit i = true → t &&& (2 ^ n - 1) = rowN (crossF s t i) n := fun i hi => and_ones _ _ fun k _ => by unfold crossF; rw [hi]; rfl
  have hF0 : ∀ i, s.testBit i = false → rowN (crossF s t i) n = 0 := fun i hi => by
    refine row_ext (rowN_lt _ _) (Nat.two_pow_pos n) fun k _ => ?_
    rw [rowN_bit]; unfold crossF; rw [hi]; simp
  have HF1 : Hid _ := hF1
  have HF0 : Hid _ := hF0
  clear hF1 hF0
  go_enter Try.func31, Try.ntmps31
  go_wp2_with (go_at_call 14; refine C.mono ?_; rintro e w1 ⟨b, rfl, hR, hb, hB⟩)
  clear C
  go_loopw [13] (fun i wr => ∃ k : Nat, k ≤ n ∧ i = .int .i64 k ∧ Row wr b 37 n (partN (fun i => rowN (crossF s t i) n) k) ∧ Below w.heap.size w wr) (fun i _ => n - (intOf i).toNat)
  case atStart => exact ⟨0, Nat.zero_le _, rfl, hR.start _, hB⟩
  case round =>
    obtain ⟨k, hk, rfl, hRr, hBr⟩ := hrel
    by_cases hlt : k < n
    · have hlt' : (k : Int) < (n : Int) := by omega
      have C1 := hasBit_any s k wr hs (by omega)
      cases hbit : s.testBit k with
      | true =>
        have HX : Hid _ := HF1.out k hbit
        rw [hbit] at C1
        clear hbit
        go_wp2_with (first
          | (go_at_call 29; refine C1.mono ?_; rintro e w2 ⟨rfl, hb2⟩)
          | (go_at_call 41; refine (allBits_any n _ h32).mono ?_; rintro e w3 ⟨rfl, hb3⟩; have hR3 := (hRr.keep hb2).keep hb3; have hc3 := hR3.cell hlt; have hf3 := hR3.frozen k))
        go_roundw
        case rel => exact ⟨k + 1, by omega, by go_num, hR3.step hlt (by rw [and_u32 ht (ones_lt h32), HX.out]), below_set (Below.thru (Below.thru hBr hb2 (Nat.le_refl _)) hb3 (Nat.le_refl _)) hb _⟩
        case measure => simp [intOf]; omega
      | false =>
        have HX : Hid _ := HF0.out k hbit
        rw [hbit] at C1
        clear hbit
        go_wp2_with (go_at_call 29; refine C1.mono ?_; rintro e w2 ⟨rfl, hb2⟩)
        go_roundw
        case rel =>
          refine ⟨k + 1, by omega, by go_num, (hRr.keep hb2).congr fun i _ => ?_, Below.thru hBr hb2 (Nat.le_refl _)⟩
          unfold partN
          by_cases e : i = k
          · subst e; rw [if_neg (by omega), if_pos (by omega)]; exact HX.out.symm
          · by_cases e2 : i < k
            · rw [if_pos e2, if_pos (by omega)]
            · rw [if_neg e2, if_neg (by omega)]
        case measure => simp [intOf]; omega
    · have e : k = n := by omega
      have hlt' : ¬ (k : Int) < (n : Int) := by omega
      subst e
      go_wp2
      go_ret
      exact ⟨b, rfl, hRr.done fun _ _ => rfl, hb, hBr⟩

set_option maxHeartbeats 1000000 in
theorem Only_any (p : Option Addr) (c : Nat) (xs : List Nat) (s t : Nat) (w : World) (hx : Sl U32E w (.slice p xs.length c) xs) (hs : s < 4294967296) (ht : t < 4294967296) : Calls Try.prog 17 #[.slice p xs.length c, .int .u32 (s : Int), .int .u32 (t : Int)] w (Told w (szR xs) (andF (hasR xs) (crossF s t))) := by
  have C := Cross_any (xs.length : Int) s t w hs ht
  rw [newN_len] at C
  have h32 := szR_le xs
  have hc : ∀ (b : Nat) (w' : World), Below w.heap.size w w' → Row w' b 37 (szR xs) (fun i => rowN (crossF s t i) (szR xs)) → Calls Try.prog 30 #[.slice p xs.length c, .slice (some ⟨b, 0, none⟩) (szR xs) (szR xs)] w' (Told w' (szR xs) (andF (hasR xs) (crossF s t))) := by
    intro b w' hB hR
    have h1 := hR.mk (A := fun _ => True) trivial h32
    have hle : (mkR (szR xs) (crossF s t)).length = szR xs := mkR_len _ _
    have C2 := And_any p (some ⟨b, 0, none⟩) c (szR xs) xs (mkR (szR xs) (crossF s t)) w' (hx.keep hB) (by rw [hle]; exact h1)
    rw [hle] at C2
    have hb : bothN xs (mkR (szR xs) (crossF s t)) = szR xs := by unfold bothN; rw [mkR_sz _ h32, if_pos rfl]
    rw [hb] at C2
    refine C2.mono ?_
    rintro e w2 ⟨b2, rfl, hR2, hb2, hB2⟩
    refine ⟨b2, rfl, hR2.told fun i k hi hk => ?_, hb2, hB2⟩
    unfold andF
    rw [mkR_has _ h32]
    simp [hi, hk]
  have HC : Hid _ := hc
  clear hc
  generalize szR xs = n at *
  go_enter Try.func17, Try.ntmps17
  go_wp2_with (first
    | (go_at_call 31; refine C.mono ?_; rintro e w1 ⟨b, rfl, hR, hb, hB⟩)
    | (go_at_call 30; refine (HC.out b _ hB hR).mono ?_; rintro e w2 ⟨b2, rfl, hR2, hb2, hB2⟩))
  go_ret
  exact ⟨b2, rfl, hR2, Nat.le_trans hB.size hb2, Below.thru hB hB2 (Nat.le_refl _)⟩

/-- With a pair more. -/
def putF (f : Nat → Nat → Bool) (i k : Int) (x y : Nat) : Bool := f x y || (decide ((x : Int) = i) && decide ((y : Int) = k))
theorem or_pow {g : Nat → Bool} {n i : Nat} (hi : i < n) : rowN g n ||| 2 ^ i = rowN (fun x => g x || decide (x = i)) n := by
  refine row_is (Nat.or_lt_two_pow (rowN_lt _ _) (Nat.pow_lt_pow_right (by decide) hi)) fun k hk => ?_
  rw [Nat.testBit_or, rowN_bit, Nat.testBit_two_pow]
  by_cases e : i = k
  · subst e; simp
  · simp [hk, e, show ¬ k = i from fun h => e h.symm]
theorem pow_lt {k : Nat} (h : k < 32) : 2 ^ k < 4294967296 := Nat.lt_of_lt_of_le (Nat.pow_lt_pow_right (by decide) h) (by decide)
set_option maxHeartbeats 4000000 in
theorem Put_any (p : Option Addr) (c : Nat) (xs : List Nat) (i k : Int) (w : World) (hx : Sl U32E w (.slice p xs.length c) xs) : Calls Try.prog 21 #[.slice p xs.length c, .int .i64 i, .int .i64 k] w (Told w (szR xs) (putF (hasR xs) i k)) := by
  have C := clean_any p c xs w hx
  have h32 := szR_le xs
  have hsz := clean_sz xs
  have hlen : (cleanR xs).length = szR xs := mkR_len _ _
  have C1 := fun (b : Nat) (w' : World) => isThing_any (some ⟨b, 0, none⟩) (szR xs) (cleanR xs) i w'
  have C2 := fun (b : Nat) (w' : World) => isThing_any (some ⟨b, 0, none⟩) (szR xs) (cleanR xs) k w'
  have ht : ∀ j, thing (cleanR xs) j = (decide (0 ≤ j) && decide (j < (szR xs : Nat))) := fun j => by unfold thing; rw [hsz]
  rw [hlen] at C1 C2
  rw [ht] at C1 C2
  clear hlen hsz ht
  generalize hasR xs = f at *
  generalize szR xs = n at *
  by_cases h1 : 0 ≤ i ∧ i < (n : Nat)
  · rw [decide_eq_true h1.1, decide_eq_true h1.2, Bool.true_and] at C1
    have C1 : Hid _ := C1
    by_cases h2 : 0 ≤ k ∧ k < (n : Nat)
    · rw [decide_eq_true h2.1, decide_eq_true h2.2, Bool.true_and] at C2
      have C2 : Hid _ := C2
      obtain ⟨i, rfl⟩ : ∃ j : Nat, i = j := ⟨i.toNat, by omega⟩
      obtain ⟨k, rfl⟩ : ∃ j : Nat, k = j := ⟨k.toNat, by omega⟩
      have hi : i < n := by omega
      have hk : k < n := by omega
      have hi' : (i : Int) < (n : Int) := by omega
      have F1 := trivial
      clear h1 h2
      go_enter Try.func21, Try.ntmps21
      go_wp2_with (first
        | (go_at_call 33; refine C.mono ?_; rintro e w1 ⟨b, rfl, hR, hb, hB⟩)
        | (go_at_call 34; clear F1; refine (C1.out b _).mono ?_; rintro e w2 ⟨rfl, hb2⟩; have F2 := trivial)
        | (go_at_call 34; clear F2; refine (C2.out b _).mono ?_; rintro e w3 ⟨rfl, hb3⟩; have hR3 := (hR.keep hb2).keep hb3; have hc3 := hR3.cell hi; have hf3 := hR3.frozen i; have hz3 := hR3.lt))
      have hB3 := Below.thru (Below.thru hB hb2 (Nat.le_refl _)) hb3 (Nat.le_refl _)
      have hne : ∀ w, Nonempty (Ext w) := ext_some
      have hne2 : Nonempty AnyW := anyW_some
      refine wp_region_mixL [([0, 1, 2, 3, 4, 5, 6, 7], 8, true)] [] [8] (by kernel_rfl) (by kernel_rfl) (fun _ _ d _ _ h => by cases d <;> exact h) ?_
      dsimp only [List.map, mapL, opAt]
      refine wpMixL_stage ?_
      repeat (go_big_quiet_step (fail))
      refine wpQuiet_nil ?_
      go_wp2
      refine ⟨.inl trivial, ?_⟩
      refine wpMixL_last ?_
      refine wpQuiet_nil ?_
      go_wp2
      go_ret
      refine ⟨b, rfl, ((hR3.drew).setI hi (by rw [pow_u32 (by omega), or_u32 (rowN_u32 h32) (pow_lt (by omega))])).congr fun x hx => ?_, hb, below_set hB3.drew hb _⟩
      unfold updN
      by_cases e : x = i
      · subst e
        rw [if_pos rfl, or_pow hk]
        congr 1
        funext y
        unfold putF
        rw [decide_eq_true rfl, Bool.true_and]
        congr 1
        exact decide_eq_decide.2 (by omega)
      · rw [if_neg e]
        show rowN (f x) n = _
        congr 1
        funext y
        unfold putF
        rw [decide_eq_false (by omega), Bool.false_and, Bool.or_false]
    · have h2' : (decide (0 ≤ k) && decide (k < (n : Nat))) = false := by
        rw [Bool.and_eq_false_iff, decide_eq_false_iff_not, decide_eq_false_iff_not]; omega
      rw [h2'] at C2
      clear h2'
      have C2 : Hid _ := C2
      have F1 := trivial
      go_enter Try.func21, Try.ntmps21
      go_wp2_with (first
        | (go_at_call 33; refine C.mono ?_; rintro e w1 ⟨b, rfl, hR, hb, hB⟩)
        | (go_at_call 34; clear F1; refine (C1.out b _).mono ?_; rintro e w2 ⟨rfl, hb2⟩; have F2 := trivial)
        | (go_at_call 34; clear F2; refine (C2.out b _).mono ?_; rintro e w3 ⟨rfl, hb3⟩))
      go_ret
      refine ⟨b, rfl, ((hR.keep hb2).keep hb3).told fun x y hx hy => ?_, hb, Below.thru (Below.thru hB hb2 (Nat.le_refl _)) hb3 (Nat.le_refl _)⟩
      unfold putF
      rw [decide_eq_false (show ¬ (y : Int) = k by omega), Bool.and_false, Bool.or_false]
  · have h1' : (decide (0 ≤ i) && decide (i < (n : Nat))) = false := by
      rw [Bool.and_eq_false_iff, decide_eq_false_iff_not, decide_eq_false_iff_not]; omega
    rw [h1'] at C1
    clear h1'
    have C1 : Hid _ := C1
    go_enter Try.func21, Try.ntmps21
    go_wp2_with (first
      | (go_at_call 33; refine C.mono ?_; rintro e w1 ⟨b, rfl, hR, hb, hB⟩)
      | (go_at_call 34; refine (C1.out b _).mono ?_; rintro e w2 ⟨rfl, hb2⟩))
    go_ret
    refine ⟨b, rfl, (hR.keep hb2).told fun x y hx hy => ?_, hb, Below.thru hB hb2 (Nat.le_refl _)⟩
    unfold putF
    rw [decide_eq_false (show ¬ (x : Int) = i by omega), Bool.false_and, Bool.or_false]
end Go.Proofs.Ytpgbedaonjfpnaa
