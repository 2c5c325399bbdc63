/- Contracts of rel's Seq, Inv, Plus. -/
import Derived.Test.YtpgbedaonjfpnaaRelJoin
namespace Go.Proofs.Ytpgbedaonjfpnaa
open Go.RowKit
attribute [local go_sem] Ext.cell Ext.frozen

theorem updN_updN (g : Nat → Nat) (k x y : Nat) : updN (updN g k x) k y = updN g k y := by
  funext i; unfold updN; split <;> rfl
theorem updN_same {g : Nat → Nat} {k : Nat} (i : Nat) : updN g k (g k) i = g i := by
  unfold updN; split
  · rename_i h; rw [h]
  · rfl
/-- By way of the first m. -/
def seqTo (f g : Nat → Nat → Bool) (m i y : Nat) : Bool := (List.range m).any fun j => f i j && g j y
theorem seqTo_all (f g : Nat → Nat → Bool) (n i : Nat) : seqTo f g n i = seqF n f g i := rfl
theorem seqTo_zero (f g : Nat → Nat → Bool) (i n : Nat) : rowN (seqTo f g 0 i) n = 0 := by
  refine row_ext (rowN_lt _ _) (Nat.two_pow_pos n) fun k _ => ?_
  rw [rowN_bit]; simp [seqTo]
theorem seqTo_step (f g : Nat → Nat → Bool) (m i y : Nat) : seqTo f g (m + 1) i y = (seqTo f g m i y || (f i m && g m y)) := by
  simp [seqTo, List.range_succ, List.any_append]
theorem or_row {f g h : Nat → Bool} {n : Nat} (e : ∀ k, k < n → h k = (f k || g k)) : rowN f n ||| rowN g n = rowN h n :=
  row_is (Nat.or_lt_two_pow (rowN_lt _ _) (rowN_lt _ _)) fun k hk => by rw [Nat.testBit_or, rowN_bit, rowN_bit, e k hk]; simp [hk]
theorem row_congr {f g : Nat → Bool} {n : Nat} (e : ∀ k, k < n → f k = g k) : rowN f n = rowN g n :=
  row_ext (rowN_lt _ _) (rowN_lt _ _) fun k hk => by rw [rowN_bit, rowN_bit, e k hk]

/-- Turned, as far as the things up to i, and of i those up to k. -/
def invTo (f : Nat → Nat → Bool) (i k y x : Nat) : Bool := (decide (x < i) || (decide (x = i) && decide (y < k))) && f x y
theorem invTo_zero (f : Nat → Nat → Bool) (y n : Nat) : rowN (invTo f 0 0 y) n = 0 := by
  refine row_ext (rowN_lt _ _) (Nat.two_pow_pos n) fun k _ => ?_
  rw [rowN_bit]; simp [invTo]
theorem invTo_next (f : Nat → Nat → Bool) {i n y : Nat} (hy : y < n) (x : Nat) : invTo f i n y x = invTo f (i + 1) 0 y x := by
  unfold invTo
  congr 1
  by_cases h1 : x < i
  · simp [h1, show x < i + 1 by omega]
  · by_cases h2 : x = i
    · subst h2; simp [hy]
    · simp [h1, h2, show ¬ x < i + 1 by omega]
theorem invTo_other (f : Nat → Nat → Bool) {i k y : Nat} (h : y ≠ k ∨ f i k = false) (x : Nat) : invTo f i (k + 1) y x = invTo f i k y x := by
  unfold invTo
  by_cases h1 : x = i
  · subst h1
    by_cases h2 : y = k
    · subst h2
      rcases h with h | h
      · exact absurd rfl h
      · rw [h, Bool.and_false, Bool.and_false]
    · have : (decide (y < k + 1)) = decide (y < k) := decide_eq_decide.2 (by omega)
      rw [this]
  · rw [decide_eq_false h1, Bool.false_and, Bool.false_and]
theorem invTo_put (f : Nat → Nat → Bool) {i k : Nat} (h : f i k = true) (x : Nat) : invTo f i (k + 1) k x = (invTo f i k k x || decide (x = i)) := by
  unfold invTo
  by_cases h1 : x = i
  · subst h1; simp [h]
  · simp [h1]

set_option maxHeartbeats 4000000 in
theorem Inv_any (p : Option Addr) (c : Nat) (xs : List Nat) (w : World) (hx : Sl U32E w (.slice p xs.length c) xs) : Calls Try.prog 20 #[.slice p xs.length c] w (Told w (szR xs) (invF (hasR xs))) := by
  have C := New_any (xs.length : Int) w
  rw [newN_len] at C
  have hl := szR_len xs
  have h32 := szR_le xs
  have hX : ∀ i k (h : i < xs.length), i < szR xs → k < szR xs → xs[i].testBit k = hasR xs i k := fun i k h hi hk => has_at hi hk h
  generalize hasR xs = f at *
  generalize szR xs = n at *
  have HX : Hid _ := hX
  clear hX
  go_enter Try.func20, Try.ntmps20
  go_wp2_with (go_at_call 14; refine C.mono ?_; rintro e w1 ⟨b, rfl, hR, hb, hB⟩)
  clear C
  go_loopw [11] (fun i wr => ∃ k : Nat, k ≤ n ∧ i = .int .i64 k ∧ Row wr b 37 n (fun y => rowN (invTo f k 0 y) n) ∧ Below w.heap.size w wr) (fun i _ => n - (intOf i).toNat)
  case atStart => exact ⟨0, Nat.zero_le _, rfl, hR.congr fun i _ => (invTo_zero f i n).symm, hB⟩
  case round =>
    obtain ⟨k, hk, rfl, hRr, hBr⟩ := hrel
    obtain ⟨w2, rfl⟩ : ∃ x : World, x = wr := ⟨_, rfl⟩
    by_cases hlt : k < n
    · have hlt' : (k : Int) < (n : Int) := by omega
      have hlt2 : (k : Int) < (xs.length : Int) := by omega
      go_wp2
      go_loopw [16] (fun i wr => ∃ j : Nat, j ≤ n ∧ i = .int .i64 j ∧ Row wr b 37 n (fun y => rowN (invTo f k j y) n) ∧ Below w.heap.size w wr) (fun i _ => n - (intOf i).toNat)
      case atStart => exact ⟨0, Nat.zero_le _, rfl, hRr, hBr⟩
      case round =>
        obtain ⟨j, hj, rfl, hRi, hBi⟩ := hrel
        by_cases hjn : j < n
        · have hjn' : (j : Int) < (n : Int) := by omega
          obtain ⟨hu, ab, ao, rfl, hc⟩ := (u32_at (hx.keep hBi)).2 k (by omega)
          have C1 := hasBit_any xs[k] j wr hu (by omega)
          rw [HX.out k j (by omega) hlt hjn] at C1
          generalize xs[k] = x at *
          cases hbit : f k j with
          | true =>
            rw [hbit] at C1
            have hrow : ∀ y, y < n → updN (fun y => rowN (invTo f k j y) n) j (rowN (invTo f k j j) n ||| 2 ^ k) y = rowN (invTo f k (j + 1) y) n := fun y _ => by
              unfold updN
              by_cases e : y = j
              · subst e
                rw [if_pos rfl, or_pow hlt]
                exact row_congr fun z _ => (invTo_put f hbit z).symm
              · rw [if_neg e]
                exact row_congr fun z _ => (invTo_other f (.inl e) z).symm
            have HROW : Hid _ := hrow
            clear hrow hbit
            go_wp2_with (go_at_call 29; refine C1.mono ?_; rintro e w3 ⟨rfl, hb3⟩; have hR3 := hRi.keep hb3; have hB3 := Below.thru hBi hb3 (Nat.le_refl _))
            have hcc := hR3.cell hjn
            have hz2 := hR3.lt
            have hf3 := hR3.frozen j
            have hne : ∀ w, Nonempty (Ext w) := ext_some
            have hne2 : Nonempty AnyW := anyW_some
            refine wp_region_mixL [([0, 1, 2, 3, 4, 5, 6, 7], 8, true)] [] [8] (by kernel_rfl) (by kernel_rfl) (fun _ _ d _ _ h => by cases d <;> exact h) ?_
            dsimp only [List.map, mapL, opAt]
            refine wpMixL_stage ?_
            repeat (go_big_quiet_step (fail))
            refine wpQuiet_nil ?_
            go_wp2
            refine ⟨.inl trivial, ?_⟩
            refine wpMixL_last ?_
            refine wpQuiet_nil ?_
            go_wp2
            go_roundw
            case rel => exact ⟨j + 1, by omega, by go_num, (hR3.drew.setI hjn (by rw [pow_u32 (by omega), or_u32 (rowN_u32 h32) (pow_lt (by omega))])).congr HROW.out, below_set hB3.drew hb _⟩
            case measure => simp [intOf]; omega
          | false =>
            rw [hbit] at C1
            have hrow : ∀ y, y < n → rowN (invTo f k j y) n = rowN (invTo f k (j + 1) y) n := fun y _ => row_congr fun z _ => by
              by_cases e : y = j
              · subst e; exact (invTo_other f (.inr hbit) z).symm
              · exact (invTo_other f (.inl e) z).symm
            have HROW : Hid _ := hrow
            clear hrow hbit
            go_wp2_with (go_at_call 29; refine C1.mono ?_; rintro e w3 ⟨rfl, hb3⟩)
            go_roundw
            case rel => exact ⟨j + 1, by omega, by go_num, (hRi.keep hb3).congr HROW.out, Below.thru hBi hb3 (Nat.le_refl _)⟩
            case measure => simp [intOf]; omega
        · have e : j = n := by omega
          have hjn' : ¬ (j : Int) < (n : Int) := by omega
          subst e
          go_wp2
          go_roundw
          case rel => exact ⟨k + 1, by omega, by go_num, hRi.congr fun y hy => row_congr fun z _ => invTo_next f hy z, hBi⟩
          case measure => simp [intOf]; omega
    · have e : k = n := by omega
      have hlt' : ¬ (k : Int) < (n : Int) := by omega
      subst e
      go_wp2
      go_ret
      exact ⟨b, rfl, hRr.told fun y x _ hx => by unfold invTo invF; simp [hx], hb, hBr⟩

theorem way_self (f : Nat → Nat → Bool) (j k : Nat) : wayF f (j + 1) j k = wayF f j j k := by
  simp only [wayF]
  cases wayF f j j k <;> simp
set_option maxHeartbeats 4000000 in
theorem Plus_any (p : Option Addr) (c : Nat) (xs : List Nat) (w : World) (hx : Sl U32E w (.slice p xs.length c) xs) : Calls Try.prog 19 #[.slice p xs.length c] w (Told w (szR xs) (plusF (szR xs) (hasR xs))) := by
  have C := clean_any p c xs w hx
  have h32 := szR_le xs
  generalize hasR xs = f at *
  generalize szR xs = n at *
  clear hx
  go_enter Try.func19, Try.ntmps19
  go_wp2_with (go_at_call 33; refine C.mono ?_; rintro e w1 ⟨b, rfl, hR, hb, hB⟩)
  clear C
  go_loopw [10] (fun i wr => ∃ k : Nat, k ≤ n ∧ i = .int .i64 k ∧ Row wr b 37 n (fun y => rowN (wayF f k y) n) ∧ Below w.heap.size w wr) (fun i _ => n - (intOf i).toNat)
  case atStart => exact ⟨0, Nat.zero_le _, rfl, hR, hB⟩
  case round =>
    obtain ⟨k, hk, rfl, hRr, hBr⟩ := hrel
    obtain ⟨w2, rfl⟩ : ∃ x : World, x = wr := ⟨_, rfl⟩
    by_cases hlt : k < n
    · have hlt' : (k : Int) < (n : Int) := by omega
      go_wp2
      go_loopw [15] (fun i wr => ∃ j : Nat, j ≤ n ∧ i = .int .i64 j ∧ Row wr b 37 n (fun y => rowN (wayF f (if y < j then k + 1 else k) y) n) ∧ Below w.heap.size w wr) (fun i _ => n - (intOf i).toNat)
      case atStart => exact ⟨0, Nat.zero_le _, rfl, hRr.congr fun y _ => by simp, hBr⟩
      case round =>
        obtain ⟨j, hj, rfl, hRi, hBi⟩ := hrel
        by_cases hjn : j < n
        · have hjn' : (j : Int) < (n : Int) := by omega
          have hcj := hRi.cell hjn
          have hck := hRi.cell hlt
          have e1 : rowN (wayF f (if j < j then k + 1 else k) j) n = rowN (wayF f k j) n := by rw [if_neg (by omega)]
          have e2 : rowN (wayF f (if k < j then k + 1 else k) k) n = rowN (wayF f k k) n := by
            split
            · exact row_congr fun z _ => way_self f k z
            · rfl
          rw [e1] at hcj
          rw [e2] at hck
          clear e1 e2
          have C1 := hasBit_any (rowN (wayF f k j) n) k wr (rowN_u32 h32) (by omega)
          rw [rowN_bit, decide_eq_true hlt, Bool.true_and] at C1
          have hun : rowN (wayF f k j) n < 4294967296 := rowN_u32 h32
          have hun2 : rowN (wayF f k k) n < 4294967296 := rowN_u32 h32
          have hor : wayF f k j k = true → rowN (wayF f k j) n ||| rowN (wayF f k k) n = rowN (wayF f (k + 1) j) n := fun h => or_row fun z _ => by simp only [wayF]; rw [h, Bool.true_and]
          have hno : wayF f k j k = false → rowN (wayF f k j) n = rowN (wayF f (k + 1) j) n := fun h => row_congr fun z _ => by simp only [wayF]; rw [h, Bool.false_and, Bool.or_false]
          have hstep : ∀ y, y < n → updN (fun y => rowN (wayF f (if y < j then k + 1 else k) y) n) j (rowN (wayF f (k + 1) j) n) y = rowN (wayF f (if y < j + 1 then k + 1 else k) y) n := fun y _ => by
            unfold updN
            by_cases e : y = j
            · subst e; rw [if_pos rfl, if_pos (by omega)]
            · rw [if_neg e]
              show rowN (wayF f (if y < j then k + 1 else k) y) n = _
              by_cases e2 : y < j
              · rw [if_pos e2, if_pos (by omega)]
              · rw [if_neg e2, if_neg (by omega)]
          have HST : Hid _ := hstep
          clear hstep
          have HR2 : rowN (wayF f k j) n = rowN (wayF f (k + 1) j) n → ∀ y, y < n → rowN (wayF f (if y < j then k + 1 else k) y) n = rowN (wayF f (if y < j + 1 then k + 1 else k) y) n := fun h y hy => by
            rw [← HST.out y hy, ← h]
            rw [show rowN (wayF f k j) n = (fun y => rowN (wayF f (if y < j then k + 1 else k) y) n) j by simp, updN_same]
          generalize rowN (wayF f k j) n = x at *
          generalize rowN (wayF f k k) n = y at *
          cases hbit : wayF f k j k with
          | true =>
            rw [hbit] at C1
            have HOR : Hid _ := hor hbit
            clear hor hno HR2 hbit
            go_wp2_with (go_at_call 29; refine C1.mono ?_; rintro e w3 ⟨rfl, hb3⟩; have hR3 := hRi.keep hb3; have hB3 := Below.thru hBi hb3 (Nat.le_refl _))
            have hcj3 := cell_keep hcj hb3
            have hck3 := cell_keep hck hb3
            have hz2 := hR3.lt
            have hf3 := hR3.frozen j
            have hne : ∀ w, Nonempty (Ext w) := ext_some
            have hne2 : Nonempty AnyW := anyW_some
            refine wp_region_mixL [([0, 1, 2, 3, 4, 5, 6, 7, 8, 9], 10, true)] [] [10] (by kernel_rfl) (by kernel_rfl) (fun _ _ d _ _ h => by cases d <;> exact h) ?_
            dsimp only [List.map, mapL, opAt]
            refine wpMixL_stage ?_
            repeat (go_big_quiet_step (fail))
            refine wpQuiet_nil ?_
            go_wp2
            refine ⟨.inl trivial, ?_⟩
            refine wpMixL_last ?_
            refine wpQuiet_nil ?_
            go_wp2
            go_roundw
            case rel => exact ⟨j + 1, by omega, by go_num, (hR3.drew.setI hjn (by rw [or_u32 hun hun2, HOR.out])).congr HST.out, below_set hB3.drew hb _⟩
            case measure => simp [intOf]; omega
          | false =>
            rw [hbit] at C1
            have HNO : Hid _ := HR2 (hno hbit)
            clear hor hno HR2 hbit
            go_wp2_with (go_at_call 29; refine C1.mono ?_; rintro e w3 ⟨rfl, hb3⟩)
            go_roundw
            case rel => exact ⟨j + 1, by omega, by go_num, (hRi.keep hb3).congr HNO.out, Below.thru hBi hb3 (Nat.le_refl _)⟩
            case measure => simp [intOf]; omega
        · have e : j = n := by omega
          have hjn' : ¬ (j : Int) < (n : Int) := by omega
          subst e
          go_wp2
          go_roundw
          case rel => exact ⟨k + 1, by omega, by go_num, hRi.congr fun y hy => by rw [if_pos hy], hBi⟩
          case measure => simp [intOf]; omega
    · have e : k = n := by omega
      have hlt' : ¬ (k : Int) < (n : Int) := by omega
      subst e
      go_wp2
      go_ret
      exact ⟨b, rfl, hRr, hb, hBr⟩
end Go.Proofs.Ytpgbedaonjfpnaa
