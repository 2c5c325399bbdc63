/- Contracts of rel's isThing, Has, clean, ofBoth. -/
import Derived.Test.YtpgbedaonjfpnaaRelBits
import Derived.Test.YtpgbedaonjfpnaaMixL
namespace Go.Proofs.Ytpgbedaonjfpnaa
open Go.RowKit
attribute [local go_sem] Ext.cell Ext.frozen

theorem newN_len (xs : List Nat) : newN (xs.length : Int) = szR xs := by
  unfold newN szR
  by_cases h : 32 < xs.length
  · rw [if_pos (by omega), if_pos h]
  · rw [if_neg (by omega), if_neg h]; simp
theorem newN_nat {n : Nat} (h : n ≤ 32) : newN (n : Int) = n := by unfold newN; rw [if_neg (by omega)]; simp

def thing (xs : List Nat) (i : Int) : Bool := decide (0 ≤ i) && decide (i < (szR xs : Nat))
theorem thing_yes {xs : List Nat} {i : Int} (h : thing xs i = true) : ∃ k : Nat, i = (k : Int) ∧ k < szR xs := by
  simp only [thing, Bool.and_eq_true, decide_eq_true_eq] at h
  exact ⟨i.toNat, by omega, by omega⟩

set_option maxHeartbeats 1000000 in
theorem isThing_any (p : Option Addr) (c : Nat) (xs : List Nat) (i : Int) (w : World) : Calls Try.prog 34 #[.slice p xs.length c, .int .i64 i] w fun e w' => e = .returned (.bool (thing xs i)) ∧ Below w.heap.size w w' := by
  unfold thing
  by_cases h : 0 ≤ i
  · rw [decide_eq_true h, Bool.true_and]
    have C := things_any p c xs w
    generalize szR xs = n at *
    go_enter Try.func34, Try.ntmps34
    go_wp2_with (go_at_call 32; refine C.mono ?_; rintro e w2 ⟨rfl, hb2⟩)
    go_ret
    exact ⟨rfl, hb2⟩
  · rw [decide_eq_false h, Bool.false_and]
    go_enter Try.func34, Try.ntmps34
    go_wp2
    go_ret
    exact ⟨rfl, by go_grown⟩

/-- Whether it has a pair of any numbers. -/
def hasI (xs : List Nat) (i k : Int) : Bool := thing xs i && thing xs k && hasR xs i.toNat k.toNat
theorem hasI_nat (xs : List Nat) (i k : Nat) : hasI xs i k = hasR xs i k := by
  unfold hasI thing hasR
  by_cases h1 : i < szR xs <;> by_cases h2 : k < szR xs <;> simp [h1, h2]

set_option maxHeartbeats 1000000 in
theorem Has_any (p : Option Addr) (c : Nat) (xs : List Nat) (i k : Int) (w : World) (hx : Sl U32E w (.slice p xs.length c) xs) : Calls Try.prog 27 #[.slice p xs.length c, .int .i64 i, .int .i64 k] w fun e w' => e = .returned (.bool (hasI xs i k)) ∧ Below w.heap.size w w' := by
  unfold hasI
  have C1 := isThing_any p c xs i w
  cases h1 : thing xs i with
  | false =>
    rw [Bool.false_and, Bool.false_and]
    rw [h1] at C1
    clear h1
    go_enter Try.func27, Try.ntmps27
    go_wp2_with (go_at_call 34; refine C1.mono ?_; rintro e w2 ⟨rfl, hb2⟩)
    go_ret
    exact ⟨rfl, hb2⟩
  | true =>
    have C2 := fun (w2 : World) (_ : Below w.heap.size w w2) => isThing_any p c xs k w2
    rw [h1] at C1
    cases h2 : thing xs k with
    | false =>
      rw [h2] at C2
      rw [Bool.and_false, Bool.false_and]
      clear h1 h2
      have C2 : Hid _ := C2
      have F1 := trivial
      go_enter Try.func27, Try.ntmps27
      go_wp2_with (first
        | (go_at_call 34; clear F1; refine C1.mono ?_; rintro e w2 ⟨rfl, hb2⟩; have C3 := C2.out w2 hb2; have F2 := trivial)
        | (go_at_call 34; clear F2; refine C3.mono ?_; rintro e w3 ⟨rfl, hb3⟩))
      go_ret
      exact ⟨rfl, Below.thru hb2 hb3 (Nat.le_refl _)⟩
    | true =>
      rw [h2] at C2
      rw [Bool.true_and, Bool.true_and]
      obtain ⟨i, rfl, hi⟩ := thing_yes h1
      obtain ⟨k, rfl, hk⟩ := thing_yes h2
      have hl := szR_len xs
      have h32 := szR_le xs
      obtain ⟨hu, b, o, rfl, hc⟩ := (u32_at hx).2 i (by omega)
      have hh : hasR xs (i : Int).toNat (k : Int).toNat = xs[i].testBit k := by
        simp [hasR, hi, hk, show i < xs.length by omega]
      have HH : Hid _ := hh
      clear hh
      generalize xs[i] = x at *
      have C4 := fun (w3 : World) (_ : Below w.heap.size w w3) => hasBit_any x k w3 hu (by omega)
      have hlt' : (i : Int) < (xs.length : Int) := by omega
      have hz := cell_lt hc
      clear h1 h2 hi hk hl h32 hu
      have C2 : Hid _ := C2
      have C4 : Hid _ := C4
      have F1 := trivial
      go_enter Try.func27, Try.ntmps27
      go_wp2_with (first
        | (go_at_call 34; clear F1; refine C1.mono ?_; rintro e w2 ⟨rfl, hb2⟩; have C3 := C2.out w2 hb2; have F2 := trivial)
        | (go_at_call 34; clear F2; refine C3.mono ?_; rintro e w3 ⟨rfl, hb3⟩; have hb4 := Below.thru hb2 hb3 (Nat.le_refl _); have C5 := C4.out w3 hb4; have hc3 := cell_keep hc hb4)
        | (go_at_call 29; refine C5.mono ?_; rintro e w5 ⟨rfl, hb5⟩))
      go_ret
      exact ⟨by rw [HH.out]; rfl, Below.thru hb4 hb5 (Nat.le_refl _)⟩

/-- The first k rows made. -/
def partN (F : Nat → Nat) (k i : Nat) : Nat := if i < k then F i else 0
theorem Row.start {w : World} {b n : Nat} {t : TypeId} (F : Nat → Nat) (h : Row w b t n fun _ => 0) : Row w b t n (partN F 0) := h.congr fun i _ => by simp [partN]
theorem Row.step {w : World} {b n k : Nat} {t : TypeId} {F : Nat → Nat} (h : Row w b t n (partN F k)) (hk : k < n) {z : Int} (hz : z = (F k : Nat)) : Row (w.setCell ⟨b, k, none⟩ (.int .u32 z)) b t n (partN F (k + 1)) :=
  (h.setI hk hz).congr fun i _ => by
    unfold updN partN
    by_cases e : i = k
    · subst e; simp
    · by_cases e2 : i < k
      · rw [if_neg e, if_pos e2, if_pos (by omega)]
      · rw [if_neg e, if_neg e2, if_neg (by omega)]
theorem Row.done {w : World} {b n : Nat} {t : TypeId} {F : Nat → Nat} {f : Nat → Nat → Bool} (h : Row w b t n (partN F n)) (hF : ∀ i, i < n → F i = rowN (f i) n) : Row w b t n fun i => rowN (f i) n :=
  h.congr fun i hi => by unfold partN; rw [if_pos hi]; exact hF i hi
/-- A number's bits below n. -/
theorem and_ones (x n : Nat) {f : Nat → Bool} (h : ∀ k, k < n → x.testBit k = f k) : x &&& (2 ^ n - 1) = rowN f n := by
  refine row_is ?_ fun k hk => ?_
  · rw [Nat.and_two_pow_sub_one_eq_mod]; exact Nat.mod_lt _ (Nat.two_pow_pos n)
  · rw [Nat.and_two_pow_sub_one_eq_mod, Nat.testBit_mod_two_pow]; simp [hk, h k hk]
theorem ones_lt {n : Nat} (h : n ≤ 32) : 2 ^ n - 1 < 4294967296 := by
  have := Nat.pow_le_pow_right (n := 2) (by decide) h
  have h2 : (2 : Nat) ^ 32 = 4294967296 := by decide
  have := Nat.two_pow_pos n
  omega
theorem has_at {xs : List Nat} {i k : Nat} (hi : i < szR xs) (hk : k < szR xs) (hl : i < xs.length) : xs[i].testBit k = hasR xs i k := by
  simp [hasR, hi, hk, hl]

set_option maxHeartbeats 4000000 in
theorem clean_any (p : Option Addr) (c : Nat) (xs : List Nat) (w : World) (hx : Sl U32E w (.slice p xs.length c) xs) : Calls Try.prog 33 #[.slice p xs.length c] w fun e w' => ∃ b, e = .returned (.slice (some ⟨b, 0, none⟩) (szR xs) (szR xs)) ∧ Row w' b 37 (szR xs) (fun i => rowN (hasR xs i) (szR xs)) ∧ w.heap.size ≤ b ∧ Below w.heap.size w w' := by
  have C := New_any (xs.length : Int) w
  rw [newN_len] at C
  have hl := szR_len xs
  have h32 := szR_le xs
  have hF : ∀ i (h : i < xs.length), i < szR xs → xs[i] &&& (2 ^ szR xs - 1) = rowN (hasR xs i) (szR xs) := fun i h hi => and_ones _ _ fun k hk => has_at hi hk h
  have HF : Hid _ := hF
  clear hF
  obtain ⟨f, hf⟩ : ∃ f, f = hasR xs := ⟨_, rfl⟩
  rw [← hf] at HF ⊢
  clear hf
  generalize szR xs = n at *
  go_enter Try.func33, Try.ntmps33
  go_wp2_with (go_at_call 14; refine C.mono ?_; rintro e w1 ⟨b, rfl, hR, hb, hB⟩)
  clear C
  go_loopw [10] (fun i wr => ∃ k : Nat, k ≤ n ∧ i = .int .i64 k ∧ Row wr b 37 n (partN (fun i => rowN (f i) n) k) ∧ Below w.heap.size w wr) (fun i _ => n - (intOf i).toNat)
  case atStart => exact ⟨0, Nat.zero_le _, rfl, hR.start _, hB⟩
  case round =>
    obtain ⟨k, hk, rfl, hRr, hBr⟩ := hrel
    by_cases hlt : k < n
    · obtain ⟨hu, ab, ao, rfl, hc⟩ := (u32_at (hx.keep hBr)).2 k (by omega)
      have HX := HF.out k (by omega) hlt
      generalize xs[k] = x at *
      have HX : Hid _ := HX
      have hz := cell_lt hc
      have hz2 := hRr.lt
      have hfr := hRr.frozen k
      have hlt' : (k : Int) < (n : Int) := by omega
      have hlt2 : (k : Int) < (xs.length : Int) := by omega
      go_wp2
      have hne : ∀ w, Nonempty (Ext w) := ext_some
      have hne2 : Nonempty AnyW := anyW_some
      refine wp_region_mixL [([0, 1, 2, 3, 4, 5, 6, 7], 8, false), ([9, 10], 11, true)] [] [11] (by kernel_rfl) (by kernel_rfl) (fun _ _ d _ _ h => by cases d <;> exact h) ?_
      dsimp only [List.map, mapL, opAt]
      refine wpMixL_stage ?_
      repeat (go_big_quiet_step (fail))
      refine wpQuiet_nil ?_
      have hD : Below wr.heap.size wr wr.drew := (Below.refl _ _).drew
      go_wp2_with (go_at_call 41; refine (allBits_any n _ h32).mono ?_; rintro e w4 ⟨rfl, hb4⟩)
      have hB4 : Below wr.heap.size wr w4 := hD.trans hb4
      refine ⟨.inr hB4, ?_⟩
      refine wpMixL_stage ?_
      repeat (go_big_quiet_step (fail))
      refine wpQuiet_nil ?_
      have hR4 := hRr.keep hB4
      have hfr4 := hR4.frozen k
      have hc4 := hR4.cell hlt
      go_wp2
      refine ⟨.inl trivial, ?_⟩
      refine wpMixL_last ?_
      refine wpQuiet_nil ?_
      go_wp2
      go_roundw
      case rel => exact ⟨k + 1, by omega, by go_num, hR4.step hlt ((and_u32 hu (ones_lt h32)).trans (by rw [HX.out])), below_set (hBr.trans (hB4.mono hBr.size)) hb _⟩
      case measure => simp [intOf]; omega
    · have e : k = n := by omega
      have hlt' : ¬ (k : Int) < (n : Int) := by omega
      subst e
      go_wp2
      go_ret
      exact ⟨b, rfl, hRr.done fun _ _ => rfl, hb, hBr⟩

def bothN (xs ys : List Nat) : Nat := if szR xs = szR ys then szR xs else 0
theorem bothN_le (xs ys : List Nat) : bothN xs ys ≤ 32 := by unfold bothN; split; exact szR_le xs; omega
theorem bothN_l {xs ys : List Nat} {i : Nat} (h : i < bothN xs ys) : bothN xs ys = szR xs ∧ bothN xs ys = szR ys := by
  unfold bothN at *
  split at h
  · rename_i e; rw [if_pos e]; exact ⟨rfl, e⟩
  · omega
set_option maxHeartbeats 1000000 in
theorem ofBoth_any (p q : Option Addr) (c d : Nat) (xs ys : List Nat) (w : World) : Calls Try.prog 40 #[.slice p xs.length c, .slice q ys.length d] w fun e w' => ∃ b, e = .returned (.slice (some ⟨b, 0, none⟩) (bothN xs ys) (bothN xs ys)) ∧ Row w' b 37 (bothN xs ys) (fun _ => 0) ∧ w.heap.size ≤ b ∧ Below w.heap.size w w' := by
  unfold bothN
  have C1 := things_any p c xs
  have C2 := things_any q d ys
  have h32 := szR_le xs
  generalize szR xs = n at *
  generalize szR ys = m at *
  have C1 : Hid _ := C1
  have C2 : Hid _ := C2
  by_cases e : n = m
  · rw [if_pos e]
    subst e
    have C3 := New_any (n : Int)
    rw [newN_nat h32] at C3
    have C3 : Hid _ := C3
    have F1 := trivial
    go_enter Try.func40, Try.ntmps40
    go_wp2_with (first
      | (go_at_call 32; clear F1; refine (C1.out _).mono ?_; rintro e w2 ⟨rfl, hb2⟩; have F2 := trivial)
      | (go_at_call 32; clear F2; refine (C2.out _).mono ?_; rintro e w3 ⟨rfl, hb3⟩; have F3 := trivial)
      | (go_at_call 32; clear F3; refine (C1.out _).mono ?_; rintro e w4 ⟨rfl, hb4⟩)
      | (go_at_call 14; refine (C3.out _).mono ?_; rintro e w5 ⟨b, rfl, hR, hb, hb5⟩))
    go_ret
    have hB := Below.thru (Below.thru hb2 hb3 (Nat.le_refl _)) hb4 (Nat.le_refl _)
    exact ⟨b, rfl, hR, Nat.le_trans hB.size hb, Below.thru hB hb5 (Nat.le_refl _)⟩
  · rw [if_neg e]
    have e' : ¬ (n : Int) = (m : Int) := by omega
    have C3 := New_any 0
    rw [show newN 0 = 0 from rfl] at C3
    have C3 : Hid _ := C3
    have F1 := trivial
    clear e
    go_enter Try.func40, Try.ntmps40
    go_wp2_with (first
      | (go_at_call 32; clear F1; refine (C1.out _).mono ?_; rintro e w2 ⟨rfl, hb2⟩; have F2 := trivial)
      | (go_at_call 32; clear F2; refine (C2.out _).mono ?_; rintro e w3 ⟨rfl, hb3⟩)
      | (go_at_call 14; refine (C3.out _).mono ?_; rintro e w5 ⟨b, rfl, hR, hb, hb5⟩))
    go_ret
    have hB := Below.thru hb2 hb3 (Nat.le_refl _)
    exact ⟨b, rfl, hR, Nat.le_trans hB.size hb, Below.thru hB hb5 (Nat.le_refl _)⟩
end Go.Proofs.Ytpgbedaonjfpnaa
