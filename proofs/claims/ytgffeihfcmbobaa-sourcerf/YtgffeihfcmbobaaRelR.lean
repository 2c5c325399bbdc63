/- RelR: RelRef, RelRef2, RelRef3, RelRef4, RelList, in one text. -/
import Derived.Test.YtgffeihfcmbobaaRelP
/- Contracts of the document's Size, bit, Has, power, Made, Pairs, Clean. -/
namespace Go.Proofs.Ytgffeihfcmbobaa
open Go.RowKit
attribute [local go_sem] Ext.cell Ext.frozen

/-- What the document tells: the pairs of f, of n things. -/
def Tells (w : World) (n : Nat) (f : Nat → Nat → Bool) (e : Ending) (w' : World) : Prop := ∃ v, e = .returned v ∧ Sl U32E w' v (mkR n f) ∧ Below w.heap.size w w'

set_option maxHeartbeats 1000000 in
theorem Size_any (p : Option Addr) (c : Nat) (xs : List Nat) (w : World) : Calls Try.prog 38 #[.slice p xs.length c] w fun e w' => e = .returned (.int .i64 (szR xs : Nat)) ∧ Below w.heap.size w w' := by
  unfold szR
  by_cases h : 32 < xs.length
  · have h' : (32 : Int) < (xs.length : Int) := by omega
    rw [if_pos h]
    go_enter Try.func38, Try.ntmps38
    go_wp2
    go_ret
    exact ⟨rfl, by go_grown⟩
  · have h' : ¬ (32 : Int) < (xs.length : Int) := by omega
    rw [if_neg h]
    go_enter Try.func38, Try.ntmps38
    go_wp2
    go_ret
    exact ⟨rfl, by go_grown⟩

set_option maxHeartbeats 1000000 in
theorem bit_any (x k : Nat) (w : World) (hx : x < 4294967296) (hk : k ≤ 100) : Calls Try.prog 46 #[.int .u32 (x : Int), .int .i64 (k : Int)] w fun e w' => e = .returned (.bool (x.testBit k)) ∧ Below w.heap.size w w' := by
  go_enter Try.func46, Try.ntmps46
  go_wp2
  go_loopw [0, 5] (fun a i wr => ∃ j y : Nat, j ≤ k ∧ a = .int .u32 (y : Int) ∧ i = .int .i64 j ∧ y = x / 2 ^ j ∧ y < 4294967296 ∧ wr = w) (fun _ i _ => k - (intOf i).toNat)
  case atStart => exact ⟨0, x, Nat.zero_le _, rfl, rfl, by simp, hx, rfl⟩
  case round =>
    obtain ⟨j, y, hj, rfl, rfl, hy, hylt, rfl⟩ := hrel
    have HY : Hid _ := hy
    clear hy
    by_cases hlt : j < k
    · have hlt' : (j : Int) < (k : Int) := by omega
      go_wp2
      go_roundw
      case rel => exact ⟨j + 1, y / 2, by omega, by simp, by go_num, by rw [HY.out, Nat.div_div_eq_div_mul, Nat.pow_succ], by omega, by simp⟩
      case measure => simp [intOf]; omega
    · have e : j = k := by omega
      have hlt' : ¬ (j : Int) < (k : Int) := by omega
      subst e
      go_wp2
      go_ret
      have ht : x.testBit j = decide (y % 2 = 1) := by
        rw [Nat.testBit_eq_decide_div_mod_eq, HY.out]
      refine ⟨?_, Below.refl _ _⟩
      rw [ht]
      have e2 : decide (y % 2 = 1) = ((y : Int) % 2 == 1) := by
        rw [Bool.eq_iff_iff]; simp; omega
      rw [e2]
      rfl
set_option maxHeartbeats 1000000 in
theorem power_any (k : Nat) (w : World) (hk : k < 32) : Calls Try.prog 43 #[.int .i64 (k : Int)] w fun e w' => e = .returned (.int .u32 ((2 ^ k : Nat) : Int)) ∧ Below w.heap.size w w' := by
  obtain ⟨z, hz⟩ : ∃ z, z = 2 ^ k := ⟨_, rfl⟩
  rw [← hz]
  have HZ : Hid _ := hz
  clear hz
  go_enter Try.func43, Try.ntmps43
  go_wp2
  go_loopw [3, 4] (fun a i wr => ∃ j y : Nat, j ≤ k ∧ a = .int .u32 (y : Int) ∧ i = .int .i64 j ∧ y = 2 ^ j ∧ wr = w) (fun _ i _ => k - (intOf i).toNat)
  case atStart => exact ⟨0, 1, Nat.zero_le _, rfl, rfl, rfl, rfl⟩
  case round =>
    obtain ⟨j, y, hj, rfl, rfl, hy, rfl⟩ := hrel
    have hy2 : j < k → 2 * y < 4294967296 := fun h => by
      rw [hy, Nat.mul_comm, ← Nat.pow_succ]
      exact pow_lt (by omega)
    have HY : Hid _ := hy
    clear hy
    by_cases hlt : j < k
    · have hlt' : (j : Int) < (k : Int) := by omega
      have hy3 := hy2 hlt
      go_wp2
      go_roundw
      case rel => exact ⟨j + 1, 2 * y, by omega, by simp, by go_num, by rw [HY.out, Nat.pow_succ, Nat.mul_comm], by simp⟩
      case measure => simp [intOf]; omega
    · have e : j = k := by omega
      have hlt' : ¬ (j : Int) < (k : Int) := by omega
      subst e
      go_wp2
      go_ret
      exact ⟨by rw [HZ.out, ← HY.out]; rfl, Below.refl _ _⟩

set_option maxHeartbeats 1000000 in
theorem refHas_any (p : Option Addr) (c : Nat) (xs : List Nat) (i k : Int) (w : World) (hx : Sl U32E w (.slice p xs.length c) xs) : Calls Try.prog 42 #[.slice p xs.length c, .int .i64 i, .int .i64 k] w fun e w' => e = .returned (.bool (hasI xs i k)) ∧ Below w.heap.size w w' := by
  have C := Size_any p c xs w
  have hl := szR_len xs
  have h32 := szR_le xs
  by_cases h1 : 0 ≤ i ∧ i < (szR xs : Nat)
  · by_cases h2 : 0 ≤ k ∧ k < (szR xs : Nat)
    · obtain ⟨i, rfl⟩ : ∃ j : Nat, i = j := ⟨i.toNat, by omega⟩
      obtain ⟨k, rfl⟩ : ∃ j : Nat, k = j := ⟨k.toNat, by omega⟩
      rw [hasI_nat]
      obtain ⟨hu, b, o, rfl, hc⟩ := (u32_at hx).2 i (by omega)
      rw [← has_at (by omega) (by omega) (show i < xs.length by omega)]
      have C2 := fun w' => bit_any xs[i] k w' hu (by omega)
      generalize xs[i] = x at *
      generalize szR xs = n at *
      have C2 : Hid _ := C2
      obtain ⟨_, h1⟩ := h1
      obtain ⟨_, h2⟩ := h2
      have h3 : (i : Int) < (xs.length : Int) := by omega
      go_enter Try.func42, Try.ntmps42
      go_wp2_with (first
        | (go_at_call 38; refine C.mono ?_; rintro e w2 ⟨rfl, hb2⟩; have hc2 := cell_keep hc hb2)
        | (go_at_call 46; refine (C2.out _).mono ?_; rintro e w3 ⟨rfl, hb3⟩))
      go_ret
      exact ⟨rfl, Below.thru hb2 hb3 (Nat.le_refl _)⟩
    · have hf : hasI xs i k = false := by
        have : thing xs k = false := by unfold thing; rw [Bool.and_eq_false_iff, decide_eq_false_iff_not, decide_eq_false_iff_not]; omega
        unfold hasI; rw [this, Bool.and_false, Bool.false_and]
      rw [hf]
      generalize szR xs = n at *
      clear hf
      obtain ⟨h0, h1⟩ := h1
      have h3 : k < 0 ∨ (0 ≤ k ∧ ¬ k < (n : Nat)) := by omega
      rcases h3 with h3 | ⟨h3, h4⟩
      · have h3' : ¬ 0 ≤ k := by omega
        clear h2
        go_enter Try.func42, Try.ntmps42
        go_wp2_with (go_at_call 38; refine C.mono ?_; rintro e w2 ⟨rfl, hb2⟩)
        go_ret
        exact ⟨rfl, hb2⟩
      · clear h2
        go_enter Try.func42, Try.ntmps42
        go_wp2_with (go_at_call 38; refine C.mono ?_; rintro e w2 ⟨rfl, hb2⟩)
        go_ret
        exact ⟨rfl, hb2⟩
  · have hf : hasI xs i k = false := by
      have : thing xs i = false := by unfold thing; rw [Bool.and_eq_false_iff, decide_eq_false_iff_not, decide_eq_false_iff_not]; omega
      unfold hasI; rw [this, Bool.false_and, Bool.false_and]
    rw [hf]
    generalize szR xs = n at *
    clear hf
    have h3 : i < 0 ∨ (0 ≤ i ∧ ¬ i < (n : Nat)) := by omega
    rcases h3 with h3 | ⟨h3, h4⟩
    · have h3' : ¬ 0 ≤ i := by omega
      clear h1
      go_enter Try.func42, Try.ntmps42
      go_wp2_with (go_at_call 38; refine C.mono ?_; rintro e w2 ⟨rfl, hb2⟩)
      go_ret
      exact ⟨rfl, hb2⟩
    · clear h1
      go_enter Try.func42, Try.ntmps42
      go_wp2_with (go_at_call 38; refine C.mono ?_; rintro e w2 ⟨rfl, hb2⟩)
      go_ret
      exact ⟨rfl, hb2⟩

theorem add_pow {g : Nat → Bool} {j : Nat} (hg : g j = false) : ∀ {n : Nat}, j < n → rowN g n + 2 ^ j = rowN (fun x => g x || decide (x = j)) n
  | 0, h => by omega
  | n + 1, h => by
    simp only [rowN]
    by_cases e : j = n
    · subst e
      rw [hg]
      have : rowN (fun x => g x || decide (x = j)) j = rowN g j := row_congr fun k hk => by rw [decide_eq_false (by omega), Bool.or_false]
      rw [this]
      simp
    · have ih := add_pow hg (n := n) (by omega)
      rw [← ih, decide_eq_false (show ¬ n = j by omega), Bool.or_false]
      omega
theorem ofF_snoc (l : List (Nat × Nat)) (i j x y : Nat) : ofF (l ++ [(i, j)]) x y = (ofF l x y || (decide (x = i) && decide (y = j))) := by
  unfold ofF
  rw [Bool.eq_iff_iff]
  simp
theorem make_u32s (n : Int) (w : World) (h0 : 0 ≤ n) (hn : n ≤ 100) : (Instr.makeSlice 26 (.int .i64 n) (.int .i64 n)).run Try.prog w = .ok (.slice (some ⟨w.heap.size, 0, none⟩) n.toNat n.toNat) (w.alloc (.cells (rowsV n.toNat (fun _ => 0)) 71)) := by
  obtain ⟨i, j1, j2, j3, j4⟩ := get_info info_u32R
  rw [run_makeSlice (P := Try.prog) w 26 71 _ _ Try.underlying26 j1 j2 .i64 .i64 n n h0 (Int.le_refl _) (by rw [j3]; omega) (by rw [j4]; omega) (by omega), j3, made_zero]

theorem hasI_mk {n : Nat} (f : Nat → Nat → Bool) (hn : n ≤ 32) {i k : Nat} (hi : i < n) (hk : k < n) : hasI (mkR n f) (i : Int) (k : Int) = f i k := by
  rw [hasI_nat, mkR_has f hn]; simp [hi, hk]
set_option maxHeartbeats 4000000 in
theorem Made_new (n : Nat) (q : Option Addr) (d : Nat) (l : List (Nat × Nat)) (w : World) (hn : n ≤ 32) (hl : Sl PairE w (.slice q l.length d) l) (hin : ∀ x ∈ l, x.1 < n ∧ x.2 < n) (hlen : l.length ≤ 100000) : Calls Try.prog 34 #[.int .i64 (n : Int), .slice q l.length d] w fun e w' => ∃ v, e = .returned v ∧ SlA (fun k => w.heap.size ≤ k) U32E w' v (mkR n (ofF l)) ∧ Below w.heap.size w w' := by
  have hmk := make_u32s (n : Int) w (by omega) (by omega)
  rw [Int.toNat_natCast] at hmk
  have hR : Row (w.alloc (.cells (rowsV n (fun _ => 0)) 71)) w.heap.size 71 n (fun y => rowN (ofF (l.take 0) y) n) := by
    refine Row.congr (g := fun _ => 0) Blk.new fun y _ => ?_
    refine row_ext (Nat.two_pow_pos n) (rowN_lt _ _) fun k _ => ?_
    rw [rowN_bit]; simp [ofF]
  have hB : Below w.heap.size w (w.alloc (.cells (rowsV n (fun _ => 0)) 71)) := (Below.refl _ _).alloc (Nat.le_refl _) _
  have HIN : Hid _ := hin
  clear hin
  go_enter Try.func34, Try.ntmps34
  go_wp2
  clear hmk
  generalize w.alloc (.cells (rowsV n (fun _ => 0)) 71) = w1 at *
  go_loopw [6] (fun i wr => ∃ k : Nat, k ≤ l.length ∧ i = .int .i64 k ∧ Row wr w.heap.size 71 n (fun y => rowN (ofF (l.take k) y) n) ∧ Below w.heap.size w wr) (fun i _ => l.length - (intOf i).toNat)
  case atStart => exact ⟨0, Nat.zero_le _, rfl, hR, hB⟩
  case round =>
    obtain ⟨k, hk, rfl, hRr, hBr⟩ := hrel
    by_cases hlt : k < l.length
    · have hlt' : (k : Int) < (l.length : Int) := by omega
      obtain ⟨lb, lo, rfl, hc1, hc2⟩ := (pair_at (hl.keep hBr)).2 k hlt
      obtain ⟨hi, hj⟩ := HIN.out _ (List.getElem_mem hlt)
      have htk : l.take (k + 1) = l.take k ++ [l[k]] := by rw [List.take_add_one, List.getElem?_eq_getElem hlt]; rfl
      generalize l[k] = ij at *
      obtain ⟨i, j⟩ := ij
      simp only at hi hj hc1 hc2
      have hS := hRr.mk (A := fun _ => True) trivial hn
      have e1 : (mkR n (ofF (l.take k))).length = n := mkR_len _ _
      have C1 := fun q : Ext wr => refHas_any (some ⟨w.heap.size, 0, none⟩) n (mkR n (ofF (l.take k))) (i : Int) (j : Int) q.wd (by rw [e1]; exact SlA.keep hS q.ok)
      rw [e1, hasI_mk _ hn hi hj] at C1
      clear e1 hS
      have HTK : Hid _ := htk
      clear htk
      have hz1 := cell_lt hc1
      have hne : ∀ w, Nonempty (Ext w) := ext_some
      cases hbit : ofF (l.take k) i j with
      | true =>
        rw [hbit] at C1
        have hsame : ∀ y, y < n → rowN (ofF (l.take k) y) n = rowN (ofF (l.take (k + 1)) y) n := fun y _ => row_congr fun z _ => by
          rw [HTK.out, ofF_snoc]
          by_cases e : y = i
          · by_cases e2 : z = j
            · subst e e2; rw [hbit]; rfl
            · simp [e2]
          · simp [e]
        have HS : Hid _ := hsame
        have C1 : Hid _ := C1
        clear hbit hsame
        go_wp2
        refine wp_region_ext (by kernel_rfl) (by kernel_rfl) ?_
        repeat (go_big_quiet_step (first | (go_at_call 42; exact calls_ext (C1.out _))))
        refine wpQuiet_nil ?_
        rintro _ ⟨rr, rfl⟩
        go_wp2
        go_roundw
        case rel => exact ⟨k + 1, by omega, by go_num, (hRr.keep rr.ok).congr HS.out, Below.thru hBr rr.ok (Nat.le_refl _)⟩
        case measure => simp [intOf]; omega
      | false =>
        rw [hbit] at C1
        have hstep : ∀ y, y < n → updN (fun y => rowN (ofF (l.take k) y) n) i (rowN (ofF (l.take k) i) n + 2 ^ j) y = rowN (ofF (l.take (k + 1)) y) n := fun y _ => by
          unfold updN
          by_cases e : y = i
          · subst e
            rw [if_pos rfl, add_pow hbit hj]
            exact row_congr fun z _ => by rw [HTK.out, ofF_snoc, decide_eq_true rfl, Bool.true_and]
          · rw [if_neg e]
            exact row_congr fun z _ => by rw [HTK.out, ofF_snoc, decide_eq_false e, Bool.false_and, Bool.or_false]
        have hadd : rowN (ofF (l.take k) i) n + 2 ^ j < 4294967296 := by rw [add_pow hbit hj]; exact rowN_u32 hn
        have HS : Hid _ := hstep
        have C1 : Hid _ := C1
        clear hbit hstep
        have hci := hRr.cell hi
        have hz2 := hRr.lt
        have hi' : (i : Int) < (n : Int) := by omega
        go_wp2
        refine wp_region_ext (by kernel_rfl) (by kernel_rfl) ?_
        repeat (go_big_quiet_step (first | (go_at_call 42; exact calls_ext (C1.out _))))
        refine wpQuiet_nil ?_
        rintro _ ⟨rr, rfl⟩
        obtain ⟨w3, hb3⟩ := rr
        simp only at *
        have hR3 := hRr.keep hb3
        have hB3 := Below.thru hBr hb3 (Nat.le_refl _)
        have hc13 := cell_keep hc1 hb3
        have hc23 := cell_keep hc2 hb3
        have hci3 := hR3.cell hi
        have hz3 := hR3.lt
        have hz13 := cell_lt hc13
        generalize hrw : rowN (ofF (l.take k) i) n = rw at hci hci3 hadd
        have HRW : Hid _ := hrw
        clear hrw
        go_wp2
        have hne2 : Nonempty AnyW := anyW_some
        refine wp_region_mixL [([0, 1, 2, 3, 4, 5, 6, 7, 8, 9, 10, 11, 12, 13, 14, 15, 16, 17, 18], 19, false), ([20, 21], 22, true)] [] [22] (by kernel_rfl) (by kernel_rfl) (fun _ _ d _ _ h => by cases d <;> exact h) ?_
        dsimp only [List.map, mapL, opAt]
        refine wpMixL_stage ?_
        repeat (go_big_quiet_step (fail))
        refine wpQuiet_nil ?_
        have hD : Below w3.heap.size w3 w3.drew := (Below.refl _ _).drew
        go_wp2_with (go_at_call 43; refine (power_any j _ (by omega)).mono ?_; rintro e w4 ⟨rfl, hb4⟩)
        have hB4 : Below w3.heap.size w3 w4 := hD.trans hb4
        refine ⟨.inr hB4, ?_⟩
        refine wpMixL_stage ?_
        repeat (go_big_quiet_step (fail))
        refine wpQuiet_nil ?_
        have hR4 := hR3.keep hB4
        have hfr4 := hR4.frozen i
        have hc4 := hR4.cell hi
        go_wp2
        refine ⟨.inl trivial, ?_⟩
        refine wpMixL_last ?_
        refine wpQuiet_nil ?_
        go_wp2
        go_roundw
        case rel => exact ⟨k + 1, by omega, by go_num, (hR4.setI hi (x := rowN (ofF (l.take k) i) n + 2 ^ j) (by rw [HRW.out, show ((2 : Int) ^ j) = ((2 ^ j : Nat) : Int) by simp]; generalize 2 ^ j = z at *; omega)).congr HS.out, below_set (hB3.trans (hB4.mono hB3.size)) (Nat.le_refl _) _⟩
        case measure => simp [intOf]; omega
    · have e : k = l.length := by omega
      have hlt' : ¬ (k : Int) < (l.length : Int) := by omega
      subst e
      rw [List.take_length] at hRr
      go_wp2
      go_ret
      exact ⟨_, rfl, hRr.mk (Nat.le_refl _) hn, hBr⟩

theorem Made_any (n : Nat) (q : Option Addr) (d : Nat) (l : List (Nat × Nat)) (w : World) (hn : n ≤ 32) (hl : Sl PairE w (.slice q l.length d) l) (hin : ∀ x ∈ l, x.1 < n ∧ x.2 < n) (hlen : l.length ≤ 100000) : Calls Try.prog 34 #[.int .i64 (n : Int), .slice q l.length d] w (Tells w n (ofF l)) :=
  (Made_new n q d l w hn hl hin hlen).mono fun _ _ ⟨v, h1, h2, h3⟩ => ⟨v, h1, h2.any, h3⟩

/-- The law of append at pairs that the call itself made. -/
theorem wpList_pair {w : World} {out : List (Nat × Nat)} {ops : Array Oper} {rest : List Oper} {o : Oper} {a : Act} {Q : Exit → Act → World → Prop} (hgd : o.guard = none) (s x : Operand)
    (ho : o.op = .call { callee := .builtin .append, args := #[s, x], argTypes := #[52, 52] })
    (base : Nat) (v : Value) (b i k : Nat) (hs : a.eval s = v) (hx : a.eval x = .slice (some ⟨b, 0, none⟩) 1 1) (hown : Own (fun _ => False) PairE w base 55 v out)
    (h0 : w.cell? ⟨b, 0, none⟩ = some (.int .i64 (i : Int))) (h1 : w.cell? ⟨b, 1, none⟩ = some (.int .i64 (k : Int))) (hlen : out.length ≤ 1000000) (hbase : base ≤ w.heap.size)
    (h : ∀ p cap w', Own (fun _ => False) PairE w' base 55 (.slice p (out.length + 1) cap) (out ++ [(i, k)]) → w.grownBy w' v.ownBlock → wpList Try.prog ops Q rest (a.put o.dst (.slice p (out.length + 1) cap)) w') : wpList Try.prog ops Q (o :: rest) a w := by
  obtain ⟨i0, j1, j2, j3, j4⟩ := get_info info_pair
  refine wpList_app (R := PairE) (A := fun _ => False) (xs := out) (ys := [(i, k)]) hgd s x 52 55 i0 _ 16 ho Try.underlying52 j1 j2 j3 j4 (by rfl) base v _ hs hx hown (pair_one h0 h1) (fun _ _ _ h => h) (by simp only [List.length_cons, List.length_nil]; omega) (by decide) hbase ?_
  intro p5 c5 w5 hO5 hg5 _
  rw [List.length_append] at hO5 ⊢
  exact h p5 c5 w5 hO5 hg5

set_option maxHeartbeats 4000000 in
theorem refPairs_any (p : Option Addr) (c : Nat) (xs : List Nat) (w : World) (hx : Sl U32E w (.slice p xs.length c) xs) : Calls Try.prog 39 #[.slice p xs.length c] w fun e w' => ∃ v, e = .returned v ∧ Own (fun _ => False) PairE w' w.heap.size 55 v (pairsF (szR xs) (hasR xs)) ∧ Below w.heap.size w w' := by
  have C := Size_any p c xs w
  have h32 := szR_le xs
  have hX : ∀ (i k : Nat) (w' : World), Below w.heap.size w w' → Calls Try.prog 42 #[.slice p xs.length c, .int .i64 (i : Int), .int .i64 (k : Int)] w' fun e w'' => e = .returned (.bool (hasR xs i k)) ∧ Below w'.heap.size w' w'' := fun i k w' hb => by
    have := refHas_any p c xs i k w' (hx.keep hb)
    rw [hasI_nat] at this
    exact this
  generalize hasR xs = f at *
  generalize szR xs = n at *
  have HX : Hid _ := hX
  clear hX
  go_enter Try.func39, Try.ntmps39
  go_wp2_with (go_at_call 38; refine C.mono ?_; rintro e w1 ⟨rfl, hB⟩)
  clear C
  go_loopw [3, 5] (fun a i wr => ∃ (k : Nat) (out : List (Nat × Nat)), k ≤ n ∧ i = .int .i64 k ∧ Own (fun _ => False) PairE wr w.heap.size 55 a out ∧ out = pairsTo f n k ∧ out.length ≤ k * 32 ∧ Below w.heap.size w wr) (fun _ i _ => n - (intOf i).toNat)
  case atStart => exact ⟨0, [], Nat.zero_le _, rfl, Own.nil, rfl, by simp, hB⟩
  case round =>
    obtain ⟨k, out, hk, rfl, hO, hout, hlen, hBr⟩ := hrel
    obtain ⟨w2, rfl⟩ : ∃ x : World, x = wr := ⟨_, rfl⟩
    obtain ⟨pa, ca, rfl⟩ := hO.len
    have HOUT : Hid _ := hout
    clear hout
    by_cases hlt : k < n
    · have hlt' : (k : Int) < (n : Int) := by omega
      go_wp2
      go_loopw [3, 6] (fun a i wr => ∃ (j : Nat) (out' : List (Nat × Nat)), j ≤ n ∧ i = .int .i64 j ∧ Own (fun _ => False) PairE wr w.heap.size 55 a out' ∧ out' = pairsTo f n k ++ rowP f k j ∧ out'.length ≤ k * 32 + j ∧ Below w.heap.size w wr) (fun _ i _ => n - (intOf i).toNat)
      case atStart => exact ⟨0, out, Nat.zero_le _, rfl, hO, by rw [HOUT.out]; simp [rowP], by omega, hBr⟩
      case round =>
        obtain ⟨j, out', hj, rfl, hO', hout', hlen', hBi⟩ := hrel
        obtain ⟨pa', ca', rfl⟩ := hO'.len
        have HOUT' : Hid _ := hout'
        clear hout'
        by_cases hjn : j < n
        · have hjn' : (j : Int) < (n : Int) := by omega
          have C1 := HX.out k j wr hBi
          cases hbit : f k j with
          | true =>
            rw [hbit] at C1
            have HB : Hid _ := hbit
            clear hbit
            go_wp2_with (first
              | (go_at_call 42; refine C1.mono ?_; rintro e w3 ⟨rfl, hb3⟩; have hO3 := hO'.keep hb3; have hB3 := Below.thru hBi hb3 (Nat.le_refl _))
              | (at_builtin; have hA3 := (Below.refl w3.heap.size w3).alloc (Nat.le_refl _) (.cells #[.int .i64 (k : Int), .int .i64 (j : Int)] 55); have hB4 := Below.thru hB3 hA3 (Nat.le_refl _); refine wpList_pair (by rfl) (.tmp 23) (.tmp 27) (by rfl) w.heap.size (.slice pa' out'.length ca') w3.heap.size k j (by rfl) (by rfl) (hO3.keep hA3) (by simp) (by simp) (by omega) hB4.size ?_; intro p5 c5 w5 hO5 hg5))
            go_roundw
            case rel => exact ⟨j + 1, out' ++ [(k, j)], by omega, by go_num, hO5, by rw [HOUT'.out, rowP_yes HB.out, List.append_assoc], by simp only [List.length_append, List.length_cons, List.length_nil]; omega, hB4.grown hg5 hB4.size (fun q hq => ((hO3.keep hA3).lt q hq).1)⟩
            case measure => simp [intOf]; omega
          | false =>
            rw [hbit] at C1
            have HB : Hid _ := hbit
            clear hbit
            go_wp2_with (go_at_call 42; refine C1.mono ?_; rintro e w3 ⟨rfl, hb3⟩)
            go_roundw
            case rel => exact ⟨j + 1, out', by omega, by go_num, hO'.keep hb3, by rw [HOUT'.out, rowP_no HB.out], by omega, Below.thru hBi hb3 (Nat.le_refl _)⟩
            case measure => simp [intOf]; omega
        · have e : j = n := by omega
          have hjn' : ¬ (j : Int) < (n : Int) := by omega
          subst e
          go_wp2
          go_roundw
          case rel => exact ⟨k + 1, out', by omega, by go_num, hO', by rw [HOUT'.out, pairsTo_succ], by omega, hBi⟩
          case measure => simp [intOf]; omega
    · have e : k = n := by omega
      have hlt' : ¬ (k : Int) < (n : Int) := by omega
      subst e
      go_wp2
      go_ret
      exact ⟨_, rfl, by rw [← pairsTo_all, ← HOUT.out]; exact hO, hBr⟩

theorem pairsF_len (f : Nat → Nat → Bool) {n : Nat} (hn : n ≤ 32) : (pairsF n f).length ≤ 1024 := by
  have hr : ∀ i, (rowP f i n).length ≤ 32 := fun i => by
    unfold rowP
    rw [List.length_map]
    exact Nat.le_trans (List.length_filter_le _ _) (by simpa using hn)
  have : ∀ i, (pairsTo f n i).length ≤ i * 32 := fun i => by
    induction i with
    | zero => simp [pairsTo]
    | succ i ih => rw [pairsTo_succ, List.length_append]; have := hr i; omega
  have := this n
  rw [pairsTo_all] at this
  omega
theorem pairsF_in {f : Nat → Nat → Bool} {n : Nat} : ∀ x ∈ pairsF n f, x.1 < n ∧ x.2 < n := fun x hx => by
  obtain ⟨i, k⟩ := x
  have := pairs_mem.1 hx
  exact ⟨this.1, this.2.1⟩
/-- What is told of a list of pairs is told of all that has the same. -/
theorem mkR_of {n : Nat} {l : List (Nat × Nat)} {f : Nat → Nat → Bool} (h : ∀ i k, i < n → k < n → ofF l i k = f i k) : mkR n (ofF l) = mkR n f := mkR_congr h
theorem of_pairs_at {n : Nat} (f : Nat → Nat → Bool) {i k : Nat} (hi : i < n) (hk : k < n) : ofF (pairsF n f) i k = f i k := by
  rw [Bool.eq_iff_iff]
  unfold ofF
  rw [List.contains_iff_mem, pairs_mem]
  exact ⟨fun h => h.2.2, fun h => ⟨hi, hk, h⟩⟩
set_option maxHeartbeats 1000000 in
theorem Clean_any (p : Option Addr) (c : Nat) (xs : List Nat) (w : World) (hx : Sl U32E w (.slice p xs.length c) xs) : Calls Try.prog 31 #[.slice p xs.length c] w (Tells w (szR xs) (hasR xs)) := by
  have C1 := Size_any p c xs
  have C2 := fun (w' : World) (h : Below w.heap.size w w') => refPairs_any p c xs w' (hx.keep h)
  have h32 := szR_le xs
  have hlen := pairsF_len (hasR xs) h32
  have hin := pairsF_in (f := hasR xs) (n := szR xs)
  have hm : mkR (szR xs) (ofF (pairsF (szR xs) (hasR xs))) = mkR (szR xs) (hasR xs) := mkR_of fun i k hi hk => of_pairs_at _ hi hk
  unfold Tells
  rw [← hm]
  clear hm
  generalize pairsF (szR xs) (hasR xs) = l at *
  generalize szR xs = n at *
  have C1 : Hid _ := C1
  have C2 : Hid _ := C2
  have HIN : Hid _ := hin
  clear hin
  go_enter Try.func31, Try.ntmps31
  go_wp2_with (first
    | (go_at_call 38; refine (C1.out _).mono ?_; rintro e w1 ⟨rfl, hb1⟩)
    | (go_at_call 39; refine (C2.out _ hb1).mono ?_; rintro e w2 ⟨v, rfl, hO, hb2⟩; obtain ⟨pl, cl, rfl⟩ := hO.len; have C3 := Made_any n pl cl l w2 h32 hO.sl.any HIN.out (by omega))
    | (go_at_call 34; refine C3.mono ?_; rintro e w3 ⟨v3, rfl, h3, hb3⟩))
  go_ret
  exact ⟨v3, rfl, h3, Below.thru (Below.thru hb1 hb2 (Nat.le_refl _)) hb3 (Nat.le_refl _)⟩
end Go.Proofs.Ytgffeihfcmbobaa

/- Contracts of the document's Or, And, Only, Inv, Put, Cross. -/
namespace Go.Proofs.Ytgffeihfcmbobaa
open Go.RowKit
attribute [local go_sem] Ext.cell Ext.frozen

theorem Own.empty {α : Type} {A : Nat → Prop} {R : Elem α} {w : World} {e : TypeId} : Own A R (w.alloc (.cells #[] e)) w.heap.size e (.slice (some ⟨w.heap.size, 0, none⟩) 0 0) [] :=
  ⟨[], World.ownsRow_made w #[] 0 (Nat.le_refl _) (Nat.zero_le _) (by simp), rfl, fun i h => by simp at h⟩
/-- The law of append at pairs. -/
theorem wpList_pairs {w : World} {out ys : List (Nat × Nat)} {ops : Array Oper} {rest : List Oper} {o : Oper} {a : Act} {Q : Exit → Act → World → Prop} (hgd : o.guard = none) (s x : Operand)
    (ho : o.op = .call { callee := .builtin .append, args := #[s, x], argTypes := #[52, 52] })
    (base : Nat) (v u : Value) (hs : a.eval s = v) (hx : a.eval x = u) (hown : Own (fun _ => False) PairE w base 55 v out)
    (hu : Sl PairE w u ys) (hlen : out.length + ys.length ≤ 1000000) (hbase : base ≤ w.heap.size)
    (h : ∀ p cap w', Own (fun _ => False) PairE w' base 55 (.slice p (out ++ ys).length cap) (out ++ ys) → w.grownBy w' v.ownBlock → wpList Try.prog ops Q rest (a.put o.dst (.slice p (out ++ ys).length cap)) w') : wpList Try.prog ops Q (o :: rest) a w := by
  obtain ⟨i0, j1, j2, j3, j4⟩ := get_info info_pair
  refine wpList_app (R := PairE) (A := fun _ => False) (xs := out) (ys := ys) hgd s x 52 55 i0 _ 16 ho Try.underlying52 j1 j2 j3 j4 (by rfl) base v _ hs hx hown hu (fun _ _ _ h => h) (by omega) (by decide) hbase ?_
  intro p5 c5 w5 hO5 hg5 _
  exact h p5 c5 w5 hO5 hg5
theorem bothN_eq {xs ys : List Nat} (h : szR xs = szR ys) : bothN xs ys = szR xs := by unfold bothN; rw [if_pos h]
theorem bothN_ne {xs ys : List Nat} (h : ¬ szR xs = szR ys) : bothN xs ys = 0 := by unfold bothN; rw [if_neg h]
theorem ofF_app (l m : List (Nat × Nat)) (i k : Nat) : ofF (l ++ m) i k = (ofF l i k || ofF m i k) := by
  unfold ofF
  rw [Bool.eq_iff_iff]
  simp

theorem take_snoc {α : Type} {l : List α} {k : Nat} (h : k < l.length) : l.take (k + 1) = l.take k ++ [l[k]] := by rw [List.take_add_one, List.getElem?_eq_getElem h]; rfl
theorem of_filter {n : Nat} (f : Nat → Nat → Bool) (h : Nat × Nat → Bool) {i k : Nat} (hi : i < n) (hk : k < n) : ofF ((pairsF n f).filter h) i k = (f i k && h (i, k)) := by
  rw [Bool.eq_iff_iff]
  unfold ofF
  rw [List.contains_iff_mem, List.mem_filter, pairs_mem, Bool.and_eq_true]
  exact ⟨fun ⟨a, b⟩ => ⟨a.2.2, b⟩, fun ⟨a, b⟩ => ⟨⟨hi, hk, a⟩, b⟩⟩

theorem of_swap {n : Nat} (f : Nat → Nat → Bool) {i k : Nat} (hi : i < n) (hk : k < n) : ofF ((pairsF n f).map fun x => (x.2, x.1)) i k = invF f i k := by
  rw [Bool.eq_iff_iff]
  unfold ofF invF
  rw [List.contains_iff_mem, List.mem_map]
  constructor
  · rintro ⟨⟨a, b⟩, h, e⟩
    simp only [Prod.mk.injEq] at e
    obtain ⟨rfl, rfl⟩ := e
    exact (pairs_mem.1 h).2.2
  · intro h
    exact ⟨(k, i), pairs_mem.2 ⟨hk, hi, h⟩, rfl⟩
end Go.Proofs.Ytgffeihfcmbobaa

/- Contracts of the document's Put, Cross, Seq, Plus, Acyclic, Same. -/
namespace Go.Proofs.Ytgffeihfcmbobaa
open Go.RowKit
attribute [local go_sem] Ext.cell Ext.frozen

/-- The pairs that x leads on to. -/
def onP (g : Nat → Nat → Bool) (x : Nat × Nat) (k : Nat) : List (Nat × Nat) := ((List.range k).filter (g x.2)).map fun y => (x.1, y)
theorem onP_yes {g : Nat → Nat → Bool} {x : Nat × Nat} {k : Nat} (h : g x.2 k = true) : onP g x (k + 1) = onP g x k ++ [(x.1, k)] := by
  simp [onP, List.range_succ, List.filter_append, h]
theorem onP_no {g : Nat → Nat → Bool} {x : Nat × Nat} {k : Nat} (h : g x.2 k = false) : onP g x (k + 1) = onP g x k := by
  simp [onP, List.range_succ, List.filter_append, h]
theorem onP_in {g : Nat → Nat → Bool} {x y : Nat × Nat} {n : Nat} (hx : x.1 < n) (h : y ∈ onP g x n) : y.1 < n ∧ y.2 < n := by
  unfold onP at h
  obtain ⟨z, hz, rfl⟩ := List.mem_map.1 h
  exact ⟨hx, by simpa using (List.mem_filter.1 hz).1⟩
theorem of_on {n : Nat} (f g : Nat → Nat → Bool) {i k : Nat} (hi : i < n) (hk : k < n) : ofF ((pairsF n f).flatMap fun x => onP g x n) i k = seqF n f g i k := by
  rw [Bool.eq_iff_iff]
  unfold ofF
  rw [List.contains_iff_mem, List.mem_flatMap, seqF_iff]
  constructor
  · rintro ⟨⟨a, b⟩, h, hy⟩
    obtain ⟨z, hz, e⟩ := List.mem_map.1 hy
    simp only [Prod.mk.injEq] at e
    obtain ⟨rfl, rfl⟩ := e
    have h1 := pairs_mem.1 h
    exact ⟨b, h1.2.1, h1.2.2, (List.mem_filter.1 hz).2⟩
  · rintro ⟨j, hj, h1, h2⟩
    exact ⟨(i, j), pairs_mem.2 ⟨hi, hj, h1⟩, List.mem_map.2 ⟨k, List.mem_filter.2 ⟨by simpa using hk, h2⟩, rfl⟩⟩
end Go.Proofs.Ytgffeihfcmbobaa

/- Contracts of the document's Plus, Acyclic, Same; of the law's pairs. -/
namespace Go.Proofs.Ytgffeihfcmbobaa
open Go.RowKit
attribute [local go_sem] Ext.cell Ext.frozen

theorem hasR_mk {n : Nat} (f : Nat → Nat → Bool) (hn : n ≤ 32) {i k : Nat} (hi : i < n) (hk : k < n) : hasR (mkR n f) i k = f i k := by
  rw [mkR_has f hn]; simp [hi, hk]
set_option maxHeartbeats 4000000 in
theorem refSame_any (p q : Option Addr) (c d : Nat) (xs ys : List Nat) (w : World) (hx : Sl U32E w (.slice p xs.length c) xs) (hy : Sl U32E w (.slice q ys.length d) ys) : Calls Try.prog 20 #[.slice p xs.length c, .slice q ys.length d] w fun e w' => e = .returned (.bool (decide (cleanR xs = cleanR ys))) ∧ Below w.heap.size w w' := by
  have C1 := Clean_any p c xs w hx
  have C2 := fun (w' : World) (h : Below w.heap.size w w') => Clean_any q d ys w' (hy.keep h)
  have h32 : (cleanR xs).length ≤ 32 := by unfold cleanR; rw [mkR_len]; exact szR_le xs
  unfold Tells at C1 C2
  change Calls _ _ _ _ (fun e w' => ∃ v, e = _ ∧ Sl U32E w' v (cleanR xs) ∧ _) at C1
  change ∀ w' (_ : Below w.heap.size w w'), Calls _ _ _ _ (fun e w'' => ∃ v, e = _ ∧ Sl U32E w'' v (cleanR ys) ∧ _) at C2
  generalize cleanR xs = rx at *
  generalize cleanR ys = ry at *
  clear hx hy
  have C2 : Hid _ := C2
  have F1 := trivial
  by_cases hl : rx.length = ry.length
  · have hl' : (rx.length : Int) = (ry.length : Int) := by omega
    have HL : Hid _ := hl
    clear hl
    go_enter Try.func20, Try.ntmps20
    go_wp2_with (first
      | (go_at_call 31; clear F1; refine C1.mono ?_; rintro e w1 ⟨v1, rfl, h1, hb1⟩; obtain ⟨p1, c1, rfl⟩ := h1.len; have C3 := C2.out w1 hb1; have F2 := trivial)
      | (go_at_call 31; clear F2; refine C3.mono ?_; rintro e w2 ⟨v2, rfl, h2, hb2⟩; obtain ⟨p2, c2, rfl⟩ := h2.len))
    clear C1 C3
    have h1' := h1.keep hb2
    have hB2 := Below.thru hb1 hb2 (Nat.le_refl _)
    clear h1
    go_loopw [7] (fun i wr => ∃ k : Nat, k ≤ rx.length ∧ i = .int .i64 k ∧ (∀ j (h : j < rx.length) (h' : j < ry.length), j < k → rx[j] = ry[j]) ∧ Below w2.heap.size w2 wr) (fun i _ => rx.length - (intOf i).toNat)
    case atStart => exact ⟨0, Nat.zero_le _, rfl, fun j _ _ h => by omega, Below.refl _ _⟩
    case round =>
      obtain ⟨k, hk, rfl, hF, hBr⟩ := hrel
      have HF : Hid _ := hF
      clear hF
      by_cases hlt : k < rx.length
      · have hly : k < ry.length := by have := HL.out; omega
        have hlt' : (k : Int) < (rx.length : Int) := by omega
        have hlt2 : (k : Int) < (ry.length : Int) := by omega
        obtain ⟨hu, ab, ao, rfl, hc⟩ := (u32_at (h1'.keep hBr)).2 k hlt
        obtain ⟨hu', bb, bo, rfl, hc'⟩ := (u32_at (h2.keep hBr)).2 k hly
        have hz1 := cell_lt hc
        have hz2 := cell_lt hc'
        have hne : ∀ w, Nonempty (Ext w) := ext_some
        by_cases hxy : rx[k] = ry[k]
        · rw [← hxy] at hc'
          have HXY : Hid _ := hxy
          clear hxy
          go_wp2
          refine wp_region_ext (by kernel_rfl) (by kernel_rfl) ?_
          repeat (go_big_quiet_step (fail))
          refine wpQuiet_nil ?_
          rintro _ ⟨rr, rfl⟩
          go_wp2
          go_roundw
          case rel =>
            refine ⟨k + 1, by omega, by go_num, fun j h h' hj => ?_, Below.thru hBr rr.ok (Nat.le_refl _)⟩
            by_cases e : j = k
            · subst e; exact HXY.out
            · exact HF.out j h h' (by omega)
          case measure => simp [intOf]; omega
        · have hxy' : ¬ ((rx[k] : Nat) : Int) = ((ry[k] : Nat) : Int) := by omega
          have HXY : Hid (rx ≠ ry) := fun e => hxy (by subst e; rfl)
          generalize rx[k] = x at *
          generalize ry[k] = y at *
          clear hxy
          go_wp2
          refine wp_region_ext (by kernel_rfl) (by kernel_rfl) ?_
          repeat (go_big_quiet_step (fail))
          refine wpQuiet_nil ?_
          rintro _ ⟨rr, rfl⟩
          go_wp2
          go_ret
          exact ⟨by rw [decide_eq_false HXY.out]; rfl, Below.thru (Below.thru hB2 hBr (Nat.le_refl _)) rr.ok (Nat.le_refl _)⟩
      · have hlt' : ¬ (k : Int) < (rx.length : Int) := by omega
        go_wp2
        go_ret
        exact ⟨by rw [decide_eq_true (List.ext_getElem HL.out fun j h h' => HF.out j h h' (by omega))]; rfl, Below.thru hB2 hBr (Nat.le_refl _)⟩
  · have hl' : ¬ (rx.length : Int) = (ry.length : Int) := by omega
    have HN : Hid (rx ≠ ry) := fun e => hl (by rw [e])
    clear hl
    go_enter Try.func20, Try.ntmps20
    go_wp2_with (first
      | (go_at_call 31; clear F1; refine C1.mono ?_; rintro e w1 ⟨v1, rfl, h1, hb1⟩; obtain ⟨p1, c1, rfl⟩ := h1.len; have C3 := C2.out w1 hb1; have F2 := trivial)
      | (go_at_call 31; clear F2; refine C3.mono ?_; rintro e w2 ⟨v2, rfl, h2, hb2⟩; obtain ⟨p2, c2, rfl⟩ := h2.len))
    go_ret
    exact ⟨by rw [decide_eq_false HN.out]; rfl, Below.thru hb1 hb2 (Nat.le_refl _)⟩

theorem info_intR : ((Try.prog.info? 3).map fun i => (i.zero, i.size, i.bytes)) = some (some (.int .i64 0), 1, 8) := by kernel_rfl
theorem pair_same (d : Nat) (a b : Int) (w : World) : (Op.equalIn (d + 2) 55 (.agg #[.int .i64 a, .int .i64 b]) (.agg #[.int .i64 a, .int .i64 b])).run Try.prog w = .ok true w := by
  have h1 : Try.prog.underlying 55 = some (.array 2 3) := by kernel_rfl
  have h3 : Try.prog.underlying 3 = some (.int .i64) := by kernel_rfl
  obtain ⟨i0, j1, j2, j3, j4⟩ := get_info info_intR
  rw [Op.equalIn]
  simp only [Sem.run_bind, run_underlying h1, Result.andThen_ok]
  simp [sizeOf, typeInfo, j1, j3, List.range', part, run_equalIn_int _ d 3 .i64 .i64 _ _ h3]
theorem pair_same' (a b : Int) (w : World) : (Op.equalIn 10000 55 (.agg #[.int .i64 a, .int .i64 b]) (.agg #[.int .i64 a, .int .i64 b])).run Try.prog w = .ok true w := pair_same 9998 a b w
attribute [local go_sem] pair_same'
end Go.Proofs.Ytgffeihfcmbobaa

/- What is told, as lists: the program's and the document's answers are the same lists; their pairs. -/
namespace Go.Proofs.Ytgffeihfcmbobaa
open Go.RowKit

/-- A list of numbers is told. -/
def Tl (w : World) (r : List Nat) (e : Ending) (w' : World) : Prop := ∃ p c, e = .returned (.slice p r.length c) ∧ Sl U32E w' (.slice p r.length c) r ∧ Below w.heap.size w w'
theorem Told.l {w : World} {n : Nat} {f : Nat → Nat → Bool} {r : List Nat} (hr : mkR n f = r) (hn : n ≤ 32) (e : Ending) (w' : World) (h : Told w n f e w') : Tl w r e w' := by
  obtain ⟨b, rfl, hR, _, hB⟩ := h
  subst hr
  have hS := hR.mk (A := fun _ => True) trivial hn
  refine ⟨some ⟨b, 0, none⟩, n, by rw [mkR_len], by rw [mkR_len]; exact hS, hB⟩
theorem Tells.l {w : World} {n : Nat} {f : Nat → Nat → Bool} {r : List Nat} (hr : mkR n f = r) (e : Ending) (w' : World) (h : Tells w n f e w') : Tl w r e w' := by
  obtain ⟨v, rfl, hS, hB⟩ := h
  subst hr
  obtain ⟨p, c, rfl⟩ := hS.len
  exact ⟨p, c, rfl, hS, hB⟩

def newL (n : Int) : List Nat := mkR (newN n) fun _ _ => false
def putL (xs : List Nat) (i k : Int) : List Nat := mkR (szR xs) (putF (hasR xs) i k)
def orL (xs ys : List Nat) : List Nat := mkR (bothN xs ys) (orF (hasR xs) (hasR ys))
def andL (xs ys : List Nat) : List Nat := mkR (bothN xs ys) (andF (hasR xs) (hasR ys))
def seqL (xs ys : List Nat) : List Nat := mkR (bothN xs ys) (seqF (bothN xs ys) (hasR xs) (hasR ys))
def invL (xs : List Nat) : List Nat := mkR (szR xs) (invF (hasR xs))
def plusL (xs : List Nat) : List Nat := mkR (szR xs) (plusF (szR xs) (hasR xs))
def onlyL (xs : List Nat) (s t : Nat) : List Nat := mkR (szR xs) (andF (hasR xs) (crossF s t))
def crossL (m : Int) (s t : Nat) : List Nat := mkR (newN m) (crossF s t)
def acyL (xs : List Nat) : Bool := acyF (szR xs) (hasR xs)
def pairsL (xs : List Nat) : List (Nat × Nat) := pairsF (szR xs) (hasR xs)
theorem newN_le (m : Int) : newN m ≤ 32 := by unfold newN; split <;> omega

section
variable (p q : Option Addr) (c d : Nat) (xs ys : List Nat) (w : World)
theorem New_l (n : Int) : Calls Try.prog 32 #[.int .i64 n] w (Tl w (newL n)) :=
  (New_any n w).mono fun e w' ⟨b, he, hR, hb, hB⟩ => Told.l (f := fun _ _ => false) rfl (newN_le n) e w' ⟨b, he, hR.congr fun i _ => by
    refine row_ext (Nat.two_pow_pos _) (rowN_lt _ _) fun k _ => ?_
    rw [rowN_bit]; simp, hb, hB⟩
theorem Put_l (hx : Sl U32E w (.slice p xs.length c) xs) (i k : Int) : Calls Try.prog 33 #[.slice p xs.length c, .int .i64 i, .int .i64 k] w (Tl w (putL xs i k)) := (Put_any p c xs i k w hx).mono (Told.l rfl (szR_le xs))
theorem Pairs_l (hx : Sl U32E w (.slice p xs.length c) xs) : Calls Try.prog 23 #[.slice p xs.length c] w fun e w' => ∃ p' c', e = .returned (.slice p' (pairsL xs).length c') ∧ Sl PairE w' (.slice p' (pairsL xs).length c') (pairsL xs) ∧ Below w.heap.size w w' :=
  (Pairs_any p c xs w hx).mono fun e w' ⟨v, he, hS, hB⟩ => by
    obtain ⟨p', c', rfl⟩ := hS.len
    exact ⟨p', c', he, hS, hB⟩
theorem rPairs_l (hx : Sl U32E w (.slice p xs.length c) xs) : Calls Try.prog 39 #[.slice p xs.length c] w fun e w' => ∃ p' c', e = .returned (.slice p' (pairsL xs).length c') ∧ Sl PairE w' (.slice p' (pairsL xs).length c') (pairsL xs) ∧ Below w.heap.size w w' :=
  (refPairs_any p c xs w hx).mono fun e w' ⟨v, he, hO, hB⟩ => by
    have hS := hO.sl.any
    obtain ⟨p', c', rfl⟩ := hS.len
    exact ⟨p', c', he, hS, hB⟩
theorem rSame_t (hx : Sl U32E w (.slice p xs.length c) xs) (hy : Sl U32E w (.slice q ys.length d) ys) (h : cleanR xs = cleanR ys) : Calls Try.prog 20 #[.slice p xs.length c, .slice q ys.length d] w fun e w' => e = .returned (.bool true) ∧ Below w.heap.size w w' := by
  have := refSame_any p q c d xs ys w hx hy
  rw [decide_eq_true h] at this
  exact this
end
section
variable (w : World)
end

/-- The pairs of what is told. -/
theorem mkR_fun {n : Nat} {F : Nat → Nat → Bool} (hn : n ≤ 32) (hF : Within n F) : hasR (mkR n F) = F := by
  funext i k
  rw [mkR_has F hn]
  cases h : F i k with
  | false => simp
  | true => obtain ⟨h1, h2⟩ := hF i k h; simp [h1, h2]
section
variable {xs ys : List Nat}
theorem inv_sz : szR (invL xs) = szR xs := mkR_sz _ (szR_le xs)
theorem inv_has : hasR (invL xs) = invF (hasR xs) := mkR_fun (szR_le xs) (within_inv (has_within xs))
theorem plus_sz : szR (plusL xs) = szR xs := mkR_sz _ (szR_le xs)
theorem plus_hasL : hasR (plusL xs) = plusF (szR xs) (hasR xs) := mkR_fun (szR_le xs) (within_plus (has_within xs))
theorem only_sz {s t : Nat} : szR (onlyL xs s t) = szR xs := mkR_sz _ (szR_le xs)
theorem only_has {s t : Nat} : hasR (onlyL xs s t) = andF (hasR xs) (crossF s t) := mkR_fun (szR_le xs) (within_and (has_within xs))
theorem put_sz {i k : Int} : szR (putL xs i k) = szR xs := mkR_sz _ (szR_le xs)
theorem or_sz (h : szR xs = szR ys) : szR (orL xs ys) = szR xs := by unfold orL; rw [bothN_eq h]; exact mkR_sz _ (szR_le xs)
theorem or_has (h : szR xs = szR ys) : hasR (orL xs ys) = orF (hasR xs) (hasR ys) := by
  unfold orL; rw [bothN_eq h]
  exact mkR_fun (szR_le xs) (within_or (has_within xs) (by rw [h]; exact has_within ys))
theorem and_sz (h : szR xs = szR ys) : szR (andL xs ys) = szR xs := by unfold andL; rw [bothN_eq h]; exact mkR_sz _ (szR_le xs)
theorem and_has (h : szR xs = szR ys) : hasR (andL xs ys) = andF (hasR xs) (hasR ys) := by
  unfold andL; rw [bothN_eq h]
  exact mkR_fun (szR_le xs) (within_and (has_within xs))
theorem seq_sz (h : szR xs = szR ys) : szR (seqL xs ys) = szR xs := by unfold seqL; rw [bothN_eq h]; exact mkR_sz _ (szR_le xs)
theorem seq_has (h : szR xs = szR ys) : hasR (seqL xs ys) = seqF (szR xs) (hasR xs) (hasR ys) := by
  unfold seqL; rw [bothN_eq h]
  exact mkR_fun (szR_le xs) (within_seq (has_within xs) (by rw [h]; exact has_within ys))
theorem same_of (h1 : szR xs = szR ys) (h2 : hasR xs = hasR ys) : cleanR xs = cleanR ys := clean_eq.2 ⟨h1, fun i k => by rw [h2]⟩
theorem or_len (h : szR xs = szR ys) (h32 : xs.length ≤ 32) : (orL xs ys).length = xs.length := by
  unfold orL; rw [mkR_len, bothN_eq h]; unfold szR; rw [if_neg (by omega)]
theorem pairsL_len (xs : List Nat) : (pairsL xs).length ≤ 1024 := pairsF_len _ (szR_le xs)
end
end Go.Proofs.Ytgffeihfcmbobaa
