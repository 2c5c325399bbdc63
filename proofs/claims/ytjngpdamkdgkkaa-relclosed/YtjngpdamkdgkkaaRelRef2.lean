/- Contracts of the document's Or, And, Only, Inv, Put, Cross. -/
import Derived.Test.YtjngpdamkdgkkaaRelRef
namespace Go.Proofs.Ytjngpdamkdgkkaa
open Go.RowKit
attribute [local go_sem] Ext.cell Ext.frozen

theorem Own.empty {α : Type} {A : Nat → Prop} {R : Elem α} {w : World} {e : TypeId} : Own A R (w.alloc (.cells #[] e)) w.heap.size e (.slice (some ⟨w.heap.size, 0, none⟩) 0 0) [] :=
  ⟨[], World.ownsRow_made w #[] 0 (Nat.le_refl _) (Nat.zero_le _) (by simp), rfl, fun i h => by simp at h⟩
/-- The law of append at pairs. -/
theorem wpList_pairs {w : World} {out ys : List (Nat × Nat)} {ops : Array Oper} {rest : List Oper} {o : Oper} {a : Act} {Q : Exit → Act → World → Prop} (hgd : o.guard = none) (s x : Operand)
    (ho : o.op = .call { callee := .builtin .append, args := #[s, x], argTypes := #[31, 31] })
    (base : Nat) (v u : Value) (hs : a.eval s = v) (hx : a.eval x = u) (hown : Own (fun _ => False) PairE w base 50 v out)
    (hu : Sl PairE w u ys) (hlen : out.length + ys.length ≤ 1000000) (hbase : base ≤ w.heap.size)
    (h : ∀ p cap w', Own (fun _ => False) PairE w' base 50 (.slice p (out ++ ys).length cap) (out ++ ys) → w.grownBy w' v.ownBlock → wpList Try.prog ops Q rest (a.put o.dst (.slice p (out ++ ys).length cap)) w') : wpList Try.prog ops Q (o :: rest) a w := by
  obtain ⟨i0, j1, j2, j3, j4⟩ := get_info info_pair
  refine wpList_app (R := PairE) (A := fun _ => False) (xs := out) (ys := ys) hgd s x 31 50 i0 _ 16 ho Try.underlying31 j1 j2 j3 j4 (by rfl) base v _ hs hx hown hu (fun _ _ _ h => h) (by omega) (by decide) hbase ?_
  intro p5 c5 w5 hO5 hg5 _
  exact h p5 c5 w5 hO5 hg5
theorem bothN_eq {xs ys : List Nat} (h : szR xs = szR ys) : bothN xs ys = szR xs := by unfold bothN; rw [if_pos h]
theorem bothN_ne {xs ys : List Nat} (h : ¬ szR xs = szR ys) : bothN xs ys = 0 := by unfold bothN; rw [if_neg h]
theorem ofF_app (l m : List (Nat × Nat)) (i k : Nat) : ofF (l ++ m) i k = (ofF l i k || ofF m i k) := by
  unfold ofF
  rw [Bool.eq_iff_iff]
  simp

set_option maxHeartbeats 1000000 in
theorem refOr_any (p q : Option Addr) (c d : Nat) (xs ys : List Nat) (w : World) (hx : Sl U32E w (.slice p xs.length c) xs) (hy : Sl U32E w (.slice q ys.length d) ys) : Calls Try.prog 29 #[.slice p xs.length c, .slice q ys.length d] w (Tells w (bothN xs ys) (orF (hasR xs) (hasR ys))) := by
  have C1 := Size_any p c xs
  have C2 := Size_any q d ys
  by_cases hs : szR xs = szR ys
  · rw [bothN_eq hs]
    have C3 := fun (w' : World) (h : Below w.heap.size w w') => refPairs_any p c xs w' (hx.keep h)
    have C4 := fun (w' : World) (h : Below w.heap.size w w') => refPairs_any q d ys w' (hy.keep h)
    rw [← hs] at C2 C4
    have h32 := szR_le xs
    have hl1 := pairsF_len (hasR xs) h32
    have hl2 := pairsF_len (hasR ys) h32
    have hm : mkR (szR xs) (ofF (pairsF (szR xs) (hasR xs) ++ pairsF (szR xs) (hasR ys))) = mkR (szR xs) (orF (hasR xs) (hasR ys)) := mkR_of fun i k hi hk => by
      rw [ofF_app, of_pairs_at _ hi hk, of_pairs_at _ hi hk]; rfl
    have hin : ∀ x ∈ pairsF (szR xs) (hasR xs) ++ pairsF (szR xs) (hasR ys), x.1 < szR xs ∧ x.2 < szR xs := fun x hx => by
      rcases List.mem_append.1 hx with h | h <;> exact pairsF_in x h
    unfold Tells
    rw [← hm]
    clear hm hs
    generalize pairsF (szR xs) (hasR xs) = l at *
    generalize pairsF (szR xs) (hasR ys) = m at *
    generalize szR xs = n at *
    have C1 : Hid _ := C1
    have C2 : Hid _ := C2
    have C3 : Hid _ := C3
    have C4 : Hid _ := C4
    have HIN : Hid _ := hin
    clear hin
    have F1 := trivial
    go_enter Try.func29, Try.ntmps29
    go_wp2_with (first
      | (go_at_call 38; clear F1; refine (C1.out _).mono ?_; rintro e w1 ⟨rfl, hb1⟩; have F2 := trivial)
      | (go_at_call 38; clear F2; refine (C2.out _).mono ?_; rintro e w2 ⟨rfl, hb2⟩; have F3 := trivial)
      | (go_at_call 38; clear F3; refine (C1.out _).mono ?_; rintro e w3 ⟨rfl, hb3⟩; have hB3 := Below.thru (Below.thru hb1 hb2 (Nat.le_refl _)) hb3 (Nat.le_refl _); have hA3 := (Below.refl w3.heap.size w3).alloc (Nat.le_refl _) (.cells #[] 50); have hB4 := Below.thru hB3 hA3 (Nat.le_refl _); have F4 := trivial)
      | (go_at_call 16; clear F4; refine (C3.out _ hB4).mono ?_; rintro e w5 ⟨v5, rfl, hO5, hb5⟩; obtain ⟨p5, c5, rfl⟩ := hO5.len; have hE5 := (Own.empty (A := fun _ => False) (R := PairE) (w := w3) (e := 50)).keep hb5; have hB5 := Below.thru hB4 hb5 (Nat.le_refl _); have F5 := trivial)
      | (at_builtin; clear F5; refine wpList_pairs (by rfl) (.tmp 12) (.tmp 14) (by rfl) w3.heap.size (.slice (some ⟨w3.heap.size, 0, none⟩) 0 0) (.slice p5 l.length c5) (by rfl) (by rfl) hE5 hO5.sl.any (by simp only [List.length_nil]; omega) (by have := hb5.size; have := hA3.size; omega) ?_; intro p6 c6 w6 hO6 hg6; simp only [List.nil_append] at hO6 ⊢; have hB6 := hB5.grown hg6 hB5.size (fun q hq => by have := (hE5.lt q hq).1; have := hB3.size; omega); have F6 := trivial)
      | (go_at_call 16; clear F6; refine (C4.out _ hB6).mono ?_; rintro e w7 ⟨v7, rfl, hO7, hb7⟩; obtain ⟨p7, c7, rfl⟩ := hO7.len; have hB7 := Below.thru hB6 hb7 (Nat.le_refl _); have hO67 := hO6.keep hb7; have hs7 : w3.heap.size ≤ w7.heap.size := Nat.le_trans hA3.size (Nat.le_trans hb5.size (Nat.le_trans hg6.size hb7.size)); have F7 := trivial)
      | (at_builtin; clear F7; refine wpList_pairs (by rfl) (.tmp 15) (.tmp 17) (by rfl) w3.heap.size (.slice p6 l.length c6) (.slice p7 m.length c7) (by rfl) (by rfl) hO67 hO7.sl.any (by omega) hs7 ?_; intro p8 c8 w8 hO8 hg8; have hB8 := hB7.grown hg8 hB7.size (fun q hq => by have := (hO67.lt q hq).1; have := hB3.size; omega); have C9 := Made_any n p8 c8 (l ++ m) w8 h32 hO8.sl.any HIN.out (by rw [List.length_append]; omega); rw [List.length_append] at C9)
      | (go_at_call 43; refine C9.mono ?_; rintro e w9 ⟨v9, rfl, h9, hb9⟩))
    go_ret
    exact ⟨v9, rfl, h9, Below.thru hB8 hb9 (Nat.le_refl _)⟩
  · rw [bothN_ne hs]
    have hs' : ¬ ((szR xs : Nat) : Int) = ((szR ys : Nat) : Int) := by omega
    clear hs
    generalize szR xs = n at *
    generalize szR ys = m at *
    have C1 : Hid _ := C1
    have C2 : Hid _ := C2
    have F1 := trivial
    go_enter Try.func29, Try.ntmps29
    go_wp2_with (first
      | (go_at_call 38; clear F1; refine (C1.out _).mono ?_; rintro e w1 ⟨rfl, hb1⟩; have F2 := trivial)
      | (go_at_call 38; clear F2; refine (C2.out _).mono ?_; rintro e w2 ⟨rfl, hb2⟩))
    go_ret
    exact ⟨_, rfl, SlA.nil, Below.thru hb1 hb2 (Nat.le_refl _)⟩

theorem take_snoc {α : Type} {l : List α} {k : Nat} (h : k < l.length) : l.take (k + 1) = l.take k ++ [l[k]] := by rw [List.take_add_one, List.getElem?_eq_getElem h]; rfl
theorem of_filter {n : Nat} (f : Nat → Nat → Bool) (h : Nat × Nat → Bool) {i k : Nat} (hi : i < n) (hk : k < n) : ofF ((pairsF n f).filter h) i k = (f i k && h (i, k)) := by
  rw [Bool.eq_iff_iff]
  unfold ofF
  rw [List.contains_iff_mem, List.mem_filter, pairs_mem, Bool.and_eq_true]
  exact ⟨fun ⟨a, b⟩ => ⟨a.2.2, b⟩, fun ⟨a, b⟩ => ⟨⟨hi, hk, a⟩, b⟩⟩

set_option maxHeartbeats 4000000 in
theorem refAnd_any (p q : Option Addr) (c d : Nat) (xs ys : List Nat) (w : World) (hx : Sl U32E w (.slice p xs.length c) xs) (hy : Sl U32E w (.slice q ys.length d) ys) : Calls Try.prog 31 #[.slice p xs.length c, .slice q ys.length d] w (Tells w (bothN xs ys) (andF (hasR xs) (hasR ys))) := by
  have C1 := Size_any p c xs
  have C2 := Size_any q d ys
  by_cases hs : szR xs = szR ys
  · rw [bothN_eq hs]
    have C3 := fun (w' : World) (h : Below w.heap.size w w') => refPairs_any p c xs w' (hx.keep h)
    have C4 := fun (i k : Nat) (w' : World) (h : Below w.heap.size w w') => refHas_any q d ys (i : Int) (k : Int) w' (hy.keep h)
    rw [← hs] at C2
    have h32 := szR_le xs
    have hl1 := pairsF_len (hasR xs) h32
    have hm : mkR (szR xs) (ofF ((pairsF (szR xs) (hasR xs)).filter fun x => hasR ys x.1 x.2)) = mkR (szR xs) (andF (hasR xs) (hasR ys)) := mkR_of fun i k hi hk => of_filter _ _ hi hk
    have hin : ∀ x ∈ pairsF (szR xs) (hasR xs), x.1 < szR xs ∧ x.2 < szR xs := pairsF_in
    unfold Tells
    rw [← hm]
    clear hm hs
    have C4' : ∀ (i k : Nat) (w' : World), Below w.heap.size w w' → Calls Try.prog 11 #[.slice q ys.length d, .int .i64 (i : Int), .int .i64 (k : Int)] w' fun e w'' => e = .returned (.bool (hasR ys i k)) ∧ Below w'.heap.size w' w'' := fun i k w' h => by
      have := C4 i k w' h
      rw [hasI_nat] at this
      exact this
    clear C4
    generalize hasR ys = g at *
    generalize pairsF (szR xs) (hasR xs) = l at *
    generalize szR xs = n at *
    have C1 : Hid _ := C1
    have C2 : Hid _ := C2
    have C3 : Hid _ := C3
    have C4 : Hid _ := C4'
    clear C4'
    have HIN : Hid _ := hin
    clear hin
    have F1 := trivial
    go_enter Try.func31, Try.ntmps31
    go_wp2_with (first
      | (go_at_call 38; clear F1; refine (C1.out _).mono ?_; rintro e w1 ⟨rfl, hb1⟩; have F2 := trivial)
      | (go_at_call 38; clear F2; refine (C2.out _).mono ?_; rintro e w2 ⟨rfl, hb2⟩; have hB2 := Below.thru hb1 hb2 (Nat.le_refl _))
      | (go_at_call 16; refine (C3.out _ hB2).mono ?_; rintro e w3 ⟨v3, rfl, hO3, hb3⟩; obtain ⟨p3, c3, rfl⟩ := hO3.len; have hB3 := Below.thru hB2 hb3 (Nat.le_refl _)))
    have hL := hO3.sl.any
    clear hO3
    go_loopw [5, 7] (fun a i wr => ∃ (k : Nat) (out : List (Nat × Nat)), k ≤ l.length ∧ i = .int .i64 k ∧ Own (fun _ => False) PairE wr w3.heap.size 50 a out ∧ out = (l.take k).filter (fun x => g x.1 x.2) ∧ out.length ≤ k ∧ Below w3.heap.size w3 wr) (fun _ i _ => l.length - (intOf i).toNat)
    case atStart => exact ⟨0, [], Nat.zero_le _, rfl, Own.nil, rfl, Nat.le_refl _, Below.refl _ _⟩
    case round =>
      obtain ⟨k, out, hk, rfl, hO, hout, hlen, hBr⟩ := hrel
      obtain ⟨pa, ca, rfl⟩ := hO.len
      have HOUT : Hid _ := hout
      clear hout
      have hBw := Below.thru hB3 hBr (Nat.le_refl _)
      by_cases hlt : k < l.length
      · have hlt' : (k : Int) < (l.length : Int) := by omega
        obtain ⟨lb, lo, rfl, hc1, hc2⟩ := (pair_at (hL.keep hBr)).2 k hlt
        have htk := take_snoc hlt
        generalize l[k] = ij at *
        obtain ⟨i, j⟩ := ij
        simp only at hc1 hc2
        have HTK : Hid _ := htk
        clear htk
        have C5 := fun q : Ext wr => C4.out i j q.wd (Below.thru hBw q.ok (Nat.le_refl _))
        have hz1 := cell_lt hc1
        have hne : ∀ w, Nonempty (Ext w) := ext_some
        cases hbit : g i j with
        | true =>
          rw [hbit] at C5
          have HB : Hid _ := hbit
          have C5 : Hid _ := C5
          clear hbit
          go_wp2
          refine wp_region_ext (by kernel_rfl) (by kernel_rfl) ?_
          repeat (go_big_quiet_step (first | (go_at_call 11; exact calls_ext (C5.out _))))
          refine wpQuiet_nil ?_
          rintro _ ⟨rr, rfl⟩
          obtain ⟨w4, hb4⟩ := rr
          simp only at *
          have hc14 := cell_keep hc1 hb4
          have hc24 := cell_keep hc2 hb4
          have hO4 := hO.keep hb4
          have hB4 := Below.thru hBr hb4 (Nat.le_refl _)
          have hA4 := (Below.refl w4.heap.size w4).alloc (Nat.le_refl _) (.cells #[.int .i64 (i : Int), .int .i64 (j : Int)] 50)
          have hB5 := Below.thru hB4 hA4 (Nat.le_refl _)
          go_wp2_with (at_builtin; refine wpList_pair (by rfl) (.tmp 33) (.tmp 38) (by rfl) w3.heap.size (.slice pa out.length ca) w4.heap.size i j (by rfl) (by rfl) (hO4.keep hA4) (by simp) (by simp) (by omega) hB5.size ?_; intro p5 c5 w5 hO5 hg5)
          go_roundw
          case rel => exact ⟨k + 1, out ++ [(i, j)], by omega, by go_num, hO5, by rw [HOUT.out, HTK.out, List.filter_append]; simp [HB.out], by simp only [List.length_append, List.length_cons, List.length_nil]; omega, hB5.grown hg5 hB5.size (fun q hq => ((hO4.keep hA4).lt q hq).1)⟩
          case measure => simp [intOf]; omega
        | false =>
          rw [hbit] at C5
          have HB : Hid _ := hbit
          have C5 : Hid _ := C5
          clear hbit
          go_wp2
          refine wp_region_ext (by kernel_rfl) (by kernel_rfl) ?_
          repeat (go_big_quiet_step (first | (go_at_call 11; exact calls_ext (C5.out _))))
          refine wpQuiet_nil ?_
          rintro _ ⟨rr, rfl⟩
          go_wp2
          go_roundw
          case rel => exact ⟨k + 1, out, by omega, by go_num, hO.keep rr.ok, by rw [HOUT.out, HTK.out, List.filter_append]; simp [HB.out], by omega, Below.thru hBr rr.ok (Nat.le_refl _)⟩
          case measure => simp [intOf]; omega
      · have e : k = l.length := by omega
        have hlt' : ¬ (k : Int) < (l.length : Int) := by omega
        have ho : out = l.filter fun x => g x.1 x.2 := by have := HOUT.out; rw [e, List.take_length] at this; exact this
        have hin : ∀ x ∈ out, x.1 < n ∧ x.2 < n := fun x hx => HIN.out x (by rw [ho] at hx; exact (List.mem_filter.1 hx).1)
        have HO : Hid _ := ho
        have HIN2 : Hid _ := hin
        clear hin ho e
        go_wp2_with (first
          | (go_at_call 38; refine (C1.out _).mono ?_; rintro e w6 ⟨rfl, hb6⟩; have C6 := Made_any n pa ca out w6 h32 (hO.keep hb6).sl.any HIN2.out (by omega))
          | (go_at_call 43; refine C6.mono ?_; rintro e w7 ⟨v7, rfl, h7, hb7⟩))
        go_ret
        exact ⟨v7, rfl, by rw [← HO.out]; exact h7, Below.thru (Below.thru hBw hb6 (Nat.le_refl _)) hb7 (Nat.le_refl _)⟩
  · rw [bothN_ne hs]
    have hs' : ¬ ((szR xs : Nat) : Int) = ((szR ys : Nat) : Int) := by omega
    clear hs
    generalize szR xs = n at *
    generalize szR ys = m at *
    have C1 : Hid _ := C1
    have C2 : Hid _ := C2
    have F1 := trivial
    go_enter Try.func31, Try.ntmps31
    go_wp2_with (first
      | (go_at_call 38; clear F1; refine (C1.out _).mono ?_; rintro e w1 ⟨rfl, hb1⟩; have F2 := trivial)
      | (go_at_call 38; clear F2; refine (C2.out _).mono ?_; rintro e w2 ⟨rfl, hb2⟩))
    go_ret
    exact ⟨_, rfl, SlA.nil, Below.thru hb1 hb2 (Nat.le_refl _)⟩

set_option maxHeartbeats 4000000 in
theorem refOnly_any (p : Option Addr) (c : Nat) (xs : List Nat) (s t : Nat) (w : World) (hx : Sl U32E w (.slice p xs.length c) xs) (hs : s < 4294967296) (ht : t < 4294967296) : Calls Try.prog 25 #[.slice p xs.length c, .int .u32 (s : Int), .int .u32 (t : Int)] w (Tells w (szR xs) (andF (hasR xs) (crossF s t))) := by
  have C1 := Size_any p c xs
  have C3 := refPairs_any p c xs w hx
  have h32 := szR_le xs
  have hl1 := pairsF_len (hasR xs) h32
  have hm : mkR (szR xs) (ofF ((pairsF (szR xs) (hasR xs)).filter fun x => crossF s t x.1 x.2)) = mkR (szR xs) (andF (hasR xs) (crossF s t)) := mkR_of fun i k hi hk => of_filter _ _ hi hk
  have hin : ∀ x ∈ pairsF (szR xs) (hasR xs), x.1 < szR xs ∧ x.2 < szR xs := pairsF_in
  unfold Tells
  rw [← hm]
  clear hm
  generalize pairsF (szR xs) (hasR xs) = l at *
  generalize szR xs = n at *
  have C1 : Hid _ := C1
  have HIN : Hid _ := hin
  clear hin
  go_enter Try.func25, Try.ntmps25
  go_wp2_with (go_at_call 16; refine C3.mono ?_; rintro e w3 ⟨v3, rfl, hO3, hB3⟩; obtain ⟨p3, c3, rfl⟩ := hO3.len)
  have hL := hO3.sl.any
  clear hO3 C3
  go_loopw [7, 9] (fun a i wr => ∃ (k : Nat) (out : List (Nat × Nat)), k ≤ l.length ∧ i = .int .i64 k ∧ Own (fun _ => False) PairE wr w3.heap.size 50 a out ∧ out = (l.take k).filter (fun x => crossF s t x.1 x.2) ∧ out.length ≤ k ∧ Below w3.heap.size w3 wr) (fun _ i _ => l.length - (intOf i).toNat)
  case atStart => exact ⟨0, [], Nat.zero_le _, rfl, Own.nil, rfl, Nat.le_refl _, Below.refl _ _⟩
  case round =>
    obtain ⟨k, out, hk, rfl, hO, hout, hlen, hBr⟩ := hrel
    obtain ⟨pa, ca, rfl⟩ := hO.len
    have HOUT : Hid _ := hout
    clear hout
    have hBw := Below.thru hB3 hBr (Nat.le_refl _)
    by_cases hlt : k < l.length
    · have hlt' : (k : Int) < (l.length : Int) := by omega
      obtain ⟨lb, lo, rfl, hc1, hc2⟩ := (pair_at (hL.keep hBr)).2 k hlt
      have htk := take_snoc hlt
      obtain ⟨hi, hj⟩ := HIN.out _ (List.getElem_mem hlt)
      generalize l[k] = ij at *
      obtain ⟨i, j⟩ := ij
      simp only at hc1 hc2 hi hj
      have HTK : Hid _ := htk
      clear htk
      have C5 := bit_any s i wr hs (by omega)
      have C6 := fun w' : World => bit_any t j w' ht (by omega)
      have hz1 := cell_lt hc1
      have F1 := trivial
      cases hbit : s.testBit i with
      | true =>
        rw [hbit] at C5
        have HS : Hid _ := hbit
        clear hbit
        cases hbit : t.testBit j with
        | true =>
          rw [hbit] at C6
          have HB : Hid (crossF s t i j = true) := by unfold crossF; rw [HS.out, hbit]; rfl
          have C6 : Hid _ := C6
          clear hbit
          go_wp2_with (first
            | (go_at_call 39; clear F1; refine C5.mono ?_; rintro e w4 ⟨rfl, hb4⟩; have hc14 := cell_keep hc1 hb4; have hc24 := cell_keep hc2 hb4; have F2 := trivial)
            | (go_at_call 39; clear F2; refine (C6.out _).mono ?_; rintro e w5 ⟨rfl, hb5⟩; have hc15 := cell_keep hc14 hb5; have hc25 := cell_keep hc24 hb5; have hO5 := (hO.keep hb4).keep hb5; have hB5 := Below.thru (Below.thru hBr hb4 (Nat.le_refl _)) hb5 (Nat.le_refl _); have hA5 := (Below.refl w5.heap.size w5).alloc (Nat.le_refl _) (.cells #[.int .i64 (i : Int), .int .i64 (j : Int)] 50); have hB6 := Below.thru hB5 hA5 (Nat.le_refl _))
            | (at_builtin; refine wpList_pair (by rfl) (.tmp 34) (.tmp 39) (by rfl) w3.heap.size (.slice pa out.length ca) w5.heap.size i j (by rfl) (by rfl) (hO5.keep hA5) (by simp) (by simp) (by omega) hB6.size ?_; intro p7 c7 w7 hO7 hg7))
          go_roundw
          case rel => exact ⟨k + 1, out ++ [(i, j)], by omega, by go_num, hO7, by rw [HOUT.out, HTK.out, List.filter_append]; simp [HB.out], by simp only [List.length_append, List.length_cons, List.length_nil]; omega, hB6.grown hg7 hB6.size (fun q hq => ((hO5.keep hA5).lt q hq).1)⟩
          case measure => simp [intOf]; omega
        | false =>
          rw [hbit] at C6
          have HB : Hid (crossF s t i j = false) := by unfold crossF; rw [HS.out, hbit]; rfl
          have C6 : Hid _ := C6
          clear hbit
          go_wp2_with (first
            | (go_at_call 39; clear F1; refine C5.mono ?_; rintro e w4 ⟨rfl, hb4⟩; have hc14 := cell_keep hc1 hb4; have hc24 := cell_keep hc2 hb4; have F2 := trivial)
            | (go_at_call 39; clear F2; refine (C6.out _).mono ?_; rintro e w5 ⟨rfl, hb5⟩))
          go_roundw
          case rel => exact ⟨k + 1, out, by omega, by go_num, (hO.keep hb4).keep hb5, by rw [HOUT.out, HTK.out, List.filter_append]; simp [HB.out], by omega, Below.thru (Below.thru hBr hb4 (Nat.le_refl _)) hb5 (Nat.le_refl _)⟩
          case measure => simp [intOf]; omega
      | false =>
        rw [hbit] at C5
        have HB : Hid (crossF s t i j = false) := by unfold crossF; rw [hbit]; rfl
        clear hbit C6
        go_wp2_with (go_at_call 39; clear F1; refine C5.mono ?_; rintro e w4 ⟨rfl, hb4⟩)
        go_roundw
        case rel => exact ⟨k + 1, out, by omega, by go_num, hO.keep hb4, by rw [HOUT.out, HTK.out, List.filter_append]; simp [HB.out], by omega, Below.thru hBr hb4 (Nat.le_refl _)⟩
        case measure => simp [intOf]; omega
    · have e : k = l.length := by omega
      have hlt' : ¬ (k : Int) < (l.length : Int) := by omega
      have ho : out = l.filter fun x => crossF s t x.1 x.2 := by have := HOUT.out; rw [e, List.take_length] at this; exact this
      have hin : ∀ x ∈ out, x.1 < n ∧ x.2 < n := fun x hx => HIN.out x (by rw [ho] at hx; exact (List.mem_filter.1 hx).1)
      have HO : Hid _ := ho
      have HIN2 : Hid _ := hin
      clear hin ho e
      go_wp2_with (first
        | (go_at_call 38; refine (C1.out _).mono ?_; rintro e w6 ⟨rfl, hb6⟩; have C6 := Made_any n pa ca out w6 h32 (hO.keep hb6).sl.any HIN2.out (by omega))
        | (go_at_call 43; refine C6.mono ?_; rintro e w7 ⟨v7, rfl, h7, hb7⟩))
      go_ret
      exact ⟨v7, rfl, by rw [← HO.out]; exact h7, Below.thru (Below.thru hBw hb6 (Nat.le_refl _)) hb7 (Nat.le_refl _)⟩

theorem of_swap {n : Nat} (f : Nat → Nat → Bool) {i k : Nat} (hi : i < n) (hk : k < n) : ofF ((pairsF n f).map fun x => (x.2, x.1)) i k = invF f i k := by
  rw [Bool.eq_iff_iff]
  unfold ofF invF
  rw [List.contains_iff_mem, List.mem_map]
  constructor
  · rintro ⟨⟨a, b⟩, h, e⟩
    simp only [Prod.mk.injEq] at e
    obtain ⟨rfl, rfl⟩ := e
    exact (pairs_mem.1 h).2.2
  · intro h
    exact ⟨(k, i), pairs_mem.2 ⟨hk, hi, h⟩, rfl⟩
set_option maxHeartbeats 4000000 in
theorem refInv_any (p : Option Addr) (c : Nat) (xs : List Nat) (w : World) (hx : Sl U32E w (.slice p xs.length c) xs) : Calls Try.prog 21 #[.slice p xs.length c] w (Tells w (szR xs) (invF (hasR xs))) := by
  have C1 := Size_any p c xs
  have C3 := refPairs_any p c xs w hx
  have h32 := szR_le xs
  have hl1 := pairsF_len (hasR xs) h32
  have hm : mkR (szR xs) (ofF ((pairsF (szR xs) (hasR xs)).map fun x => (x.2, x.1))) = mkR (szR xs) (invF (hasR xs)) := mkR_of fun i k hi hk => of_swap _ hi hk
  have hin : ∀ x ∈ pairsF (szR xs) (hasR xs), x.1 < szR xs ∧ x.2 < szR xs := pairsF_in
  unfold Tells
  rw [← hm]
  clear hm
  generalize pairsF (szR xs) (hasR xs) = l at *
  generalize szR xs = n at *
  have C1 : Hid _ := C1
  have HIN : Hid _ := hin
  clear hin
  go_enter Try.func21, Try.ntmps21
  go_wp2_with (go_at_call 16; refine C3.mono ?_; rintro e w3 ⟨v3, rfl, hO3, hB3⟩; obtain ⟨p3, c3, rfl⟩ := hO3.len)
  have hL := hO3.sl.any
  clear hO3 C3
  go_loopw [3, 5] (fun a i wr => ∃ (k : Nat) (out : List (Nat × Nat)), k ≤ l.length ∧ i = .int .i64 k ∧ Own (fun _ => False) PairE wr w3.heap.size 50 a out ∧ out = (l.take k).map (fun x => (x.2, x.1)) ∧ out.length ≤ k ∧ Below w3.heap.size w3 wr) (fun _ i _ => l.length - (intOf i).toNat)
  case atStart => exact ⟨0, [], Nat.zero_le _, rfl, Own.nil, rfl, Nat.le_refl _, Below.refl _ _⟩
  case round =>
    obtain ⟨k, out, hk, rfl, hO, hout, hlen, hBr⟩ := hrel
    obtain ⟨pa, ca, rfl⟩ := hO.len
    have HOUT : Hid _ := hout
    clear hout
    have hBw := Below.thru hB3 hBr (Nat.le_refl _)
    by_cases hlt : k < l.length
    · have hlt' : (k : Int) < (l.length : Int) := by omega
      obtain ⟨lb, lo, rfl, hc1, hc2⟩ := (pair_at (hL.keep hBr)).2 k hlt
      have htk := take_snoc hlt
      generalize l[k] = ij at *
      obtain ⟨i, j⟩ := ij
      simp only at hc1 hc2
      have HTK : Hid _ := htk
      clear htk
      have hz1 := cell_lt hc1
      go_wp2
      have hne : ∀ w, Nonempty (Ext w) := ext_some
      have hne2 : Nonempty AnyW := anyW_some
      refine wp_region_mixL [([0, 1, 2, 3, 4, 5, 6, 7, 8, 9, 10, 11], 12, false), ([], 13, true)] [14] [13] (by kernel_rfl) (by kernel_rfl) (fun _ _ d _ _ h => by cases d <;> exact h) ?_
      dsimp only [List.map, mapL, opAt]
      refine wpMixL_stage ?_
      repeat (go_big_quiet_step (fail))
      refine wpQuiet_nil ?_
      have hD : Below wr.heap.size wr wr.drew := (Below.refl _ _).drew
      go_wp2
      have hB5 := hD.alloc hD.size (.cells #[.int .i64 (j : Int), .int .i64 (i : Int)] 50)
      have hB6 := Below.thru hBr hB5 (Nat.le_refl _)
      refine ⟨.inr hB5, ?_⟩
      refine wpMixL_stage ?_
      refine wpQuiet_nil ?_
      go_wp2_with (at_builtin; refine wpList_pair (by rfl) (.tmp 14) (.tmp 26) (by rfl) w3.heap.size (.slice pa out.length ca) wr.heap.size j i (by rfl) (by rfl) (hO.keep hB5) (by simp) (by simp) (by omega) hB6.size ?_; intro p7 c7 w7 hO7 hg7)
      refine ⟨.inl trivial, ?_⟩
      refine wpMixL_last ?_
      simp only [Act.put, List.setIfInBounds_toArray, List.set]
      repeat (go_big_quiet_step (fail))
      refine wpQuiet_nil ?_
      go_wp2
      go_roundw
      case rel => exact ⟨k + 1, out ++ [(j, i)], by omega, by go_num, hO7, by rw [HOUT.out, HTK.out, List.map_append]; rfl, by simp only [List.length_append, List.length_cons, List.length_nil]; omega, hB6.grown hg7 hB6.size (fun q hq => ((hO.keep hB5).lt q hq).1)⟩
      case measure => simp [intOf]; omega
    · have e : k = l.length := by omega
      have hlt' : ¬ (k : Int) < (l.length : Int) := by omega
      have ho : out = l.map fun x => (x.2, x.1) := by have := HOUT.out; rw [e, List.take_length] at this; exact this
      have hin : ∀ x ∈ out, x.1 < n ∧ x.2 < n := fun x hx => by
        rw [ho] at hx
        obtain ⟨y, hy, rfl⟩ := List.mem_map.1 hx
        exact (HIN.out y hy).symm
      have HO : Hid _ := ho
      have HIN2 : Hid _ := hin
      clear hin ho e
      go_wp2_with (first
        | (go_at_call 38; refine (C1.out _).mono ?_; rintro e w6 ⟨rfl, hb6⟩; have C6 := Made_any n pa ca out w6 h32 (hO.keep hb6).sl.any HIN2.out (by omega))
        | (go_at_call 43; refine C6.mono ?_; rintro e w7 ⟨v7, rfl, h7, hb7⟩))
      go_ret
      exact ⟨v7, rfl, by rw [← HO.out]; exact h7, Below.thru (Below.thru hBw hb6 (Nat.le_refl _)) hb7 (Nat.le_refl _)⟩
end Go.Proofs.Ytjngpdamkdgkkaa
