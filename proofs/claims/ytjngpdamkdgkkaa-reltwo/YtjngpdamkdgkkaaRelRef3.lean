/- Contracts of the document's Put, Cross, Seq, Plus, Acyclic, Same. -/
import Derived.Test.YtjngpdamkdgkkaaRelRef2
namespace Go.Proofs.Ytjngpdamkdgkkaa
open Go.RowKit
attribute [local go_sem] Ext.cell Ext.frozen

set_option maxHeartbeats 4000000 in
theorem refPut_any (p : Option Addr) (c : Nat) (xs : List Nat) (i k : Int) (w : World) (hx : Sl U32E w (.slice p xs.length c) xs) : Calls Try.prog 19 #[.slice p xs.length c, .int .i64 i, .int .i64 k] w (Tells w (szR xs) (putF (hasR xs) i k)) := by
  have C1 := Size_any p c xs w
  have h32 := szR_le xs
  by_cases hh : (0 ≤ i ∧ i < (szR xs : Nat)) ∧ (0 ≤ k ∧ k < (szR xs : Nat))
  · obtain ⟨h1, h2⟩ := hh
    obtain ⟨i, rfl⟩ : ∃ j : Nat, i = j := ⟨i.toNat, by omega⟩
    obtain ⟨k, rfl⟩ : ∃ j : Nat, k = j := ⟨k.toNat, by omega⟩
    have C2 := fun (w' : World) (h : Below w.heap.size w w') => refPairs_any p c xs w' (hx.keep h)
    have hl1 := pairsF_len (hasR xs) h32
    have hm : mkR (szR xs) (ofF (pairsF (szR xs) (hasR xs) ++ [(i, k)])) = mkR (szR xs) (putF (hasR xs) (i : Int) (k : Int)) := mkR_of fun x y hx hy => by
      rw [ofF_snoc, of_pairs_at _ hx hy]
      unfold putF
      congr 2
      · exact decide_eq_decide.2 (by omega)
      · exact decide_eq_decide.2 (by omega)
    have hin : ∀ x ∈ pairsF (szR xs) (hasR xs) ++ [(i, k)], x.1 < szR xs ∧ x.2 < szR xs := fun x hx => by
      rcases List.mem_append.1 hx with h | h
      · exact pairsF_in x h
      · rw [List.mem_singleton] at h; subst h; exact ⟨by simp only; omega, by simp only; omega⟩
    unfold Tells
    rw [← hm]
    clear hm
    generalize pairsF (szR xs) (hasR xs) = l at *
    generalize szR xs = n at *
    obtain ⟨_, h1⟩ := h1
    obtain ⟨_, h2⟩ := h2
    have C2 : Hid _ := C2
    have HIN : Hid _ := hin
    clear hin
    go_enter Try.func19, Try.ntmps19
    go_wp2_with (first
      | (go_at_call 38; refine C1.mono ?_; rintro e w1 ⟨rfl, hb1⟩)
      | (go_at_call 16; refine (C2.out _ hb1).mono ?_; rintro e w2 ⟨v2, rfl, hO2, hb2⟩; obtain ⟨p2, c2, rfl⟩ := hO2.len; have hA2 := (Below.refl w2.heap.size w2).alloc (Nat.le_refl _) (.cells #[.int .i64 (i : Int), .int .i64 (k : Int)] 50); have hB2 := Below.thru hb2 hA2 (Nat.le_refl _))
      | (at_builtin; refine wpList_pair (by rfl) (.tmp 31) (.tmp 35) (by rfl) w1.heap.size (.slice p2 l.length c2) w2.heap.size i k (by rfl) (by rfl) (hO2.keep hA2) (by simp) (by simp) (by omega) hB2.size ?_; intro p3 c3 w3 hO3 hg3; have hB3 := hB2.grown hg3 hB2.size (fun q hq => ((hO2.keep hA2).lt q hq).1); have hB3' := Below.thru hb1 hB3 (Nat.le_refl _); have C3 := Made_any n p3 c3 (l ++ [(i, k)]) w3 h32 (by rw [List.length_append]; exact hO3.sl.any) HIN.out (by rw [List.length_append]; simp only [List.length_cons, List.length_nil]; omega); rw [List.length_append] at C3)
      | (go_at_call 43; refine C3.mono ?_; rintro e w4 ⟨v4, rfl, h4, hb4⟩))
    go_ret
    exact ⟨v4, rfl, h4, Below.thru hB3' hb4 (Nat.le_refl _)⟩
  · have C2 := fun (w' : World) (h : Below w.heap.size w w') => Clean_any p c xs w' (hx.keep h)
    have hm : mkR (szR xs) (hasR xs) = mkR (szR xs) (putF (hasR xs) i k) := mkR_congr fun x y hx hy => by
      unfold putF
      have : (decide ((x : Int) = i) && decide ((y : Int) = k)) = false := by
        rw [Bool.and_eq_false_iff, decide_eq_false_iff_not, decide_eq_false_iff_not]
        omega
      rw [this, Bool.or_false]
    unfold Tells at C2 ⊢
    rw [← hm]
    clear hm
    generalize mkR (szR xs) (hasR xs) = r at *
    generalize szR xs = n at *
    have C2 : Hid _ := C2
    have h4 : i < 0 ∨ (0 ≤ i ∧ (n : Nat) ≤ i) ∨ (0 ≤ i ∧ i < (n : Nat) ∧ k < 0) ∨ (0 ≤ i ∧ i < (n : Nat) ∧ 0 ≤ k ∧ (n : Nat) ≤ k) := by omega
    clear hh
    rcases h4 with h1 | ⟨h1, h2⟩ | ⟨h1, h2, h3⟩ | ⟨h1, h2, h3, h5⟩
    · skip
      go_enter Try.func19, Try.ntmps19
      go_wp2_with (first
        | (go_at_call 38; refine C1.mono ?_; rintro e w1 ⟨rfl, hb1⟩)
        | (go_at_call 41; refine (C2.out _ hb1).mono ?_; rintro e w2 ⟨v2, rfl, h2, hb2⟩))
      go_ret
      exact ⟨v2, rfl, h2, Below.thru hb1 hb2 (Nat.le_refl _)⟩
    · have h1n : ¬ i < 0 := by omega
      go_enter Try.func19, Try.ntmps19
      go_wp2_with (first
        | (go_at_call 38; refine C1.mono ?_; rintro e w1 ⟨rfl, hb1⟩)
        | (go_at_call 41; refine (C2.out _ hb1).mono ?_; rintro e w2 ⟨v2, rfl, h2, hb2⟩))
      go_ret
      exact ⟨v2, rfl, h2, Below.thru hb1 hb2 (Nat.le_refl _)⟩
    · have h1n : ¬ i < 0 := by omega
      have h2n : ¬ (n : Nat) ≤ i := by omega
      go_enter Try.func19, Try.ntmps19
      go_wp2_with (first
        | (go_at_call 38; refine C1.mono ?_; rintro e w1 ⟨rfl, hb1⟩)
        | (go_at_call 41; refine (C2.out _ hb1).mono ?_; rintro e w2 ⟨v2, rfl, h2, hb2⟩))
      go_ret
      exact ⟨v2, rfl, h2, Below.thru hb1 hb2 (Nat.le_refl _)⟩
    · have h1n : ¬ i < 0 := by omega
      have h2n : ¬ (n : Nat) ≤ i := by omega
      have h3n : ¬ k < 0 := by omega
      go_enter Try.func19, Try.ntmps19
      go_wp2_with (first
        | (go_at_call 38; refine C1.mono ?_; rintro e w1 ⟨rfl, hb1⟩)
        | (go_at_call 41; refine (C2.out _ hb1).mono ?_; rintro e w2 ⟨v2, rfl, h2, hb2⟩))
      go_ret
      exact ⟨v2, rfl, h2, Below.thru hb1 hb2 (Nat.le_refl _)⟩

set_option maxHeartbeats 4000000 in
theorem refCross_any (m : Int) (s t : Nat) (w : World) (hs : s < 4294967296) (ht : t < 4294967296) : Calls Try.prog 27 #[.int .i64 m, .int .u32 (s : Int), .int .u32 (t : Int)] w (Tells w (newN m) (crossF s t)) := by
  by_cases hm : m < 0 ∨ 32 < m
  · have hn : newN m = 0 := by unfold newN; rw [if_pos hm]
    rw [hn]
    clear hn
    rcases hm with h | h
    · go_enter Try.func27, Try.ntmps27
      go_wp2
      go_ret
      exact ⟨_, rfl, SlA.nil, by go_grown⟩
    · have h0 : ¬ m < 0 := by omega
      go_enter Try.func27, Try.ntmps27
      go_wp2
      go_ret
      exact ⟨_, rfl, SlA.nil, by go_grown⟩
  · obtain ⟨n, rfl⟩ : ∃ n : Nat, m = n := ⟨m.toNat, by omega⟩
    have h32 : n ≤ 32 := by omega
    have h0 : ¬ (n : Int) < 0 := by omega
    have h1 : ¬ (32 : Int) < (n : Int) := by omega
    rw [newN_nat h32]
    have hl1 := pairsF_len (crossF s t) h32
    have hmk : mkR n (ofF (pairsF n (crossF s t))) = mkR n (crossF s t) := mkR_of fun i k hi hk => of_pairs_at _ hi hk
    have hin : ∀ x ∈ pairsF n (crossF s t), x.1 < n ∧ x.2 < n := pairsF_in
    unfold Tells
    rw [← hmk]
    have HIN : Hid _ := hin
    clear hin hmk hm
    have C1 := fun (i : Nat) (hi : i < n) (w' : World) => bit_any s i w' hs (by omega)
    have C2 := fun (i : Nat) (hi : i < n) (w' : World) => bit_any t i w' ht (by omega)
    have C1 : Hid _ := C1
    have C2 : Hid _ := C2
    go_enter Try.func27, Try.ntmps27
    go_wp2
    go_loopw [7, 8] (fun a i wr => ∃ (k : Nat) (out : List (Nat × Nat)), k ≤ n ∧ i = .int .i64 k ∧ Own (fun _ => False) PairE wr w.heap.size 50 a out ∧ out = pairsTo (crossF s t) n k ∧ out.length ≤ k * 32 ∧ Below w.heap.size w wr) (fun _ i _ => n - (intOf i).toNat)
    case atStart => exact ⟨0, [], Nat.zero_le _, rfl, Own.nil, rfl, by simp, Below.refl _ _⟩
    case round =>
      obtain ⟨k, out, hk, rfl, hO, hout, hlen, hBr⟩ := hrel
      obtain ⟨w2, rfl⟩ : ∃ x : World, x = wr := ⟨_, rfl⟩
      obtain ⟨pa, ca, rfl⟩ := hO.len
      have HOUT : Hid _ := hout
      clear hout
      by_cases hlt : k < n
      · have hlt' : (k : Int) < (n : Int) := by omega
        go_wp2
        go_loopw [7, 9] (fun a i wr => ∃ (j : Nat) (out' : List (Nat × Nat)), j ≤ n ∧ i = .int .i64 j ∧ Own (fun _ => False) PairE wr w.heap.size 50 a out' ∧ out' = pairsTo (crossF s t) n k ++ rowP (crossF s t) k j ∧ out'.length ≤ k * 32 + j ∧ Below w.heap.size w wr) (fun _ i _ => n - (intOf i).toNat)
        case atStart => exact ⟨0, out, Nat.zero_le _, rfl, hO, by rw [HOUT.out]; simp [rowP], by omega, hBr⟩
        case round =>
          obtain ⟨j, out', hj, rfl, hO', hout', hlen', hBi⟩ := hrel
          obtain ⟨pa', ca', rfl⟩ := hO'.len
          have HOUT' : Hid _ := hout'
          clear hout'
          by_cases hjn : j < n
          · have hjn' : (j : Int) < (n : Int) := by omega
            have C5 := C1.out k hlt wr
            have C6 := C2.out j hjn
            have F1 := trivial
            cases hbit : s.testBit k with
            | true =>
              rw [hbit] at C5
              have HS : Hid _ := hbit
              clear hbit
              cases hbit : t.testBit j with
              | true =>
                rw [hbit] at C6
                have HB : Hid (crossF s t k j = true) := by unfold crossF; rw [HS.out, hbit]; rfl
                have C6 : Hid _ := C6
                clear hbit
                go_wp2_with (first
                  | (go_at_call 39; clear F1; refine C5.mono ?_; rintro e w4 ⟨rfl, hb4⟩; have F2 := trivial)
                  | (go_at_call 39; clear F2; refine (C6.out _).mono ?_; rintro e w5 ⟨rfl, hb5⟩; have hO5 := (hO'.keep hb4).keep hb5; have hB5 := Below.thru (Below.thru hBi hb4 (Nat.le_refl _)) hb5 (Nat.le_refl _); have hA5 := (Below.refl w5.heap.size w5).alloc (Nat.le_refl _) (.cells #[.int .i64 (k : Int), .int .i64 (j : Int)] 50); have hB6 := Below.thru hB5 hA5 (Nat.le_refl _))
                  | (at_builtin; refine wpList_pair (by rfl) (.tmp 34) (.tmp 38) (by rfl) w.heap.size (.slice pa' out'.length ca') w5.heap.size k j (by rfl) (by rfl) (hO5.keep hA5) (by simp) (by simp) (by omega) hB6.size ?_; intro p7 c7 w7 hO7 hg7))
                go_roundw
                case rel => exact ⟨j + 1, out' ++ [(k, j)], by omega, by go_num, hO7, by rw [HOUT'.out, rowP_yes HB.out, List.append_assoc], by simp only [List.length_append, List.length_cons, List.length_nil]; omega, hB6.grown hg7 hB6.size (fun q hq => ((hO5.keep hA5).lt q hq).1)⟩
                case measure => simp [intOf]; omega
              | false =>
                rw [hbit] at C6
                have HB : Hid (crossF s t k j = false) := by unfold crossF; rw [HS.out, hbit]; rfl
                have C6 : Hid _ := C6
                clear hbit
                go_wp2_with (first
                  | (go_at_call 39; clear F1; refine C5.mono ?_; rintro e w4 ⟨rfl, hb4⟩; have F2 := trivial)
                  | (go_at_call 39; clear F2; refine (C6.out _).mono ?_; rintro e w5 ⟨rfl, hb5⟩))
                go_roundw
                case rel => exact ⟨j + 1, out', by omega, by go_num, (hO'.keep hb4).keep hb5, by rw [HOUT'.out, rowP_no HB.out], by omega, Below.thru (Below.thru hBi hb4 (Nat.le_refl _)) hb5 (Nat.le_refl _)⟩
                case measure => simp [intOf]; omega
            | false =>
              rw [hbit] at C5
              have HB : Hid (crossF s t k j = false) := by unfold crossF; rw [hbit]; rfl
              clear hbit C6
              go_wp2_with (go_at_call 39; clear F1; refine C5.mono ?_; rintro e w4 ⟨rfl, hb4⟩)
              go_roundw
              case rel => exact ⟨j + 1, out', by omega, by go_num, hO'.keep hb4, by rw [HOUT'.out, rowP_no HB.out], by omega, Below.thru hBi hb4 (Nat.le_refl _)⟩
              case measure => simp [intOf]; omega
          · have e : j = n := by omega
            have hjn' : ¬ (j : Int) < (n : Int) := by omega
            subst e
            go_wp2
            go_roundw
            case rel => exact ⟨k + 1, out', by omega, by go_num, hO', by rw [HOUT'.out, pairsTo_succ], by omega, hBi⟩
            case measure => simp [intOf]; omega
      · have e : k = n := by omega
        have hlt' : ¬ (k : Int) < (n : Int) := by omega
        have ho : out = pairsF n (crossF s t) := by have := HOUT.out; rw [e, pairsTo_all] at this; exact this
        have hin : ∀ x ∈ out, x.1 < n ∧ x.2 < n := fun x hx => HIN.out x (by rw [ho] at hx; exact hx)
        have HO : Hid _ := ho
        have HIN2 : Hid _ := hin
        clear hin ho e
        have C6 := Made_any n pa ca out w2 h32 hO.sl.any HIN2.out (by omega)
        go_wp2_with (go_at_call 43; refine C6.mono ?_; rintro e w7 ⟨v7, rfl, h7, hb7⟩)
        go_ret
        exact ⟨v7, rfl, by rw [← HO.out]; exact h7, Below.thru hBr hb7 (Nat.le_refl _)⟩

/-- The pairs that x leads on to. -/
def onP (g : Nat → Nat → Bool) (x : Nat × Nat) (k : Nat) : List (Nat × Nat) := ((List.range k).filter (g x.2)).map fun y => (x.1, y)
theorem onP_yes {g : Nat → Nat → Bool} {x : Nat × Nat} {k : Nat} (h : g x.2 k = true) : onP g x (k + 1) = onP g x k ++ [(x.1, k)] := by
  simp [onP, List.range_succ, List.filter_append, h]
theorem onP_no {g : Nat → Nat → Bool} {x : Nat × Nat} {k : Nat} (h : g x.2 k = false) : onP g x (k + 1) = onP g x k := by
  simp [onP, List.range_succ, List.filter_append, h]
theorem onP_in {g : Nat → Nat → Bool} {x y : Nat × Nat} {n : Nat} (hx : x.1 < n) (h : y ∈ onP g x n) : y.1 < n ∧ y.2 < n := by
  unfold onP at h
  obtain ⟨z, hz, rfl⟩ := List.mem_map.1 h
  exact ⟨hx, by simpa using (List.mem_filter.1 hz).1⟩
theorem of_on {n : Nat} (f g : Nat → Nat → Bool) {i k : Nat} (hi : i < n) (hk : k < n) : ofF ((pairsF n f).flatMap fun x => onP g x n) i k = seqF n f g i k := by
  rw [Bool.eq_iff_iff]
  unfold ofF
  rw [List.contains_iff_mem, List.mem_flatMap, seqF_iff]
  constructor
  · rintro ⟨⟨a, b⟩, h, hy⟩
    obtain ⟨z, hz, e⟩ := List.mem_map.1 hy
    simp only [Prod.mk.injEq] at e
    obtain ⟨rfl, rfl⟩ := e
    have h1 := pairs_mem.1 h
    exact ⟨b, h1.2.1, h1.2.2, (List.mem_filter.1 hz).2⟩
  · rintro ⟨j, hj, h1, h2⟩
    exact ⟨(i, j), pairs_mem.2 ⟨hi, hj, h1⟩, List.mem_map.2 ⟨k, List.mem_filter.2 ⟨by simpa using hk, h2⟩, rfl⟩⟩
set_option maxHeartbeats 4000000 in
theorem refSeq_any (p q : Option Addr) (c d : Nat) (xs ys : List Nat) (w : World) (hx : Sl U32E w (.slice p xs.length c) xs) (hy : Sl U32E w (.slice q ys.length d) ys) : Calls Try.prog 33 #[.slice p xs.length c, .slice q ys.length d] w (Tells w (bothN xs ys) (seqF (bothN xs ys) (hasR xs) (hasR ys))) := by
  have C1 := Size_any p c xs
  have C2 := Size_any q d ys
  by_cases hs : szR xs = szR ys
  · rw [bothN_eq hs]
    have C3 := fun (w' : World) (h : Below w.heap.size w w') => refPairs_any p c xs w' (hx.keep h)
    have C4 := fun (i k : Nat) (w' : World) (h : Below w.heap.size w w') => refHas_any q d ys (i : Int) (k : Int) w' (hy.keep h)
    rw [← hs] at C2
    have h32 := szR_le xs
    have hl1 := pairsF_len (hasR xs) h32
    have hm : mkR (szR xs) (ofF ((pairsF (szR xs) (hasR xs)).flatMap fun x => onP (hasR ys) x (szR xs))) = mkR (szR xs) (seqF (szR xs) (hasR xs) (hasR ys)) := mkR_of fun i k hi hk => of_on _ _ hi hk
    have hin : ∀ x ∈ pairsF (szR xs) (hasR xs), x.1 < szR xs ∧ x.2 < szR xs := pairsF_in
    unfold Tells
    rw [← hm]
    clear hm hs
    have C4' : ∀ (i k : Nat) (w' : World), Below w.heap.size w w' → Calls Try.prog 11 #[.slice q ys.length d, .int .i64 (i : Int), .int .i64 (k : Int)] w' fun e w'' => e = .returned (.bool (hasR ys i k)) ∧ Below w'.heap.size w' w'' := fun i k w' h => by
      have := C4 i k w' h
      rw [hasI_nat] at this
      exact this
    clear C4
    generalize hasR ys = g at *
    generalize pairsF (szR xs) (hasR xs) = l at *
    generalize szR xs = n at *
    have C1 : Hid _ := C1
    have C2 : Hid _ := C2
    have C3 : Hid _ := C3
    have C4 : Hid _ := C4'
    clear C4'
    have HIN : Hid _ := hin
    clear hin
    have F1 := trivial
    go_enter Try.func33, Try.ntmps33
    go_wp2_with (first
      | (go_at_call 38; clear F1; refine (C1.out _).mono ?_; rintro e w1 ⟨rfl, hb1⟩; have F2 := trivial)
      | (go_at_call 38; clear F2; refine (C2.out _).mono ?_; rintro e w2 ⟨rfl, hb2⟩; have hB2 := Below.thru hb1 hb2 (Nat.le_refl _))
      | (go_at_call 16; refine (C3.out _ hB2).mono ?_; rintro e w3 ⟨v3, rfl, hO3, hb3⟩; obtain ⟨p3, c3, rfl⟩ := hO3.len; have hB3 := Below.thru hB2 hb3 (Nat.le_refl _)))
    have hL := hO3.sl.any
    clear hO3
    go_loopw [5, 7] (fun a i wr => ∃ (k : Nat) (out : List (Nat × Nat)), k ≤ l.length ∧ i = .int .i64 k ∧ Own (fun _ => False) PairE wr w3.heap.size 50 a out ∧ out = (l.take k).flatMap (fun x => onP g x n) ∧ out.length ≤ k * 32 ∧ Below w3.heap.size w3 wr) (fun _ i _ => l.length - (intOf i).toNat)
    case atStart => exact ⟨0, [], Nat.zero_le _, rfl, Own.nil, rfl, Nat.zero_le _, Below.refl _ _⟩
    case round =>
      obtain ⟨k, out, hk, rfl, hO, hout, hlen, hBr⟩ := hrel
      obtain ⟨w4, rfl⟩ : ∃ x : World, x = wr := ⟨_, rfl⟩
      obtain ⟨pa, ca, rfl⟩ := hO.len
      have HOUT : Hid _ := hout
      clear hout
      have hBw := Below.thru hB3 hBr (Nat.le_refl _)
      by_cases hlt : k < l.length
      · have hlt' : (k : Int) < (l.length : Int) := by omega
        go_wp2
        go_loopw [5, 8] (fun a i wr => ∃ (j : Nat) (out' : List (Nat × Nat)), j ≤ n ∧ i = .int .i64 j ∧ Own (fun _ => False) PairE wr w3.heap.size 50 a out' ∧ out' = out ++ onP g l[k] j ∧ out'.length ≤ k * 32 + j ∧ Below w3.heap.size w3 wr) (fun _ i _ => n - (intOf i).toNat)
        case atStart => exact ⟨0, out, Nat.zero_le _, rfl, hO, by simp [onP], by omega, hBr⟩
        case round =>
          obtain ⟨j, out', hj, rfl, hO', hout', hlen', hBi⟩ := hrel
          obtain ⟨pa', ca', rfl⟩ := hO'.len
          have HOUT' : Hid _ := hout'
          clear hout'
          have hBx := Below.thru hB3 hBi (Nat.le_refl _)
          have htk := take_snoc hlt
          have hc0 := (pair_at (hL.keep hBi)).2 k hlt
          generalize l[k] = ij at *
          obtain ⟨lb, lo, rfl, hc1, hc2⟩ := hc0
          obtain ⟨i, i2⟩ := ij
          simp only at hc1 hc2
          have HTK : Hid _ := htk
          clear htk
          by_cases hjn : j < n
          · have hjn' : (j : Int) < (n : Int) := by omega
            have C5 := fun w' (h : Below wr.heap.size wr w') => C4.out i2 j w' (Below.thru hBx h (Nat.le_refl _))
            cases hbit : g i2 j with
            | true =>
              rw [hbit] at C5
              have HB : Hid _ := hbit
              have C5 : Hid _ := C5
              clear hbit
              go_wp2_with (first
                | (go_at_call 38; refine (C2.out _).mono ?_; rintro e w5 ⟨rfl, hb5⟩; have hc15 := cell_keep hc1 hb5; have hc25 := cell_keep hc2 hb5)
                | (go_at_call 11; refine (C5.out _ hb5).mono ?_; rintro e w6 ⟨rfl, hb6⟩; have hc16 := cell_keep hc15 hb6; have hc26 := cell_keep hc25 hb6; have hO6 := (hO'.keep hb5).keep hb6; have hB6 := Below.thru (Below.thru hBi hb5 (Nat.le_refl _)) hb6 (Nat.le_refl _); have hA6 := (Below.refl w6.heap.size w6).alloc (Nat.le_refl _) (.cells #[.int .i64 (i : Int), .int .i64 (j : Int)] 50); have hB7 := Below.thru hB6 hA6 (Nat.le_refl _))
                | (at_builtin; refine wpList_pair (by rfl) (.tmp 36) (.tmp 44) (by rfl) w3.heap.size (.slice pa' out'.length ca') w6.heap.size i j (by rfl) (by rfl) (hO6.keep hA6) (by simp) (by simp) (by omega) hB7.size ?_; intro p8 c8 w8 hO8 hg8))
              go_roundw
              case rel => exact ⟨j + 1, out' ++ [(i, j)], by omega, by go_num, hO8, by rw [HOUT'.out, onP_yes HB.out, List.append_assoc], by simp only [List.length_append, List.length_cons, List.length_nil]; omega, hB7.grown hg8 hB7.size (fun q hq => ((hO6.keep hA6).lt q hq).1)⟩
              case measure => simp [intOf]; omega
            | false =>
              rw [hbit] at C5
              have HB : Hid _ := hbit
              have C5 : Hid _ := C5
              clear hbit
              go_wp2_with (first
                | (go_at_call 38; refine (C2.out _).mono ?_; rintro e w5 ⟨rfl, hb5⟩; have hc15 := cell_keep hc1 hb5; have hc25 := cell_keep hc2 hb5)
                | (go_at_call 11; refine (C5.out _ hb5).mono ?_; rintro e w6 ⟨rfl, hb6⟩))
              go_roundw
              case rel => exact ⟨j + 1, out', by omega, by go_num, (hO'.keep hb5).keep hb6, by rw [HOUT'.out, onP_no HB.out], by omega, Below.thru (Below.thru hBi hb5 (Nat.le_refl _)) hb6 (Nat.le_refl _)⟩
              case measure => simp [intOf]; omega
          · have e : j = n := by omega
            have hjn' : ¬ (j : Int) < (n : Int) := by omega
            subst e
            go_wp2_with (go_at_call 38; refine (C2.out _).mono ?_; rintro e w5 ⟨rfl, hb5⟩)
            go_roundw
            case rel => exact ⟨k + 1, out', by omega, by go_num, hO'.keep hb5, by rw [HOUT'.out, HTK.out, List.flatMap_append, HOUT.out]; simp, by omega, Below.thru hBi hb5 (Nat.le_refl _)⟩
            case measure => simp [intOf]; omega
      · have e : k = l.length := by omega
        have hlt' : ¬ (k : Int) < (l.length : Int) := by omega
        have ho : out = l.flatMap fun x => onP g x n := by have := HOUT.out; rw [e, List.take_length] at this; exact this
        have hin : ∀ x ∈ out, x.1 < n ∧ x.2 < n := fun x hx => by
          rw [ho] at hx
          obtain ⟨y, hy, h⟩ := List.mem_flatMap.1 hx
          exact onP_in (HIN.out y hy).1 h
        have HO : Hid _ := ho
        have HIN2 : Hid _ := hin
        clear hin ho e
        go_wp2_with (first
          | (go_at_call 38; refine (C1.out _).mono ?_; rintro e w6 ⟨rfl, hb6⟩; have C6 := Made_any n pa ca out w6 h32 (hO.keep hb6).sl.any HIN2.out (by omega))
          | (go_at_call 43; refine C6.mono ?_; rintro e w7 ⟨v7, rfl, h7, hb7⟩))
        go_ret
        exact ⟨v7, rfl, by rw [← HO.out]; exact h7, Below.thru (Below.thru hBw hb6 (Nat.le_refl _)) hb7 (Nat.le_refl _)⟩
  · rw [bothN_ne hs]
    have hs' : ¬ ((szR xs : Nat) : Int) = ((szR ys : Nat) : Int) := by omega
    clear hs
    generalize szR xs = n at *
    generalize szR ys = m at *
    have C1 : Hid _ := C1
    have C2 : Hid _ := C2
    have F1 := trivial
    go_enter Try.func33, Try.ntmps33
    go_wp2_with (first
      | (go_at_call 38; clear F1; refine (C1.out _).mono ?_; rintro e w1 ⟨rfl, hb1⟩; have F2 := trivial)
      | (go_at_call 38; clear F2; refine (C2.out _).mono ?_; rintro e w2 ⟨rfl, hb2⟩))
    go_ret
    exact ⟨_, rfl, SlA.nil, Below.thru hb1 hb2 (Nat.le_refl _)⟩
end Go.Proofs.Ytjngpdamkdgkkaa
