/- Contracts of the document's Plus, Acyclic, Same; of the law's pairs. -/
import Derived.Test.YtjngpdamkdgkkaaRelRef3
namespace Go.Proofs.Ytjngpdamkdgkkaa
open Go.RowKit
attribute [local go_sem] Ext.cell Ext.frozen

theorem hasR_mk {n : Nat} (f : Nat → Nat → Bool) (hn : n ≤ 32) {i k : Nat} (hi : i < n) (hk : k < n) : hasR (mkR n f) i k = f i k := by
  rw [mkR_has f hn]; simp [hi, hk]
theorem refSeq_mk (p q : Option Addr) (c d n : Nat) (F : Nat → Nat → Bool) (xs : List Nat) (w : World) (hn : n ≤ 32) (hs : szR xs = n) (hx : Sl U32E w (.slice p n c) (mkR n F)) (hy : Sl U32E w (.slice q xs.length d) xs) : Calls Try.prog 33 #[.slice p n c, .slice q xs.length d] w (Tells w n (seqF n F (hasR xs))) := by
  have e1 : (mkR n F).length = n := mkR_len _ _
  have C := refSeq_any p q c d (mkR n F) xs w (by rw [e1]; exact hx) hy
  have e2 : bothN (mkR n F) xs = n := by unfold bothN; rw [mkR_sz F hn, if_pos hs.symm]
  rw [e1, e2] at C
  have hm : mkR n (seqF n (hasR (mkR n F)) (hasR xs)) = mkR n (seqF n F (hasR xs)) := mkR_congr fun i k hi hk => seq_congr (fun a b ha hb => hasR_mk F hn ha hb) (fun _ _ _ _ => rfl) hi hk
  unfold Tells at C ⊢
  rw [hm] at C
  exact C
theorem refOr_mk (p q : Option Addr) (c d n : Nat) (F G : Nat → Nat → Bool) (w : World) (hn : n ≤ 32) (hx : Sl U32E w (.slice p n c) (mkR n F)) (hy : Sl U32E w (.slice q n d) (mkR n G)) : Calls Try.prog 29 #[.slice p n c, .slice q n d] w (Tells w n (orF F G)) := by
  have e1 : (mkR n F).length = n := mkR_len _ _
  have e3 : (mkR n G).length = n := mkR_len _ _
  have C := refOr_any p q c d (mkR n F) (mkR n G) w (by rw [e1]; exact hx) (by rw [e3]; exact hy)
  have e2 : bothN (mkR n F) (mkR n G) = n := by unfold bothN; rw [mkR_sz F hn, mkR_sz G hn, if_pos rfl]
  rw [e1, e2, e3] at C
  have hm : mkR n (orF (hasR (mkR n F)) (hasR (mkR n G))) = mkR n (orF F G) := mkR_congr fun i k hi hk => by unfold orF; rw [hasR_mk F hn hi hk, hasR_mk G hn hi hk]
  unfold Tells at C ⊢
  rw [hm] at C
  exact C

set_option maxHeartbeats 4000000 in
theorem refPlus_any (p : Option Addr) (c : Nat) (xs : List Nat) (w : World) (hx : Sl U32E w (.slice p xs.length c) xs) : Calls Try.prog 23 #[.slice p xs.length c] w (Tells w (szR xs) (plusF (szR xs) (hasR xs))) := by
  have C := Clean_any p c xs w hx
  have C1 := Size_any p c xs
  have h32 := szR_le xs
  have hm : mkR (szR xs) (plusF (szR xs) (hasR xs)) = mkR (szR xs) (longF (szR xs) (hasR xs) (szR xs)) := mkR_congr fun i k _ _ => (long_plus (has_within xs) i k).symm
  unfold Tells
  rw [hm]
  clear hm
  have CS : ∀ (p' : Option Addr) (c' : Nat) (F : Nat → Nat → Bool) (w' : World), Below w.heap.size w w' → Sl U32E w' (.slice p' (szR xs) c') (mkR (szR xs) F) → Calls Try.prog 33 #[.slice p' (szR xs) c', .slice p xs.length c] w' (Tells w' (szR xs) (seqF (szR xs) F (hasR xs))) :=
    fun p' c' F w' hb h => refSeq_mk p' p c' c _ F xs w' h32 rfl h (hx.keep hb)
  have hl0 : ∀ F, (mkR (szR xs) F).length = szR xs := fun F => mkR_len _ _
  have HL : Hid _ := hl0
  clear hl0
  generalize hasR xs = f at *
  generalize szR xs = n at *
  have C1 : Hid _ := C1
  have CS : Hid _ := CS
  go_enter Try.func23, Try.ntmps23
  go_wp2_with (go_at_call 41; refine C.mono ?_; rintro e w1 ⟨v1, rfl, h1, hb1⟩)
  clear C
  go_loopw [3, 4] (fun a i wr => ∃ (k : Nat), k ≤ n ∧ i = .int .i64 k ∧ Sl U32E wr a (mkR n (longF n f k)) ∧ Below w.heap.size w wr) (fun _ i _ => n - (intOf i).toNat)
  case atStart => exact ⟨0, Nat.zero_le _, rfl, h1, hb1⟩
  case round =>
    obtain ⟨k, hk, rfl, hS, hBr⟩ := hrel
    obtain ⟨pa, ca, rfl⟩ := hS.len
    rw [HL.out] at hS
    simp only [HL.out]
    by_cases hlt : k < n
    · have hlt' : (k : Int) < (n : Int) := by omega
      have C2 := fun w' (h : Below wr.heap.size wr w') => CS.out pa ca (longF n f k) w' (Below.thru hBr h (Nat.le_refl _)) (hS.keep h)
      have C2 : Hid _ := C2
      go_wp2_with (first
        | (go_at_call 38; refine (C1.out _).mono ?_; rintro e w2 ⟨rfl, hb2⟩)
        | (go_at_call 33; refine (C2.out _ hb2).mono ?_; rintro e w3 ⟨v3, rfl, h3, hb3⟩; obtain ⟨p3, c3, rfl⟩ := h3.len; rw [HL.out] at h3; simp only [HL.out]; have C3 := refOr_mk pa p3 ca c3 n _ _ w3 h32 ((hS.keep hb2).keep hb3) h3)
        | (go_at_call 29; refine C3.mono ?_; rintro e w4 ⟨v4, rfl, h4, hb4⟩))
      go_roundw
      case rel => exact ⟨k + 1, by omega, by go_num, h4, Below.thru (Below.thru (Below.thru hBr hb2 (Nat.le_refl _)) hb3 (Nat.le_refl _)) hb4 (Nat.le_refl _)⟩
      case measure => simp [intOf]; omega
    · have e : k = n := by omega
      have hlt' : ¬ (k : Int) < (n : Int) := by omega
      subst e
      go_wp2_with (go_at_call 38; refine (C1.out _).mono ?_; rintro e w2 ⟨rfl, hb2⟩)
      go_ret
      exact ⟨_, rfl, hS.keep hb2, Below.thru hBr hb2 (Nat.le_refl _)⟩

set_option maxHeartbeats 4000000 in
theorem refAcyclic_any (p : Option Addr) (c : Nat) (xs : List Nat) (w : World) (hx : Sl U32E w (.slice p xs.length c) xs) : Calls Try.prog 13 #[.slice p xs.length c] w fun e w' => e = .returned (.bool (acyF (szR xs) (hasR xs))) ∧ Below w.heap.size w w' := by
  have C := refPlus_any p c xs w hx
  have h32 := szR_le xs
  generalize hasR xs = f at *
  generalize szR xs = n at *
  clear hx
  have CH : ∀ (p' : Option Addr) (c' i : Nat) (w' : World), i < n → Sl U32E w' (.slice p' n c') (mkR n (plusF n f)) → Calls Try.prog 11 #[.slice p' n c', .int .i64 (i : Int), .int .i64 (i : Int)] w' fun e w'' => e = .returned (.bool (plusF n f i i)) ∧ Below w'.heap.size w' w'' := fun p' c' i w' hi h => by
    have e1 : (mkR n (plusF n f)).length = n := mkR_len _ _
    have := refHas_any p' c' (mkR n (plusF n f)) i i w' (by rw [e1]; exact h)
    rw [e1, hasI_mk _ h32 hi hi] at this
    exact this
  have hl0 : (mkR n (plusF n f)).length = n := mkR_len _ _
  have HL : Hid _ := hl0
  clear hl0
  have CH : Hid _ := CH
  go_enter Try.func13, Try.ntmps13
  go_wp2_with (go_at_call 23; refine C.mono ?_; rintro e w1 ⟨v1, rfl, h1, hB⟩; obtain ⟨p1, c1, rfl⟩ := h1.len; rw [HL.out] at h1; simp only [HL.out])
  clear C
  go_loopw [4] (fun i wr => ∃ k : Nat, k ≤ n ∧ i = .int .i64 k ∧ ((List.range n).drop k).all (fun i => !plusF n f i i) = acyF n f ∧ Below w1.heap.size w1 wr) (fun i _ => n - (intOf i).toNat)
  case atStart => exact ⟨0, Nat.zero_le _, rfl, rfl, Below.refl _ _⟩
  case round =>
    obtain ⟨k, hk, rfl, hF, hBr⟩ := hrel
    have HF : Hid _ := hF
    clear hF
    by_cases hlt : k < n
    · have hlt' : (k : Int) < (n : Int) := by omega
      have C1 := CH.out p1 c1 k wr hlt (h1.keep hBr)
      have HG := HF.out
      rw [drop_at (by simpa using hlt), List.getElem_range, List.all_cons] at HG
      cases hbit : plusF n f k k with
      | true =>
        rw [hbit] at C1 HG
        have HG : Hid _ := HG
        clear hbit
        go_wp2_with (go_at_call 11; refine C1.mono ?_; rintro e w3 ⟨rfl, hb3⟩)
        go_ret
        exact ⟨by rw [← HG.out]; rfl, Below.thru (Below.thru hB hBr (Nat.le_refl _)) hb3 (Nat.le_refl _)⟩
      | false =>
        rw [hbit] at C1 HG
        have HG : Hid _ := HG
        clear hbit
        go_wp2_with (go_at_call 11; refine C1.mono ?_; rintro e w3 ⟨rfl, hb3⟩)
        go_roundw
        case rel => exact ⟨k + 1, by omega, by go_num, HG.out, Below.thru hBr hb3 (Nat.le_refl _)⟩
        case measure => simp [intOf]; omega
    · have e : k = n := by omega
      have hlt' : ¬ (k : Int) < (n : Int) := by omega
      subst e
      have HG := HF.out
      rw [List.drop_of_length_le (by simp), List.all_nil] at HG
      have HG : Hid _ := HG
      go_wp2
      go_ret
      exact ⟨by rw [← HG.out]; rfl, Below.thru hB hBr (Nat.le_refl _)⟩

set_option maxHeartbeats 4000000 in
theorem refSame_any (p q : Option Addr) (c d : Nat) (xs ys : List Nat) (w : World) (hx : Sl U32E w (.slice p xs.length c) xs) (hy : Sl U32E w (.slice q ys.length d) ys) : Calls Try.prog 17 #[.slice p xs.length c, .slice q ys.length d] w fun e w' => e = .returned (.bool (decide (cleanR xs = cleanR ys))) ∧ Below w.heap.size w w' := by
  have C1 := Clean_any p c xs w hx
  have C2 := fun (w' : World) (h : Below w.heap.size w w') => Clean_any q d ys w' (hy.keep h)
  have h32 : (cleanR xs).length ≤ 32 := by unfold cleanR; rw [mkR_len]; exact szR_le xs
  unfold Tells at C1 C2
  change Calls _ _ _ _ (fun e w' => ∃ v, e = _ ∧ Sl U32E w' v (cleanR xs) ∧ _) at C1
  change ∀ w' (_ : Below w.heap.size w w'), Calls _ _ _ _ (fun e w'' => ∃ v, e = _ ∧ Sl U32E w'' v (cleanR ys) ∧ _) at C2
  generalize cleanR xs = rx at *
  generalize cleanR ys = ry at *
  clear hx hy
  have C2 : Hid _ := C2
  have F1 := trivial
  by_cases hl : rx.length = ry.length
  · have hl' : (rx.length : Int) = (ry.length : Int) := by omega
    have HL : Hid _ := hl
    clear hl
    go_enter Try.func17, Try.ntmps17
    go_wp2_with (first
      | (go_at_call 41; clear F1; refine C1.mono ?_; rintro e w1 ⟨v1, rfl, h1, hb1⟩; obtain ⟨p1, c1, rfl⟩ := h1.len; have C3 := C2.out w1 hb1; have F2 := trivial)
      | (go_at_call 41; clear F2; refine C3.mono ?_; rintro e w2 ⟨v2, rfl, h2, hb2⟩; obtain ⟨p2, c2, rfl⟩ := h2.len))
    clear C1 C3
    have h1' := h1.keep hb2
    have hB2 := Below.thru hb1 hb2 (Nat.le_refl _)
    clear h1
    go_loopw [7] (fun i wr => ∃ k : Nat, k ≤ rx.length ∧ i = .int .i64 k ∧ (∀ j (h : j < rx.length) (h' : j < ry.length), j < k → rx[j] = ry[j]) ∧ Below w2.heap.size w2 wr) (fun i _ => rx.length - (intOf i).toNat)
    case atStart => exact ⟨0, Nat.zero_le _, rfl, fun j _ _ h => by omega, Below.refl _ _⟩
    case round =>
      obtain ⟨k, hk, rfl, hF, hBr⟩ := hrel
      have HF : Hid _ := hF
      clear hF
      by_cases hlt : k < rx.length
      · have hly : k < ry.length := by have := HL.out; omega
        have hlt' : (k : Int) < (rx.length : Int) := by omega
        have hlt2 : (k : Int) < (ry.length : Int) := by omega
        obtain ⟨hu, ab, ao, rfl, hc⟩ := (u32_at (h1'.keep hBr)).2 k hlt
        obtain ⟨hu', bb, bo, rfl, hc'⟩ := (u32_at (h2.keep hBr)).2 k hly
        have hz1 := cell_lt hc
        have hz2 := cell_lt hc'
        have hne : ∀ w, Nonempty (Ext w) := ext_some
        by_cases hxy : rx[k] = ry[k]
        · rw [← hxy] at hc'
          have HXY : Hid _ := hxy
          clear hxy
          go_wp2
          refine wp_region_ext (by kernel_rfl) (by kernel_rfl) ?_
          repeat (go_big_quiet_step (fail))
          refine wpQuiet_nil ?_
          rintro _ ⟨rr, rfl⟩
          go_wp2
          go_roundw
          case rel =>
            refine ⟨k + 1, by omega, by go_num, fun j h h' hj => ?_, Below.thru hBr rr.ok (Nat.le_refl _)⟩
            by_cases e : j = k
            · subst e; exact HXY.out
            · exact HF.out j h h' (by omega)
          case measure => simp [intOf]; omega
        · have hxy' : ¬ ((rx[k] : Nat) : Int) = ((ry[k] : Nat) : Int) := by omega
          have HXY : Hid (rx ≠ ry) := fun e => hxy (by subst e; rfl)
          generalize rx[k] = x at *
          generalize ry[k] = y at *
          clear hxy
          go_wp2
          refine wp_region_ext (by kernel_rfl) (by kernel_rfl) ?_
          repeat (go_big_quiet_step (fail))
          refine wpQuiet_nil ?_
          rintro _ ⟨rr, rfl⟩
          go_wp2
          go_ret
          exact ⟨by rw [decide_eq_false HXY.out]; rfl, Below.thru (Below.thru hB2 hBr (Nat.le_refl _)) rr.ok (Nat.le_refl _)⟩
      · have hlt' : ¬ (k : Int) < (rx.length : Int) := by omega
        go_wp2
        go_ret
        exact ⟨by rw [decide_eq_true (List.ext_getElem HL.out fun j h h' => HF.out j h h' (by omega))]; rfl, Below.thru hB2 hBr (Nat.le_refl _)⟩
  · have hl' : ¬ (rx.length : Int) = (ry.length : Int) := by omega
    have HN : Hid (rx ≠ ry) := fun e => hl (by rw [e])
    clear hl
    go_enter Try.func17, Try.ntmps17
    go_wp2_with (first
      | (go_at_call 41; clear F1; refine C1.mono ?_; rintro e w1 ⟨v1, rfl, h1, hb1⟩; obtain ⟨p1, c1, rfl⟩ := h1.len; have C3 := C2.out w1 hb1; have F2 := trivial)
      | (go_at_call 41; clear F2; refine C3.mono ?_; rintro e w2 ⟨v2, rfl, h2, hb2⟩; obtain ⟨p2, c2, rfl⟩ := h2.len))
    go_ret
    exact ⟨by rw [decide_eq_false HN.out]; rfl, Below.thru hb1 hb2 (Nat.le_refl _)⟩

theorem info_int : ((Try.prog.info? 3).map fun i => (i.zero, i.size, i.bytes)) = some (some (.int .i64 0), 1, 8) := by kernel_rfl
theorem pair_same (d : Nat) (a b : Int) (w : World) : (Op.equalIn (d + 2) 50 (.agg #[.int .i64 a, .int .i64 b]) (.agg #[.int .i64 a, .int .i64 b])).run Try.prog w = .ok true w := by
  have h1 : Try.prog.underlying 50 = some (.array 2 3) := by kernel_rfl
  have h3 : Try.prog.underlying 3 = some (.int .i64) := by kernel_rfl
  obtain ⟨i0, j1, j2, j3, j4⟩ := get_info info_int
  rw [Op.equalIn]
  simp only [Sem.run_bind, run_underlying h1, Result.andThen_ok]
  simp [sizeOf, typeInfo, j1, j3, List.range', part, run_equalIn_int _ d 3 .i64 .i64 _ _ h3]
theorem pair_same' (a b : Int) (w : World) : (Op.equalIn 10000 50 (.agg #[.int .i64 a, .int .i64 b]) (.agg #[.int .i64 a, .int .i64 b])).run Try.prog w = .ok true w := pair_same 9998 a b w
attribute [local go_sem] pair_same'
set_option maxHeartbeats 4000000 in
theorem pairs_any (p q : Option Addr) (c d : Nat) (l : List (Nat × Nat)) (w : World) (hx : Sl PairE w (.slice p l.length c) l) (hy : Sl PairE w (.slice q l.length d) l) (h100 : l.length ≤ 100000) : Calls Try.prog 14 #[.slice p l.length c, .slice q l.length d] w fun e w' => e = .returned (.bool true) ∧ Below w.heap.size w w' := by
  go_enter Try.func14, Try.ntmps14
  go_wp2
  go_loopw [5] (fun i wr => ∃ k : Nat, k ≤ l.length ∧ i = .int .i64 k ∧ Below w.heap.size w wr) (fun i _ => l.length - (intOf i).toNat)
  case atStart => exact ⟨0, Nat.zero_le _, rfl, Below.refl _ _⟩
  case round =>
    obtain ⟨k, hk, rfl, hBr⟩ := hrel
    by_cases hlt : k < l.length
    · have hlt' : (k : Int) < (l.length : Int) := by omega
      obtain ⟨ab, ao, rfl, hc1, hc2⟩ := (pair_at (hx.keep hBr)).2 k hlt
      obtain ⟨bb, bo, rfl, hd1, hd2⟩ := (pair_at (hy.keep hBr)).2 k hlt
      generalize l[k] = ij at *
      obtain ⟨i, j⟩ := ij
      simp only at hc1 hc2 hd1 hd2
      have hz1 := cell_lt hc1
      have hz2 := cell_lt hd1
      have hne : ∀ w, Nonempty (Ext w) := ext_some
      go_wp2
      refine wp_region_ext (by kernel_rfl) (by kernel_rfl) ?_
      repeat (go_big_quiet_step (fail))
      refine wpQuiet_nil ?_
      rintro _ ⟨rr, rfl⟩
      go_wp2
      go_roundw
      case rel => exact ⟨k + 1, by omega, by go_num, Below.thru hBr rr.ok (Nat.le_refl _)⟩
      case measure => simp [intOf]; omega
    · have hlt' : ¬ (k : Int) < (l.length : Int) := by omega
      go_wp2
      go_ret
      exact ⟨rfl, hBr⟩
end Go.Proofs.Ytjngpdamkdgkkaa
