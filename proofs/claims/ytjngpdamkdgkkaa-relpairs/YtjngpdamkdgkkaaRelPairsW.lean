/- RelPairs, walked. -/
import Derived.Test.YtjngpdamkdgkkaaRelShown
import Derived.Test.YtjngpdamkdgkkaaMix
namespace Go.Proofs.Ytjngpdamkdgkkaa
open Go.RowKit

attribute [local go_sem] Ext.cell Ext.frozen
def ofL (n : Nat) (l : List (Nat × Nat)) : List Nat := mkR n (ofF l)
theorem ofL_new (xs : List Nat) : newL (xs.length : Int) = ofL (szR xs) [] := by
  unfold newL ofL
  rw [newN_len]
  exact mkR_congr fun i k _ _ => by simp [ofF]
theorem ofL_put {n : Nat} (hn : n ≤ 32) (l : List (Nat × Nat)) {i k : Nat} (_hi : i < n) (_hk : k < n) : putL (ofL n l) (i : Int) (k : Int) = ofL n (l ++ [(i, k)]) := by
  unfold putL ofL
  rw [mkR_sz _ hn]
  exact mkR_congr fun x y hx hy => by
    rw [ofF_snoc]
    unfold putF
    rw [hasR_mk _ hn hx hy]
    congr 2
    · exact decide_eq_decide.2 (by omega)
    · exact decide_eq_decide.2 (by omega)
theorem ofL_has {n : Nat} (hn : n ≤ 32) (l : List (Nat × Nat)) {i k : Nat} (hi : i < n) (hk : k < n) : hasI (ofL n l) (i : Int) (k : Int) = ofF l i k := hasI_mk _ hn hi hk
theorem ofL_all (xs : List Nat) : cleanR (ofL (szR xs) (pairsL xs)) = cleanR xs := by
  refine same_of (mkR_sz _ (szR_le xs)) ?_
  unfold ofL pairsL
  rw [of_pairs (has_within xs)]
  exact mkR_fun (szR_le xs) (has_within xs)
/-- Each pair once: the next one is not among those ahead of it. -/
theorem take_fresh {l : List (Nat × Nat)} (h : l.Nodup) {k : Nat} (hk : k < l.length) : ofF (l.take k) l[k].1 l[k].2 = false := by
  unfold ofF
  rw [← Bool.not_eq_true, List.contains_iff_mem]
  intro hm
  obtain ⟨j, hj, e⟩ := List.getElem_of_mem hm
  rw [List.getElem_take] at e
  have hj' : j < k := by simp at hj; omega
  have := (List.nodup_iff_pairwise_ne.1 h)
  rw [List.pairwise_iff_getElem] at this
  exact this j k (by omega) hk hj' e
theorem pairs_none (n : Nat) : pairsF n (fun _ _ => false) = [] := by
  simp [pairsF]
theorem new_pairs (n : Int) : (pairsL (newL n)).length = 0 := by
  have : hasR (newL n) = fun _ _ => false := mkR_fun (newN_le n) (fun _ _ h => by cases h)
  unfold pairsL
  rw [this, pairs_none]
  rfl
theorem put_hasL {xs : List Nat} {x y : Nat} (hx : x < szR xs) (hy : y < szR xs) : hasR (putL xs (x : Int) (y : Int)) = putF (hasR xs) x y := by
  refine mkR_fun (szR_le xs) fun i k h => ?_
  unfold putF at h
  rw [Bool.or_eq_true, Bool.and_eq_true, decide_eq_true_eq, decide_eq_true_eq] at h
  rcases h with h | ⟨h1, h2⟩
  · exact has_within xs i k h
  · omega
theorem put_yes {xs : List Nat} {x y : Nat} (hx : x < szR xs) (hy : y < szR xs) : hasI (putL xs (x : Int) (y : Int)) (x : Int) (y : Int) = true := by
  rw [hasI_nat, put_hasL hx hy]
  unfold putF
  simp
theorem put_old {xs : List Nat} {x y : Nat} (hx : x < szR xs) (hy : y < szR xs) (h : hasR xs x y = true) : (pairsL (putL xs (x : Int) (y : Int))).length = (pairsL xs).length := by
  have : putF (hasR xs) x y = hasR xs := by
    funext i k
    unfold putF
    cases hik : hasR xs i k with
    | true => rfl
    | false =>
      rw [Bool.false_or, Bool.and_eq_false_iff, decide_eq_false_iff_not, decide_eq_false_iff_not]
      rcases Classical.em ((i : Int) = x) with e | e
      · rcases Classical.em ((k : Int) = y) with e2 | e2
        · obtain rfl : i = x := by omega
          obtain rfl : k = y := by omega
          rw [hik] at h; cases h
        · exact .inr e2
      · exact .inl e
  unfold pairsL
  rw [put_sz, put_hasL hx hy, this]
theorem put_new {xs : List Nat} {x y : Nat} (hx : x < szR xs) (hy : y < szR xs) (h : hasR xs x y = false) : (pairsL (putL xs (x : Int) (y : Int))).length = (pairsL xs).length + 1 := by
  have hp : List.Perm (pairsL (putL xs (x : Int) (y : Int))) ((x, y) :: pairsL xs) := by
    refine (List.perm_ext_iff_of_nodup (pairs_nodup _ _) ?_).2 fun z => ?_
    · refine List.nodup_cons.2 ⟨fun hm => ?_, pairs_nodup _ _⟩
      have := (pairs_mem.1 hm).2.2
      rw [h] at this; cases this
    · obtain ⟨i, k⟩ := z
      unfold pairsL
      rw [List.mem_cons, put_sz, put_hasL hx hy, pairs_mem, pairs_mem]
      unfold putF
      rw [Bool.or_eq_true, Bool.and_eq_true, decide_eq_true_eq, decide_eq_true_eq, Prod.mk.injEq]
      constructor
      · rintro ⟨h1, h2, h3 | ⟨h3, h4⟩⟩
        · exact .inr ⟨h1, h2, h3⟩
        · exact .inl ⟨by omega, by omega⟩
      · rintro (⟨rfl, rfl⟩ | ⟨h1, h2, h3⟩)
        · exact ⟨hx, hy, .inr ⟨rfl, rfl⟩⟩
        · exact ⟨h1, h2, .inl h3⟩
  rw [hp.length_eq, List.length_cons]

set_option maxHeartbeats 4000000 in
theorem RelPairs_true (pa : Option Addr) (ca : Nat) (xs : List Nat) (i k : Nat) (w : World) (ha : Sl U32E w (.slice pa xs.length ca) xs) (hi : i < 256) (hk : k < 256) :
    Calls Try.prog 7 #[.slice pa xs.length ca, .int .u8 (i : Int), .int .u8 (k : Int)] w fun e w' => e = .returned (.bool true) ∧ Below w.heap.size w w' := by
  by_cases h1 : (32 : Int) < (xs.length : Int)
  · skip
    go_enter Try.func7, Try.ntmps7
    have F0 := trivial
    go_wp2_with (first
      | (go_at_call 9; clear F0; have C := shown_any w; refine C.mono ?_; clear C; rintro e w1 ⟨rfl, hb1⟩; have B1 := hb1; have F1 := trivial))
    go_ret
    exact ⟨rfl, B1⟩
  · by_cases h2 : xs.length = 0
    · have h2' : ((xs.length : Int) == 0) = true := len_eq0 h2
      clear h2
      go_enter Try.func7, Try.ntmps7
      have F0 := trivial
      go_wp2_with (first
        | (go_at_call 9; clear F0; have C := shown_any w; refine C.mono ?_; clear C; rintro e w1 ⟨rfl, hb1⟩; have B1 := hb1; have F1 := trivial))
      go_ret
      exact ⟨rfl, B1⟩
    · have h2' : ((xs.length : Int) == 0) = false := len_ne0 h2
      have h2n : ¬ (xs.length : Int) = 0 := by omega
      have h32 : xs.length ≤ 32 := by omega
      have hsz : szR xs = xs.length := by unfold szR; rw [if_neg (by omega)]
      have HSZ : Hid _ := hsz
      clear hsz
      have HNEW : Hid _ := ofL_new xs
      have HND : Hid ((pairsL xs).Nodup) := pairs_nodup _ _
      have HIN : Hid (∀ x ∈ pairsL xs, x.1 < szR xs ∧ x.2 < szR xs) := pairsF_in
      have HLEN : Hid ((pairsL xs).length ≤ 1024) := pairsL_len xs
      go_enter Try.func7, Try.ntmps7
      have F0 := trivial
      go_wp2_with (first
        | (go_at_call 9; clear F0; have C := shown_any w; refine C.mono ?_; clear C; rintro e w1 ⟨rfl, hb1⟩; have B1 := hb1; have F1 := trivial)
        | (go_at_call 35; clear F1; have C := New_l w1 (xs.length : Int); refine C.mono ?_; clear C; rintro e w2 ⟨p2, c2, rfl, h2, hb2⟩; have B2 := Below.thru B1 hb2 (Nat.le_refl _); have F2 := trivial)
        | (go_at_call 15; clear F2; have C := Pairs_l _ _ _ w2 (Sl.keep ha B2); refine C.mono ?_; clear C; rintro e w3 ⟨p3, c3, rfl, h3, hb3⟩; have B3 := Below.thru B2 hb3 (Nat.le_refl _); have F3 := trivial))
      have hr := (h2.keep hb3)
      have hL := h3
      have hA := Sl.keep ha B3
      obtain ⟨l, hl⟩ : ∃ l, l = pairsL xs := ⟨_, rfl⟩
      have HL : Hid _ := hl
      rw [← hl] at hL HND HIN HLEN
      simp only [← hl]
      rw [HNEW.out] at hr
      simp only [HNEW.out]
      clear hl h2 h3 hb1 hb2 hb3
      have h1024 := HLEN.out
      go_loopw [8, 10] (fun a j wr => ∃ (m : Nat), m ≤ l.length ∧ j = .int .i64 m ∧ Sl U32E wr a (ofL (szR xs) (l.take m)) ∧ Below w3.heap.size w3 wr) (fun _ j _ => l.length - (intOf j).toNat)
      case atStart => exact ⟨0, Nat.zero_le _, rfl, hr, Below.refl _ _⟩
      case round =>
        obtain ⟨m, hm, rfl, hS, hBr⟩ := hrel
        obtain ⟨pr, cr, rfl⟩ := hS.len
        by_cases hlt : m < l.length
        · have hlt' : (m : Int) < (l.length : Int) := by omega
          obtain ⟨lb, lo, rfl, hc1, hc2⟩ := (pair_at (hL.keep hBr)).2 m hlt
          obtain ⟨hx, hy⟩ := HIN.out _ (List.getElem_mem hlt)
          have htk := take_snoc hlt
          have hfr := take_fresh HND.out hlt
          generalize l[m] = xy at *
          obtain ⟨x, y⟩ := xy
          simp only at hx hy hc1 hc2 hfr
          have hz1 := cell_lt hc1
          have C1 := fun q : Ext wr => Has_any _ _ _ (x : Int) (y : Int) q.wd (hS.keep q.ok)
          rw [ofL_has (szR_le xs) _ hx hy, hfr] at C1
          have C1 : Hid _ := C1
          have C2 := fun (w' : World) (h : Below wr.heap.size wr w') => Put_l _ _ _ w' (hS.keep h) (x : Int) (y : Int)
          rw [ofL_put (szR_le xs) _ hx hy, ← htk] at C2
          have C2 : Hid _ := C2
          clear htk hfr hx hy
          have hne : ∀ w, Nonempty (Ext w) := ext_some
          go_wp2
          refine wp_region_ext (by kernel_rfl) (by kernel_rfl) ?_
          repeat (go_big_quiet_step (first | (go_at_call 10; exact calls_ext (C1.out _))))
          refine wpQuiet_nil ?_
          rintro _ ⟨rr, rfl⟩
          obtain ⟨w5, hb5⟩ := rr
          simp only at *
          have hc15 := cell_keep hc1 hb5
          have hc25 := cell_keep hc2 hb5
          have hz5 := cell_lt hc15
          have C3 := C2.out w5.drew (Below.drew hb5)
          go_wp2
          refine wp_region_mix [([0, 1, 2, 3, 4, 5, 6, 7, 8, 9, 10], 11)] [12] (by kernel_rfl) (by kernel_rfl) (fun _ _ d _ _ h => by cases d <;> exact h) ?_
          dsimp only [List.map, opAt]
          refine wpMix_stage ?_
          repeat (go_big_quiet_step (fail))
          refine wpQuiet_nil ?_
          go_wp2_with (go_at_call 18; refine C3.mono ?_; rintro e w6 ⟨p6, c6, rfl, hS6, hb6⟩)
          have hD6 : Below w5.heap.size w5 w6 := ((Below.refl w5.heap.size w5).drew).trans hb6
          refine ⟨hD6, ?_⟩
          refine wpMix_last ?_
          repeat (go_big_quiet_step (fail))
          refine wpQuiet_nil ?_
          go_wp2
          go_roundw
          case rel => exact ⟨m + 1, by omega, by go_num, hS6, Below.thru (Below.thru hBr hb5 (Nat.le_refl _)) hD6 (Nat.le_refl _)⟩
          case measure => simp [intOf]; omega
        · have hlt' : ¬ (m : Int) < (l.length : Int) := by omega
          have e : m = l.length := by omega
          obtain ⟨w4, rfl⟩ : ∃ x : World, x = wr := ⟨_, rfl⟩
          have ha4 := hA.keep hBr
          have B4 := Below.thru B3 hBr (Nat.le_refl _)
          have HS : Hid (cleanR (ofL (szR xs) (l.take m)) = cleanR xs) := by
            rw [e, List.take_length, HL.out]; exact ofL_all xs
          have hS4 := hS
          have HN : Hid _ := new_pairs (xs.length : Int)
          have hxl : i % xs.length < xs.length := Nat.mod_lt _ (by omega)
          have hyl : k % xs.length < xs.length := Nat.mod_lt _ (by omega)
          have hxe : (i : Int) % (xs.length : Int) = ((i % xs.length : Nat) : Int) := by omega
          have hye : (k : Int) % (xs.length : Int) = ((k % xs.length : Nat) : Int) := by omega
          generalize i % xs.length = x at *
          generalize k % xs.length = y at *
          have hxs : x < szR xs := by rw [HSZ.out]; exact hxl
          have hys : y < szR xs := by rw [HSZ.out]; exact hyl
          have HQ : Hid _ := put_yes hxs hys
          clear hm e hBr hS hL hA hr B3
          cases hh : hasR xs x y with
          | true =>
            have HH : Hid (hasI xs (x : Int) (y : Int) = true) := by rw [hasI_nat]; exact hh
            have hp : (pairsL (putL xs (x : Int) (y : Int))).length = l.length := by rw [HL.out]; exact put_old hxs hys hh
            have HP : Hid _ := hp
            clear hp hh hxs hys
            have G0 := trivial
            go_wp2_with (first
              | (go_at_call 10; clear G0; have C := Has_any _ _ _ (x : Int) (y : Int) w4 ha4; rw [HH.out] at C; refine C.mono ?_; clear C; rintro e v1 ⟨rfl, hv1⟩; have D1 := hv1; have G1 := trivial)
              | (go_at_call 34; clear G1; have C := Same_t _ _ _ _ _ _ v1 (Sl.keep hS4 D1) (Sl.keep ha4 D1) HS.out; refine C.mono ?_; clear C; rintro e v2 ⟨rfl, hv2⟩; have D2 := Below.thru D1 hv2 (Nat.le_refl _); have G2 := trivial)
              | (go_at_call 35; clear G2; have C := New_l v2 (xs.length : Int); refine C.mono ?_; clear C; rintro e v3 ⟨pv3, cv3, rfl, g3, hv3⟩; have D3 := Below.thru D2 hv3 (Nat.le_refl _); have G3 := trivial)
              | (go_at_call 15; clear G3; have C := Pairs_l _ _ _ v3 g3; rw [HN.out] at C; refine C.mono ?_; clear C; rintro e w4 ⟨pv4, cv4, rfl, g4, hv4⟩; have D4 := Below.thru D3 hv4 (Nat.le_refl _); have G4 := trivial)
              | (go_at_call 18; clear G4; have C := Put_l _ _ _ w4 (Sl.keep ha4 D4) (x : Int) (y : Int); refine C.mono ?_; clear C; rintro e v5 ⟨pv5, cv5, rfl, g5, hv5⟩; have D5 := Below.thru D4 hv5 (Nat.le_refl _); have G5 := trivial)
              | (go_at_call 15; clear G5; have C := Pairs_l _ _ _ v5 g5; rw [HP.out] at C; refine C.mono ?_; clear C; rintro e v6 ⟨pv6, cv6, rfl, g6, hv6⟩; have D6 := Below.thru D5 hv6 (Nat.le_refl _); have G6 := trivial)
              | (go_at_call 18; clear G6; have C := Put_l _ _ _ v6 (Sl.keep ha4 D6) (x : Int) (y : Int); refine C.mono ?_; clear C; rintro e v7 ⟨pv7, cv7, rfl, g7, hv7⟩; have D7 := Below.thru D6 hv7 (Nat.le_refl _); have G7 := trivial)
              | (go_at_call 10; clear G7; have C := Has_any _ _ _ (x : Int) (y : Int) v7 g7; rw [HQ.out] at C; refine C.mono ?_; clear C; rintro e v8 ⟨rfl, hv8⟩; have D8 := Below.thru D7 hv8 (Nat.le_refl _); have G8 := trivial))
            go_ret
            exact ⟨rfl, Below.thru B4 D8 (Nat.le_refl _)⟩
          | false =>
            have HH : Hid (hasI xs (x : Int) (y : Int) = false) := by rw [hasI_nat]; exact hh
            have hp : (pairsL (putL xs (x : Int) (y : Int))).length = l.length + 1 := by rw [HL.out]; exact put_new hxs hys hh
            have HP : Hid _ := hp
            clear hp hh hxs hys
            have G0 := trivial
            go_wp2_with (first
              | (go_at_call 10; clear G0; have C := Has_any _ _ _ (x : Int) (y : Int) w4 ha4; rw [HH.out] at C; refine C.mono ?_; clear C; rintro e v1 ⟨rfl, hv1⟩; have D1 := hv1; have G1 := trivial)
              | (go_at_call 34; clear G1; have C := Same_t _ _ _ _ _ _ v1 (Sl.keep hS4 D1) (Sl.keep ha4 D1) HS.out; refine C.mono ?_; clear C; rintro e v2 ⟨rfl, hv2⟩; have D2 := Below.thru D1 hv2 (Nat.le_refl _); have G2 := trivial)
              | (go_at_call 35; clear G2; have C := New_l v2 (xs.length : Int); refine C.mono ?_; clear C; rintro e v3 ⟨pv3, cv3, rfl, g3, hv3⟩; have D3 := Below.thru D2 hv3 (Nat.le_refl _); have G3 := trivial)
              | (go_at_call 15; clear G3; have C := Pairs_l _ _ _ v3 g3; rw [HN.out] at C; refine C.mono ?_; clear C; rintro e w4 ⟨pv4, cv4, rfl, g4, hv4⟩; have D4 := Below.thru D3 hv4 (Nat.le_refl _); have G4 := trivial)
              | (go_at_call 18; clear G4; have C := Put_l _ _ _ w4 (Sl.keep ha4 D4) (x : Int) (y : Int); refine C.mono ?_; clear C; rintro e v5 ⟨pv5, cv5, rfl, g5, hv5⟩; have D5 := Below.thru D4 hv5 (Nat.le_refl _); have G5 := trivial)
              | (go_at_call 15; clear G5; have C := Pairs_l _ _ _ v5 g5; rw [HP.out] at C; refine C.mono ?_; clear C; rintro e v6 ⟨pv6, cv6, rfl, g6, hv6⟩; have D6 := Below.thru D5 hv6 (Nat.le_refl _); have G6 := trivial)
              | (go_at_call 18; clear G6; have C := Put_l _ _ _ v6 (Sl.keep ha4 D6) (x : Int) (y : Int); refine C.mono ?_; clear C; rintro e v7 ⟨pv7, cv7, rfl, g7, hv7⟩; have D7 := Below.thru D6 hv7 (Nat.le_refl _); have G7 := trivial)
              | (go_at_call 10; clear G7; have C := Has_any _ _ _ (x : Int) (y : Int) v7 g7; rw [HQ.out] at C; refine C.mono ?_; clear C; rintro e v8 ⟨rfl, hv8⟩; have D8 := Below.thru D7 hv8 (Nat.le_refl _); have G8 := trivial))
            go_ret
            exact ⟨rfl, Below.thru B4 D8 (Nat.le_refl _)⟩
end Go.Proofs.Ytjngpdamkdgkkaa
