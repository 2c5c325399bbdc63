/- Contract of the document's All. Printed by tools/gen/src_ref_all.py. -/
import Derived.Test.YtgffeihfcmbobaaSrcRefCho
import Derived.Test.YtgffeihfcmbobaaMixT
namespace Go.Proofs.Ytgffeihfcmbobaa
open Go.RowKit
attribute [local go_sem] Ext.cell Ext.frozen

theorem stepL_len {α : Type} (W : List (List α)) (c : List α) : (stepL W c).length = W.length * c.length := by
  unfold stepL
  induction W with
  | nil => simp
  | cons x W ih => rw [List.flatMap_cons, List.length_append, ih, List.length_map, List.length_cons, Nat.succ_mul, Nat.add_comm]
theorem ways_at {a : List (List Int)} {k : Nat} {q : List Int} (h : q ∈ waysL (a.take k)) : q.length ≤ a.length := by
  rw [(mem_waysL.1 h).1, List.length_take]
  exact Nat.min_le_right _ _

set_option maxRecDepth 20000 in
set_option maxHeartbeats 16000000 in
theorem refAll_any (v : Value) (r : Nat → Value) (q pi : Option Addr) (c ci : Nat) (l : List Ev) (init : List Int) (w : World) (hv : v = .slice q l.length c) (hl : Sl EvE w (.slice q l.length c) l) (hi : Sl IntE w (.slice pi init.length ci) init) (hn : l.length ≤ 1000) :
    Calls Try.prog 17 #[exV v r, .slice pi init.length ci] w fun e w' => ∃ u, e = .returned u ∧ SlA (fun k => w.heap.size ≤ k) (SlE IntE) w' u (srcZ l init) ∧ Below w.heap.size w w' := by
  subst hv
  obtain ⟨w1, hw1⟩ : ∃ w1, w.alloc (.cells #[.slice q l.length c, r 1, r 2, r 3, r 4, r 5, r 6] 33) = w1 := ⟨_, rfl⟩
  have k1 : Blk w1 w.heap.size #[.slice q l.length c, r 1, r 2, r 3, r 4, r 5, r 6] 33 := by rw [← hw1]; exact Blk.new
  have b1 : Below w.heap.size w w1 := by rw [← hw1]; exact below_new _ _
  obtain ⟨c0, c1, c2, c3, c4, c5, c6⟩ := ex_cells k1
  have lc := k1.lt
  have hCh := refChoices_any (.slice q l.length c) r q pi c ci l init w1 rfl (hl.keep b1) (hi.keep b1) hn
  unfold exV at *
  have hCl := choZ_len l init
  have hCx : ∀ c ∈ choZ l init, c.length ≤ l.length + 1 := fun c hc => by
    obtain ⟨x, _, hx⟩ := List.mem_map.1 hc
    rw [← hx]
    unfold choE
    split
    · exact mayE_len l init x
    · simp
  have hmany := fun k (h : 20000 < prodN ((choZ l init).take k)) => srcZ_many h
  have hsrc : prodN (choZ l init) ≤ 20000 → srcZ l init = waysL (choZ l init) := fun h => by unfold srcZ; rw [if_neg (by omega)]
  generalize choZ l init = C at *
  have hC1 : C.length ≤ 1000 := by omega
  have HCX : Hid _ := hCx
  have HMANY : Hid _ := hmany
  have HSRC : Hid _ := hsrc
  have HCH : Hid (Calls _ _ _ _ _) := hCh
  have hnl : ∀ k (h : k < C.length), C[k].length ≤ 1001 := fun k h => Nat.le_trans (hCx _ (List.getElem_mem h)) (by omega)
  have HNL : Hid _ := hnl
  obtain ⟨ir, j1, j2, j3, j4⟩ := info_intsS
  have J1 : Hid _ := j1
  have J2 : Hid _ := j2
  have J3 : Hid _ := j3
  have J4 : Hid _ := j4
  obtain ⟨it, zt, i1, i2, i3, i4, i5⟩ := cl_get (show ((Try.prog.info? 3).map fun i => (i.zero.map (·.cells.size), i.size, i.bytes)) = some (some 1, 1, 8) by kernel_rfl)
  have K1 : Hid _ := i1
  have K2 : Hid _ := i2
  have K3 : Hid _ := i3
  have K4 : Hid _ := i4
  have K5 : Hid _ := i5
  clear j1 j2 j3 j4 i1 i2 i3 i4 i5 hCx hmany hsrc hCh hnl hCl
  have F1 := trivial
  have hne : ∀ w, Nonempty (Ext w) := ext_some
  go_enter Try.func17, Try.ntmps17
  go_wp2_with (go_at_call 29; clear F1; refine HCH.out.mono ?_; rintro e w2 ⟨vc, rfl, hC, hb2⟩; obtain ⟨pc, cc, rfl⟩ := hC.len; have B2 := Below.thru b1 hb2 (Nat.le_refl _); have hz1 := b1.size; have hz2 := B2.size; have F2 := trivial)
  clear c0 c1 c2 c3 c4 c5 c6 HCH lc hw1
  go_loopw [6, 7] (fun m i wr => ∃ k : Nat, k ≤ C.length ∧ i = .int .i64 k ∧ m = .int .i64 (prodN (C.take k) : Nat) ∧ (∀ j, j ≤ k → prodN (C.take j) ≤ 20000) ∧ Below w2.heap.size w2 wr) (fun _ i _ => C.length - (Go.RowKit.intOf i).toNat)
  case atStart => exact ⟨0, Nat.zero_le _, rfl, rfl, fun j hj => by obtain rfl : j = 0 := Nat.le_zero.1 hj; rw [List.take_zero]; decide, Below.refl _ _⟩
  case round =>
    obtain ⟨k, hk, rfl, rfl, hle, hbr⟩ := hrel
    have HLE : Hid _ := hle
    have h20 := hle k (Nat.le_refl _)
    clear hle
    have Br := Below.thru B2 hbr (Nat.le_refl _)
    by_cases hlt : k < C.length
    · have hlt' : (k : Int) < (C.length : Int) := by omega
      obtain ⟨cb, co, rfl, vk, g0, hk0⟩ := (sl_at (hC.keep hbr)).2 k hlt
      have hnx := prodN_next (List.getElem?_eq_getElem hlt)
      have hcl := HNL.out k hlt
      generalize C[k] = ch at *
      obtain ⟨pk, ck, rfl⟩ := hk0.len
      have lg := cell_lt g0
      obtain ⟨M, hM⟩ : ∃ M, prodN (C.take k) * ch.length = M := ⟨_, rfl⟩
      rw [hM] at hnx
      have HNX : Hid _ := hnx
      have hMI : (prodN (C.take k) : Int) * (ch.length : Int) = (M : Int) := by rw [← hM]; simp
      have hMb : M ≤ 20020000 := by
        have h1 : prodN (C.take k) * ch.length ≤ 20000 * 1001 := Nat.mul_le_mul h20 hcl
        omega
      clear hnx hM
      generalize prodN (C.take k) = F at *
      by_cases hbig : 20000 < M
      · have hbig' : (20000 : Int) < (M : Int) := by omega
        have HZ : Hid _ := HMANY.out (k + 1) (by rw [HNX.out]; exact hbig)
        go_wp2
        go_ret
        exact ⟨_, rfl, by rw [HZ.out]; exact SlA.nil, Br⟩
      · have hbig' : ¬ (20000 : Int) < (M : Int) := by omega
        go_wp2
        go_roundw
        case rel => exact ⟨k + 1, by omega, by go_num, by rw [HNX.out], fun j hj => by
          rcases Nat.lt_or_ge k j with h | h
          · obtain rfl : j = k + 1 := by omega
            rw [HNX.out]; omega
          · exact HLE.out j h, hbr⟩
        case measure => simp [Go.RowKit.intOf]; omega
    · have e : k = C.length := by omega
      subst e
      have h20c : prodN C ≤ 20000 := by rw [List.take_length] at h20; exact h20
      have HZ : Hid _ := HSRC.out h20c
      clear HMANY HSRC h20c
      generalize prodN (C.take C.length) = Q0 at *
      have b3 := below_new wr (.cells #[.slice none 0 0] 24)
      have k3 : Blk (wr.alloc (.cells #[.slice none 0 0] 24)) wr.heap.size #[.slice none 0 0] 24 := Blk.new
      have hz3 := Br.size
      have hW3 : SlA (fun b => w.heap.size ≤ b) (SlE IntE) (wr.alloc (.cells #[.slice none 0 0] 24)) (.slice (some ⟨wr.heap.size, 0, none⟩) 1 1) [[]] := sl_one hz3 (by rw [k3.cell 0]; rfl) SlA.nil (Nat.le_refl _)
      have B3 := Below.thru Br b3 (Nat.le_refl _)
      have b23 := Below.thru hbr b3 (Nat.le_refl _)
      go_wp2
      generalize wr.alloc (.cells #[.slice none 0 0] 24) = w3 at *
      have hC3 := hC.keep b23
      clear hbr b3 k3 hC
      go_loopw [8, 9] (fun a i wr => ∃ (k : Nat) (W : List (List Int)), k ≤ C.length ∧ i = .int .i64 k ∧ SlA (fun b => w.heap.size ≤ b) (SlE IntE) wr a W ∧ W = waysL (C.take k) ∧ Below w3.heap.size w3 wr) (fun _ i _ => C.length - (Go.RowKit.intOf i).toNat)
      case atStart => exact ⟨0, [[]], Nat.zero_le _, rfl, hW3, rfl, Below.refl _ _⟩
      case round =>
        clear hW3
        obtain ⟨k, W, hk, rfl, hW, hWE, hbr⟩ := hrel
        have hWl : W.length ≤ 20000 := by rw [hWE, waysL_len]; exact HLE.out k (by omega)
        have hWq : ∀ q ∈ W, q.length ≤ 1000 := fun q hq => by rw [hWE] at hq; exact Nat.le_trans (ways_at hq) hC1
        have HWE : Hid _ := hWE
        have HQ : Hid _ := hWq
        clear hWE hWq
        obtain ⟨pW, cW, rfl⟩ := hW.len
        have Br4 := Below.thru B3 hbr (Nat.le_refl _)
        by_cases hlt : k < C.length
        · have hlt' : (k : Int) < (C.length : Int) := by omega
          obtain ⟨cb, co, rfl, vk, g0, hk0⟩ := (sl_at (hC3.keep hbr)).2 k hlt
          have hnx := waysL_next (List.getElem?_eq_getElem hlt)
          rw [← HWE.out] at hnx
          have h20n := HLE.out (k + 1) (by omega)
          rw [← waysL_len, hnx, stepL_len] at h20n
          have hLc := HNL.out k hlt
          generalize C[k] = L at *
          obtain ⟨pL, cL, rfl⟩ := hk0.len
          have lg := cell_lt g0
          have HNX : Hid _ := hnx
          clear hnx
          go_wp2
          obtain ⟨w4, hw4⟩ : ∃ x : World, x = wr := ⟨_, rfl⟩
          subst hw4
          have hW4 := SlA.lt hW
          have hz4 := Br4.size
          have hL4 : SlA (fun k => k < w4.heap.size) IntE w4 (.slice pL L.length cL) L := SlA.mono (fun b hb => hb.2) (SlA.lt hk0)
          have HML : Hid _ := h20n
          clear h20n hk0
          go_loopw [10, 11] (fun a i wr => ∃ (m : Nat) (N : List (List Int)), m ≤ W.length ∧ i = .int .i64 m ∧ Own (fun k => w.heap.size ≤ k) (SlE IntE) wr w4.heap.size 24 a N ∧ N = stepL (W.take m) L ∧ Below w4.heap.size w4 wr) (fun _ i _ => W.length - (Go.RowKit.intOf i).toNat)
          case atStart => exact ⟨0, [], Nat.zero_le _, rfl, Own.nil, rfl, Below.refl _ _⟩
          case round =>
            obtain ⟨m, N0, hm, rfl, hN0, hNE0, hbr2⟩ := hrel
            have HN0 : Hid _ := hNE0
            clear hNE0
            by_cases hml : m < W.length
            · have hml' : (m : Int) < (W.length : Int) := by omega
              have hQm := HQ.out _ (List.getElem_mem hml)
              have hsw := stepL_next (W := W) (c := L) (List.getElem?_eq_getElem hml)
              obtain ⟨bq, oq, rfl, vq, g1, hq⟩ := (sl_at hW4).2 m hml
              generalize W[m] = q at hQm hsw hq
              obtain ⟨pq, cq, rfl⟩ := hq.len
              have HSW : Hid _ := hsw
              have hml1 : (m + 1) * L.length ≤ W.length * L.length := Nat.mul_le_mul_right _ hml
              have hstl : (stepL (W.take m) L).length = m * L.length := by rw [stepL_len, List.length_take, Nat.min_eq_left hm]
              have HSTL : Hid _ := hstl
              have HML1 : Hid _ := hml1
              clear hsw hstl hml1
              obtain ⟨p0, c0, rfl⟩ := hN0.len
              go_wp2
              go_loopw [10, 12] (fun a i wr => ∃ (j : Nat) (N : List (List Int)), j ≤ L.length ∧ i = .int .i64 j ∧ Own (fun k => w.heap.size ≤ k) (SlE IntE) wr w4.heap.size 24 a N ∧ N = stepL (W.take m) L ++ (L.take j).map (fun x => q ++ [x]) ∧ Below w4.heap.size w4 wr) (fun _ i _ => L.length - (Go.RowKit.intOf i).toNat)
              case atStart => exact ⟨0, N0, Nat.zero_le _, rfl, hN0, by rw [HN0.out]; simp, hbr2⟩
              case round =>
                clear hN0 hbr2
                obtain ⟨j, N, hj, rfl, hN, hNE, hbr⟩ := hrel
                have HNE : Hid _ := hNE
                clear hNE
                obtain ⟨pN, cN, rfl⟩ := hN.len
                have gC := cell_keep g0 hbr
                have lC := cell_lt gC
                by_cases hjl : j < L.length
                · have hNl : N.length ≤ 20000 := by
                    have h1 := HSTL.out
                    have h2 := HML1.out
                    have h3 := congrArg List.length HNE.out
                    have h4 := HML.out
                    rw [List.length_append, List.length_map, List.length_take, Nat.min_eq_left hj, h1] at h3
                    rw [Nat.succ_mul] at h2
                    omega
                  have hmt := map_takeS (f := fun x => q ++ [x]) (List.getElem?_eq_getElem hjl)
                  obtain ⟨bs, os, rfl, hat⟩ := (ints_at hL4).2 j hjl
                  generalize L[j] = s at hmt hat
                  have HMT : Hid _ := hmt
                  clear hmt
                  have hqr := hq.keep hbr
                  have gq := cell_keep g1 hbr
                  have gs := cell_keep hat hbr
                  have lq := cell_lt gq
                  have ls := cell_lt gs
                  have hs4 := hbr.size
                  have hjl' : (j : Int) < (L.length : Int) := by omega
                  go_wp2
                  refine wp_region_tree [17] 19 (by kernel_rfl) (by rfl) ?_
                  refine MT.seg0 (by kernel_rfl) (fun _ _ d _ _ h => by cases d <;> exact h) [0, 2, 3, 4, 5, 7, 8, 9, 10, 11, 12, 13] 7 (by kernel_rfl) ?_
                  dsimp only [List.map, opAt]
                  repeat (go_big_quiet_step (fail))
                  refine wpQuiet_nil ?_
                  refine MT.two 1 14 false false (by kernel_rfl) ?_ ?_
                  · dsimp only [opAt]
                    go_wp2
                    have b1 : Below wr.heap.size wr (wr.alloc (.cells #[] 3)).drew := ((Below.refl _ _).alloc (Nat.le_refl _) _).drew
                    have kg : Blk (wr.alloc (.cells #[] 3)).drew wr.heap.size #[] 3 := Blk.drew Blk.new
                    refine ⟨.inr b1, ?_⟩
                    generalize (wr.alloc (.cells #[] 3)).drew = w1 at *
                    refine MT.two 6 14 false false (by kernel_rfl) ?_ ?_
                    · dsimp only [opAt]
                      go_wp2_with (at_builtin; refine wpList_app (R := IntE) (A := fun k => w.heap.size ≤ k ∧ k < w4.heap.size) (B := fun k => w.heap.size ≤ k ∧ k < w4.heap.size) (xs := []) (ys := q) (by rfl) (.tmp 54) (.tmp 58) 24 3 it zt 8 (by rfl) Try.underlying24 K1.out K2.out K4.out K5.out K3.out wr.heap.size (.slice (some ⟨wr.heap.size, 0, none⟩) 0 0) (.slice pq q.length cq) (by rfl) (by rfl) (own_new (by omega) kg) (hqr.keep b1) (fun _ _ _ h => IntE.mono (fun k hk => ⟨hk, fun e => by simp [Value.ownBlock] at e; omega⟩) h) (by simp only [List.length_nil]; omega) (by decide) (by have := b1.size; omega) ?_; intro p6 c6 wA hO hg _; simp only [List.nil_append] at hO ⊢)
                      have bA : Below wr.heap.size wr wA := b1.grown hg b1.size (fun k hk => by simp [Value.ownBlock] at hk; omega)
                      refine ⟨.inr bA, ?_⟩
                      refine MT.one 14 false (by kernel_rfl) ?_
                      dsimp only [opAt]
                      go_wp2
                      have kx : Blk (wA.alloc (.cells #[.int .i64 s] 3)) wA.heap.size #[.int .i64 s] 3 := Blk.new
                      have bL : Below wr.heap.size wr (wA.alloc (.cells #[.int .i64 s] 3)) := bA.alloc bA.size _
                      replace hO := hO.keep (below_new wA (.cells #[.int .i64 s] 3))
                      refine ⟨.inr bL, ?_⟩
                      change MT _ _ _ _ _ _ _ _ _ (wA.alloc (.cells #[.int .i64 s] 3))
                      generalize (wA.alloc (.cells #[.int .i64 s] 3)) = wL at *
                      generalize wA.heap.size = gx at *
                      refine MT.one 15 false (by kernel_rfl) ?_
                      dsimp only [opAt]
                      go_wp2_with (at_builtin; refine wpList_appO (R := IntE) (A := fun k => w.heap.size ≤ k ∧ k < w4.heap.size) (xs := q) (ys := [s]) (by rfl) (.tmp 59) (.tmp 67) 24 3 it zt 8 (by rfl) Try.underlying24 K1.out K2.out K4.out K5.out K3.out wr.heap.size (.slice p6 q.length c6) (.slice (some ⟨gx, 0, none⟩) 1 1) (by rfl) (by rfl) hO (slO_single (cs := [.int .i64 s]) rfl (fun j u hu => by rw [Blk.cell kx]; simpa using hu) (Nat.le_refl _)) (by simp only [List.length_cons, List.length_nil]; omega) (by decide) bL.size ?_; intro p7 c7 w7 hO7 hg7 _)
                      have b7 : Below wr.heap.size wr w7 := bL.grown hg7 bL.size (fun k hk => (hO.lt k hk).1)
                      rw [show (q ++ [s]).length = q.length + 1 by simp] at hO7 ⊢
                      refine ⟨.inr b7, ?_⟩
                      refine MT.one 16 false (by kernel_rfl) ?_
                      dsimp only [opAt]
                      go_wp2
                      have b8 : Below wr.heap.size wr (w7.alloc (.cells #[.slice p7 (q.length + 1) c7] 24)) := b7.alloc b7.size _
                      have k8 : Blk (w7.alloc (.cells #[.slice p7 (q.length + 1) c7] 24)) w7.heap.size #[.slice p7 (q.length + 1) c7] 24 := Blk.new
                      have hO8 := hO7.keep (below_new w7 (.cells #[.slice p7 (q.length + 1) c7] 24))
                      generalize w7.alloc (.cells #[.slice p7 (q.length + 1) c7] 24) = w8 at *
                      generalize w7.heap.size = gz at *
                      refine ⟨.inr b8, ?_⟩
                      refine MT.one 17 true (by kernel_rfl) ?_
                      dsimp only [opAt]
                      have hN8 := hN.keep b8
                      go_wp2_with (at_builtin; refine wpList_appO (R := SlE IntE) (A := fun k => w.heap.size ≤ k) (xs := N) (ys := [q ++ [s]]) (by rfl) (.tmp 53) (.tmp 69) 39 24 ir (.slice none 0 0) 24 (by rfl) Try.underlying39 J1.out J2.out J3.out J4.out (by rfl) w4.heap.size (.slice pN N.length cN) (.slice (some ⟨gz, 0, none⟩) 1 1) (by rfl) (by rfl) hN8 (slO_one (l := q ++ [s]) (by rw [Blk.cell k8]; rfl) (hO8.sl.mono fun k hk => by rcases hk with hk | hk <;> exact ⟨by omega, fun e => by have := (hN.lt k e.symm); omega⟩) (Nat.le_refl _)) (by simp only [List.length_cons, List.length_nil]; omega) (by decide) (by have := b8.size; omega) ?_; intro p9 c9 w9 hO9 hg9 _)
                      have b9 : Below w4.heap.size w4 w9 := (Below.thru hbr b8 (Nat.le_refl _)).grown hg9 (by have := b8.size; omega) (fun k hk => (hN.lt k hk).1)
                      rw [show (N ++ [q ++ [s]]).length = N.length + 1 by simp] at hO9 ⊢
                      refine ⟨.inl (by trivial), ?_⟩
                      refine MT.one 18 true (by kernel_rfl) ?_
                      dsimp only [opAt]
                      go_wp2
                      refine ⟨.inl (by trivial), ?_⟩
                      refine MT.fin (by kernel_rfl) ?_
                      go_wp2
                      go_roundw
                      case rel => exact ⟨j + 1, N ++ [q ++ [s]], by omega, by go_num, hO9, by rw [HMT.out, ← List.append_assoc, ← HNE.out], b9⟩
                      case measure => simp [Go.RowKit.intOf]; omega
                    · dsimp only [opAt]
                      go_wp2
                      have kx0 : Blk (w1.alloc (.cells #[.int .i64 s] 3)) w1.heap.size #[.int .i64 s] 3 := Blk.new
                      have bx : Below wr.heap.size wr (w1.alloc (.cells #[.int .i64 s] 3)) := b1.alloc b1.size _
                      have kg1 := kg.alloc (.cells #[.int .i64 s] 3)
                      refine ⟨.inr bx, ?_⟩
                      change MT _ _ _ _ _ _ _ _ _ (w1.alloc (.cells #[.int .i64 s] 3))
                      generalize (w1.alloc (.cells #[.int .i64 s] 3)) = wx at *
                      generalize hgx : w1.heap.size = gx at *
                      have hgx0 : wr.heap.size < gx := by rw [← hgx]; exact kg.lt
                      clear hgx
                      refine MT.one 6 false (by kernel_rfl) ?_
                      dsimp only [opAt]
                      go_wp2_with (at_builtin; refine wpList_app (R := IntE) (A := fun k => w.heap.size ≤ k ∧ k < w4.heap.size) (B := fun k => w.heap.size ≤ k ∧ k < w4.heap.size) (xs := []) (ys := q) (by rfl) (.tmp 54) (.tmp 58) 24 3 it zt 8 (by rfl) Try.underlying24 K1.out K2.out K4.out K5.out K3.out wr.heap.size (.slice (some ⟨wr.heap.size, 0, none⟩) 0 0) (.slice pq q.length cq) (by rfl) (by rfl) (own_new (by omega) kg1) (hqr.keep bx) (fun _ _ _ h => IntE.mono (fun k hk => ⟨hk, fun e => by simp [Value.ownBlock] at e; omega⟩) h) (by simp only [List.length_nil]; omega) (by decide) (by have := bx.size; omega) ?_; intro p6 c6 wA hO hg _; simp only [List.nil_append] at hO ⊢)
                      have bA : Below wr.heap.size wr wA := bx.grown hg bx.size (fun k hk => by simp [Value.ownBlock] at hk; omega)
                      have kx : Blk wA gx #[.int .i64 s] 3 := kx0.grown hg (by simp [Value.ownBlock]; omega)
                      have bL := bA
                      generalize wA = wL at *
                      refine ⟨.inr bL, ?_⟩
                      refine MT.one 15 false (by kernel_rfl) ?_
                      dsimp only [opAt]
                      go_wp2_with (at_builtin; refine wpList_appO (R := IntE) (A := fun k => w.heap.size ≤ k ∧ k < w4.heap.size) (xs := q) (ys := [s]) (by rfl) (.tmp 59) (.tmp 67) 24 3 it zt 8 (by rfl) Try.underlying24 K1.out K2.out K4.out K5.out K3.out wr.heap.size (.slice p6 q.length c6) (.slice (some ⟨gx, 0, none⟩) 1 1) (by rfl) (by rfl) hO (slO_single (cs := [.int .i64 s]) rfl (fun j u hu => by rw [Blk.cell kx]; simpa using hu) (Nat.le_refl _)) (by simp only [List.length_cons, List.length_nil]; omega) (by decide) bL.size ?_; intro p7 c7 w7 hO7 hg7 _)
                      have b7 : Below wr.heap.size wr w7 := bL.grown hg7 bL.size (fun k hk => (hO.lt k hk).1)
                      rw [show (q ++ [s]).length = q.length + 1 by simp] at hO7 ⊢
                      refine ⟨.inr b7, ?_⟩
                      refine MT.one 16 false (by kernel_rfl) ?_
                      dsimp only [opAt]
                      go_wp2
                      have b8 : Below wr.heap.size wr (w7.alloc (.cells #[.slice p7 (q.length + 1) c7] 24)) := b7.alloc b7.size _
                      have k8 : Blk (w7.alloc (.cells #[.slice p7 (q.length + 1) c7] 24)) w7.heap.size #[.slice p7 (q.length + 1) c7] 24 := Blk.new
                      have hO8 := hO7.keep (below_new w7 (.cells #[.slice p7 (q.length + 1) c7] 24))
                      generalize w7.alloc (.cells #[.slice p7 (q.length + 1) c7] 24) = w8 at *
                      generalize w7.heap.size = gz at *
                      refine ⟨.inr b8, ?_⟩
                      refine MT.one 17 true (by kernel_rfl) ?_
                      dsimp only [opAt]
                      have hN8 := hN.keep b8
                      go_wp2_with (at_builtin; refine wpList_appO (R := SlE IntE) (A := fun k => w.heap.size ≤ k) (xs := N) (ys := [q ++ [s]]) (by rfl) (.tmp 53) (.tmp 69) 39 24 ir (.slice none 0 0) 24 (by rfl) Try.underlying39 J1.out J2.out J3.out J4.out (by rfl) w4.heap.size (.slice pN N.length cN) (.slice (some ⟨gz, 0, none⟩) 1 1) (by rfl) (by rfl) hN8 (slO_one (l := q ++ [s]) (by rw [Blk.cell k8]; rfl) (hO8.sl.mono fun k hk => by rcases hk with hk | hk <;> exact ⟨by omega, fun e => by have := (hN.lt k e.symm); omega⟩) (Nat.le_refl _)) (by simp only [List.length_cons, List.length_nil]; omega) (by decide) (by have := b8.size; omega) ?_; intro p9 c9 w9 hO9 hg9 _)
                      have b9 : Below w4.heap.size w4 w9 := (Below.thru hbr b8 (Nat.le_refl _)).grown hg9 (by have := b8.size; omega) (fun k hk => (hN.lt k hk).1)
                      rw [show (N ++ [q ++ [s]]).length = N.length + 1 by simp] at hO9 ⊢
                      refine ⟨.inl (by trivial), ?_⟩
                      refine MT.one 18 true (by kernel_rfl) ?_
                      dsimp only [opAt]
                      go_wp2
                      refine ⟨.inl (by trivial), ?_⟩
                      refine MT.fin (by kernel_rfl) ?_
                      go_wp2
                      go_roundw
                      case rel => exact ⟨j + 1, N ++ [q ++ [s]], by omega, by go_num, hO9, by rw [HMT.out, ← List.append_assoc, ← HNE.out], b9⟩
                      case measure => simp [Go.RowKit.intOf]; omega
                  · dsimp only [opAt]
                    go_wp2
                    have bx : Below wr.heap.size wr (wr.alloc (.cells #[.int .i64 s] 3)).drew := ((Below.refl _ _).alloc (Nat.le_refl _) _).drew
                    have kx0 : Blk (wr.alloc (.cells #[.int .i64 s] 3)).drew wr.heap.size #[.int .i64 s] 3 := Blk.drew Blk.new
                    refine ⟨.inr bx, ?_⟩
                    change MT _ _ _ _ _ _ _ _ _ (wr.alloc (.cells #[.int .i64 s] 3)).drew
                    generalize (wr.alloc (.cells #[.int .i64 s] 3)).drew = wx at *
                    refine MT.one 1 false (by kernel_rfl) ?_
                    dsimp only [opAt]
                    go_wp2
                    have b1 : Below wr.heap.size wr (wx.alloc (.cells #[] 3)) := bx.alloc bx.size _
                    have kg : Blk (wx.alloc (.cells #[] 3)) wx.heap.size #[] 3 := Blk.new
                    have kx1 := kx0.alloc (.cells #[] 3)
                    generalize hge : wx.heap.size = ge at *
                    have hge0 : wr.heap.size < ge := by rw [← hge]; exact kx0.lt
                    generalize (wx.alloc (.cells #[] 3)) = w1 at *
                    clear hge
                    refine ⟨.inr b1, ?_⟩
                    refine MT.one 6 false (by kernel_rfl) ?_
                    dsimp only [opAt]
                    go_wp2_with (at_builtin; refine wpList_app (R := IntE) (A := fun k => w.heap.size ≤ k ∧ k < w4.heap.size) (B := fun k => w.heap.size ≤ k ∧ k < w4.heap.size) (xs := []) (ys := q) (by rfl) (.tmp 54) (.tmp 58) 24 3 it zt 8 (by rfl) Try.underlying24 K1.out K2.out K4.out K5.out K3.out wr.heap.size (.slice (some ⟨ge, 0, none⟩) 0 0) (.slice pq q.length cq) (by rfl) (by rfl) (own_new (by omega) kg) (hqr.keep b1) (fun _ _ _ h => IntE.mono (fun k hk => ⟨hk, fun e => by simp [Value.ownBlock] at e; omega⟩) h) (by simp only [List.length_nil]; omega) (by decide) (by have := b1.size; omega) ?_; intro p6 c6 wA hO hg _; simp only [List.nil_append] at hO ⊢)
                    have bA : Below wr.heap.size wr wA := b1.grown hg b1.size (fun k hk => by simp [Value.ownBlock] at hk; omega)
                    have kx : Blk wA wr.heap.size #[.int .i64 s] 3 := kx1.grown hg (by simp [Value.ownBlock]; omega)
                    have bL := bA
                    generalize wA = wL at *
                    refine ⟨.inr bL, ?_⟩
                    refine MT.one 15 false (by kernel_rfl) ?_
                    dsimp only [opAt]
                    go_wp2_with (at_builtin; refine wpList_appO (R := IntE) (A := fun k => w.heap.size ≤ k ∧ k < w4.heap.size) (xs := q) (ys := [s]) (by rfl) (.tmp 59) (.tmp 67) 24 3 it zt 8 (by rfl) Try.underlying24 K1.out K2.out K4.out K5.out K3.out wr.heap.size (.slice p6 q.length c6) (.slice (some ⟨wr.heap.size, 0, none⟩) 1 1) (by rfl) (by rfl) hO (slO_single (cs := [.int .i64 s]) rfl (fun j u hu => by rw [Blk.cell kx]; simpa using hu) (Nat.le_refl _)) (by simp only [List.length_cons, List.length_nil]; omega) (by decide) bL.size ?_; intro p7 c7 w7 hO7 hg7 _)
                    have b7 : Below wr.heap.size wr w7 := bL.grown hg7 bL.size (fun k hk => (hO.lt k hk).1)
                    rw [show (q ++ [s]).length = q.length + 1 by simp] at hO7 ⊢
                    refine ⟨.inr b7, ?_⟩
                    refine MT.one 16 false (by kernel_rfl) ?_
                    dsimp only [opAt]
                    go_wp2
                    have b8 : Below wr.heap.size wr (w7.alloc (.cells #[.slice p7 (q.length + 1) c7] 24)) := b7.alloc b7.size _
                    have k8 : Blk (w7.alloc (.cells #[.slice p7 (q.length + 1) c7] 24)) w7.heap.size #[.slice p7 (q.length + 1) c7] 24 := Blk.new
                    have hO8 := hO7.keep (below_new w7 (.cells #[.slice p7 (q.length + 1) c7] 24))
                    generalize w7.alloc (.cells #[.slice p7 (q.length + 1) c7] 24) = w8 at *
                    generalize w7.heap.size = gz at *
                    refine ⟨.inr b8, ?_⟩
                    refine MT.one 17 true (by kernel_rfl) ?_
                    dsimp only [opAt]
                    have hN8 := hN.keep b8
                    go_wp2_with (at_builtin; refine wpList_appO (R := SlE IntE) (A := fun k => w.heap.size ≤ k) (xs := N) (ys := [q ++ [s]]) (by rfl) (.tmp 53) (.tmp 69) 39 24 ir (.slice none 0 0) 24 (by rfl) Try.underlying39 J1.out J2.out J3.out J4.out (by rfl) w4.heap.size (.slice pN N.length cN) (.slice (some ⟨gz, 0, none⟩) 1 1) (by rfl) (by rfl) hN8 (slO_one (l := q ++ [s]) (by rw [Blk.cell k8]; rfl) (hO8.sl.mono fun k hk => by rcases hk with hk | hk <;> exact ⟨by omega, fun e => by have := (hN.lt k e.symm); omega⟩) (Nat.le_refl _)) (by simp only [List.length_cons, List.length_nil]; omega) (by decide) (by have := b8.size; omega) ?_; intro p9 c9 w9 hO9 hg9 _)
                    have b9 : Below w4.heap.size w4 w9 := (Below.thru hbr b8 (Nat.le_refl _)).grown hg9 (by have := b8.size; omega) (fun k hk => (hN.lt k hk).1)
                    rw [show (N ++ [q ++ [s]]).length = N.length + 1 by simp] at hO9 ⊢
                    refine ⟨.inl (by trivial), ?_⟩
                    refine MT.one 18 true (by kernel_rfl) ?_
                    dsimp only [opAt]
                    go_wp2
                    refine ⟨.inl (by trivial), ?_⟩
                    refine MT.fin (by kernel_rfl) ?_
                    go_wp2
                    go_roundw
                    case rel => exact ⟨j + 1, N ++ [q ++ [s]], by omega, by go_num, hO9, by rw [HMT.out, ← List.append_assoc, ← HNE.out], b9⟩
                    case measure => simp [Go.RowKit.intOf]; omega
                · have e : L.take j = L := List.take_of_length_le (by omega)
                  have HE : Hid _ := e
                  clear e
                  have hjl' : ¬ (j : Int) < (L.length : Int) := by omega
                  go_wp2
                  go_roundw
                  case rel => exact ⟨m + 1, N, by omega, by go_num, hN, by rw [HSW.out, HNE.out, HE.out], hbr⟩
                  case measure => simp [Go.RowKit.intOf]; omega
            · have e : W.take m = W := List.take_of_length_le (by omega)
              have HE : Hid (N0 = stepL W L) := by have h := HN0.out; rw [e] at h; exact h
              clear e
              obtain ⟨p0, c0, rfl⟩ := hN0.len
              have hml' : ¬ (m : Int) < (W.length : Int) := by omega
              go_wp2
              go_roundw
              case rel => exact ⟨k + 1, N0, by omega, by go_num, hN0.sl.mono (fun b hb => by rcases hb with h | h <;> omega), by rw [HNX.out, HE.out], Below.thru hbr hbr2 (Nat.le_refl _)⟩
              case measure => simp [Go.RowKit.intOf]; omega
        · have e : C.take k = C := List.take_of_length_le (by omega)
          have HE : Hid (W = waysL C) := by have h := HWE.out; rw [e] at h; exact h
          clear e
          have hlt' : ¬ (k : Int) < (C.length : Int) := by omega
          go_wp2
          go_ret
          exact ⟨_, rfl, by rw [HZ.out, ← HE.out]; exact hW, Br4⟩
end Go.Proofs.Ytgffeihfcmbobaa
