/- Contract of the document's All, over that of its Join. -/
import Derived.Test.YtcalinfdckklfaaGreatDoorPk15
import Derived.Test.YtcalinfdckklfaaGreatDoorPk42
import Derived.Test.YtcalinfdckklfaaGreatDoorPk30
import Derived.Test.YtcalinfdckklfaaGreatDoorPk11
namespace Go.Proofs.YtcalinfdckklfaaGreatDoor
open Go.RowKit
attribute [local go_sem] Ext.cell Ext.frozen

/-- What Join does with traces that may be joined. -/
def JoinSaid : Prop := ∀ (p : Option Addr) (c : Nat) (l : List Tr) (w : World), Sl TgE w (.slice p l.length c) l → (∀ t ∈ l, Rng t) → totN l ≤ 24 → l.all fineT = true → l.length ≤ 100 →
  Calls Tryz.prog 8 #[.slice p l.length c] w fun e w' => ∃ r, e = .returned (.tuple #[.agg (exC r), .int .i64 0]) ∧ ExZ (fun k => w.heap.size ≤ k) w' r (joinE l) ∧ Below w.heap.size w w'

theorem way_rng {ts : List (List Ins)} {locs : Int} {v : List Int} {w : List St} (h : WayOk ts locs v w) : ∀ t ∈ w.map St.tr, Rng t := by
  intro t ht
  obtain ⟨th, a, b, rfl⟩ := way_runs h t ht
  exact run_sets th locs a b
theorem wayT_join (hJ : JoinSaid) {ts : List (List Ins)} {locs : Int} {v : List Int} {W : List St} (h : WayOk ts locs v W) (h3 : ts.length ≤ 3) (p : Option Addr) (c : Nat) (w : World) (hl : Sl TrE w (.slice p W.length c) W) :
    Calls Tryz.prog 8 #[.slice p W.length c] w fun e w' => ∃ r, e = .returned (.tuple #[.agg (exC r), .int .i64 0]) ∧ ExZ (fun k => w.heap.size ≤ k) w' r (joinZ (W.map St.tr)).1 ∧ Below w.heap.size w w' := by
  have hs := sl_tg hl
  rw [way_join h h3]
  have e : (W.map St.tr).length = W.length := by simp
  have := hJ p c (W.map St.tr) w (by rw [e]; exact hs) (way_rng h) (way_tot h h3) (way_fine h) (by rw [e, h.len]; omega)
  rw [e] at this
  exact this

theorem info_rts : ∃ i, Tryz.prog.info? 22 = some i ∧ i.zero = some (.slice none 0 0) ∧ i.size = 1 ∧ i.bytes = 24 := by
  have h : (Tryz.prog.info? 22).map (fun i => (i.zero, i.size, i.bytes)) = some (some (.slice none 0 0), 1, 24) := by kernel_rfl
  cases hi : Tryz.prog.info? 22 with
  | none => rw [hi] at h; cases h
  | some i =>
    rw [hi] at h
    simp only [Option.map_some, Option.some.injEq, Prod.mk.injEq] at h
    exact ⟨i, rfl, h.1, h.2.1, h.2.2⟩
theorem info_exec : ∃ i z, Tryz.prog.info? 47 = some i ∧ i.zero = some z ∧ z.cells.size = 7 ∧ i.size = 7 ∧ i.bytes = 168 := by
  have h : (Tryz.prog.info? 47).map (fun i => (i.zero.map (·.cells.size), i.size, i.bytes)) = some (some 7, 7, 168) := by kernel_rfl
  cases hi : Tryz.prog.info? 47 with
  | none => rw [hi] at h; cases h
  | some i =>
    rw [hi] at h
    simp only [Option.map_some, Option.some.injEq, Prod.mk.injEq] at h
    obtain ⟨h1, h2, h3⟩ := h
    cases hz : i.zero with
    | none => rw [hz] at h1; cases h1
    | some z =>
      rw [hz] at h1
      simp only [Option.map_some, Option.some.injEq] at h1
      exact ⟨i, z, rfl, hz, h1, h2, h3⟩
theorem waysZ_step {locs : Int} {v : List Int} {ts : List (List Ins)} {k : Nat} {th : List Ins} {W : List (List St)} (h : ts.drop k = th :: ts.drop (k + 1)) : waysZ locs v (ts.drop k) W = if 20000 < W.length * (tracesT th locs v).length then none else waysZ locs v (ts.drop (k + 1)) (stepW W (tracesT th locs v)) := by
  rw [h, waysZ]

set_option maxRecDepth 20000 in
set_option maxHeartbeats 32000000 in
theorem refAll_any (hJ : JoinSaid) (pi pt : Option Addr) (ci ct : Nat) (xs : List Int) (ts : List (List Ins)) (w : World) (hi : Sl IntE w (.slice pi xs.length ci) xs) (ht : Sl ThrE w (.slice pt ts.length ct) ts) (hM : sizeTs ts ≤ 1000000) :
    Calls Tryz.prog 19 #[.agg #[.slice pi xs.length ci, .slice pt ts.length ct]] w fun e w' => ∃ u, e = .returned (.tuple #[u, .int .i64 (allZ xs ts).2]) ∧ SlA (fun k => w.heap.size ≤ k) ExE w' u (allZ xs ts).1 ∧ Below w.heap.size w w' := by
  have hb1 := below_new w (.cells #[.slice pi xs.length ci, .slice pt ts.length ct] 63)
  have k1 : Blk (w.alloc (.cells #[.slice pi xs.length ci, .slice pt ts.length ct] 63)) w.heap.size #[.slice pi xs.length ci, .slice pt ts.length ct] 63 := Blk.new
  have hO := fun W (hB : Below w.heap.size w W) => refOf_any pi pt ci ct xs ts W (hi.keep hB) (ht.keep hB) hM
  by_cases h0 : (ofZ xs ts).2 = 0
  · obtain ⟨f1, f2, f3, f4, f5, f6, f7, f8⟩ := check_facts (of_check h0).1
    have hv8 : (ofZ xs ts).1.length ≤ 8 := ofZ_len
    have hsome := fun W h => allZ_some (xs := xs) (ts := ts) (W := W) h0 h
    have hnone := allZ_none (xs := xs) (ts := ts) h0
    have hok := fun W q (h : waysZ xs.length (ofZ xs ts).1 ts [[]] = some W) (hq : q ∈ W) => waysZ_ok h hq
    rw [show ofZ xs ts = ((ofZ xs ts).1, 0) by rw [← h0]] at hO
    generalize hvv : (ofZ xs ts).1 = v at *
    have HO : Hid _ := hO
    have HS : Hid _ := hsome
    have HN : Hid _ := hnone
    have HK : Hid _ := hok
    have H7 : Hid _ := f7
    clear hO hsome hnone hok f7 h0 hvv f1 f5 f6 f8
    obtain ⟨it, zt, a1, a2, a3, a4, a5⟩ := info_rtrV
    have K1 : Hid _ := a1
    have K2 : Hid _ := a2
    have K3 : Hid _ := a3
    have K4 : Hid _ := a4
    have K5 : Hid _ := a5
    clear a1 a2 a3 a4 a5
    obtain ⟨ir, j1, j2, j3, j4⟩ := info_rts
    have J1 : Hid _ := j1
    have J2 : Hid _ := j2
    have J3 : Hid _ := j3
    have J4 : Hid _ := j4
    clear j1 j2 j3 j4
    obtain ⟨ix, zx, a1, a2, a3, a4, a5⟩ := info_exec
    have X1 : Hid _ := a1
    have X2 : Hid _ := a2
    have X3 : Hid _ := a3
    have X4 : Hid _ := a4
    have X5 : Hid _ := a5
    clear a1 a2 a3 a4 a5
    have hne : ∀ w, Nonempty (Ext w) := ext_some
    have F1 := trivial
    go_enter Tryz.func19, Tryz.ntmps19
    go_wp2_with (first
      | (go_at_call 47; clear F1; refine (HO.out _ hb1).mono ?_; rintro e w2 ⟨u2, rfl, hU2, hb2⟩; obtain ⟨pv, cv, rfl⟩ := hU2.len; have B2 := Below.thru hb1 hb2 (Nat.le_refl _); have k2 := k1.keep hb2; clear hb2; have F2 := trivial))
    have hb3 := below_new w2 (.cells #[.slice none 0 0] 22)
    have hW3 : SlA (fun k => w.heap.size ≤ k) (SlE TrE) (w2.alloc (.cells #[.slice none 0 0] 22)) (.slice (some ⟨w2.heap.size, 0, none⟩) 1 1) [[]] := sl_one B2.size (by rw [Blk.cell Blk.new]; rfl) SlA.nil (Nat.le_refl _)
    have k3 := k2.keep hb3
    have hU3 := hU2.keep hb3
    have B3 := Below.thru B2 hb3 (Nat.le_refl _)
    generalize w2.alloc (.cells #[.slice none 0 0] 22) = w3 at *
    clear hU2 k2 hb3 B2
    go_loopw [6, 7] (fun a i wr => ∃ (k : Nat) (W : List (List St)), k ≤ ts.length ∧ i = .int .i64 k ∧ SlA (fun k => w.heap.size ≤ k) (SlE TrE) wr a W ∧ W.length ≤ 20000 ∧ (∀ q ∈ W, q.length ≤ k) ∧ waysZ xs.length v (ts.drop k) W = waysZ xs.length v ts [[]] ∧ Below w3.heap.size w3 wr) (fun _ i _ => ts.length - (intOf i).toNat)
    case atStart => exact ⟨0, [[]], Nat.zero_le _, rfl, hW3, by simp, fun q hq => by rw [List.mem_singleton.1 hq]; exact Nat.le_refl _, rfl, Below.refl _ _⟩
    case round =>
      clear hW3
      obtain ⟨k, W, hk, rfl, hW, hWl, hWq, hF, hbr⟩ := hrel
      have HF : Hid _ := hF
      have HQ : Hid _ := hWq
      clear hF hWq
      obtain ⟨pW, cW, rfl⟩ := hW.len
      have Br := Below.thru B3 hbr (Nat.le_refl _)
      have kr := k3.keep hbr
      have x0 := kr.cell 0
      have x1 := kr.cell 1
      have lx := kr.lt
      simp only [List.getElem?_toArray, List.getElem?_cons_zero, List.getElem?_cons_succ] at x0 x1
      by_cases hlt : k < ts.length
      · obtain ⟨tb, to, rfl, t0, ht0, hT0⟩ := (thr_at (ht.keep Br)).2 k hlt
        have h8t := H7.out _ (List.getElem_mem hlt)
        generalize hy : ts[k] = th at ht0 hT0 h8t
        have HY : Hid (ts.drop k = th :: ts.drop (k + 1)) := by rw [← hy]; exact drop_at hlt
        clear hy
        obtain ⟨pth, cth, rfl⟩ := hT0.len
        have lt0 := cell_lt ht0
        have hlt' : (k : Int) < (ts.length : Int) := by omega
        have hTr := fun Z (hB : Below wr.heap.size wr Z) => refTraces_any pth pv cth cv th xs.length v Z hv8 (by omega) (hT0.any.keep hB) ((hU3.keep hbr).keep hB)
        have hLl : (tracesT th xs.length v).length ≤ 65536 := tracesT_len4 hv8
        have hst := waysZ_step (locs := xs.length) (v := v) (W := W) HY.out
        generalize tracesT th xs.length v = L at *
        have HTR : Hid _ := hTr
        have HST : Hid _ := hst
        clear hTr hst
        go_wp2
        refine wp_region_mix [([0, 1, 2, 3, 4, 5, 6, 7, 8], 9)] [10] (by kernel_rfl) (by kernel_rfl) (fun _ _ d _ _ h => by cases d <;> exact h) ?_
        dsimp only [List.map, opAt]
        have C1 : Below wr.heap.size wr wr.drew := Below.drew (Below.refl _ _)
        refine wpMix_stage ?_
        repeat (go_big_quiet_step (fail))
        refine wpQuiet_nil ?_
        go_wp2_with (go_at_call 48; refine (HTR.out _ C1).mono ?_; rintro e w4 ⟨v4, rfl, hV4, hb4⟩)
        have C2 : Below wr.heap.size wr w4 := Below.thru C1 hb4 (Nat.le_refl _)
        refine ⟨C2, ?_⟩
        refine wpMix_last ?_
        repeat (go_big_quiet_step (fail))
        refine wpQuiet_nil ?_
        obtain ⟨pL, cL, rfl⟩ := hV4.len
        have D4 := Below.thru Br C2 (Nat.le_refl _)
        have E4 := Below.thru hbr C2 (Nat.le_refl _)
        have hW4 := SlA.lt (hW.keep C2)
        have hL4 : SlA (fun k => w.heap.size ≤ k ∧ k < w4.heap.size) TrE w4 (.slice pL L.length cL) L := SlA.mono (fun b hb => ⟨by have := Br.size; have := hb.1; simp at this; omega, hb.2⟩) (SlA.lt hV4)
        obtain ⟨M, hM0⟩ : ∃ M, W.length * L.length = M := ⟨_, rfl⟩
        have hMI : (W.length : Int) * (L.length : Int) = (M : Int) := by rw [← hM0]; simp
        have hMb : M ≤ 20000 * 65536 := by rw [← hM0]; exact Nat.mul_le_mul hWl hLl
        rw [hM0] at HST
        have HMM : Hid _ := hM0
        have D4s := D4.size
        clear x0 x1 lx ht0 hT0 lt0 hV4 hb4 C1 hW kr hM0
        by_cases hbig : 20000 < M
        · have hbig' : (20000 : Int) < (M : Int) := by omega
          go_wp2
          go_ret2
          have hzz := HN.out (by rw [← HF.out, HST.out, if_pos hbig])
          exact ⟨.slice none 0 0, by rw [hzz]; rfl, by rw [hzz]; exact SlA.nil, D4⟩
        · have hbig' : ¬ (20000 : Int) < (M : Int) := by omega
          have hwl : W.length ≤ 20000 := hWl
          go_wp2
          go_loopw [9, 10] (fun a i wr => ∃ (m : Nat) (N : List (List St)), m ≤ W.length ∧ i = .int .i64 m ∧ Own (fun k => w.heap.size ≤ k) (SlE TrE) wr w4.heap.size 22 a N ∧ N = stepW (W.take m) L ∧ Below w4.heap.size w4 wr) (fun _ i _ => W.length - (intOf i).toNat)
          case atStart => exact ⟨0, [], Nat.zero_le _, rfl, Own.nil, rfl, Below.refl _ _⟩
          case round =>
            obtain ⟨m, N0, hm, rfl, hN0, hNE0, hbr2⟩ := hrel
            have HN0 : Hid _ := hNE0
            clear hNE0
            by_cases hml : m < W.length
            · have hQm := HQ.out _ (List.getElem_mem hml)
              have hsw := stepW_take (W := W) (L := L) (List.getElem?_eq_getElem hml)
              obtain ⟨bq, oq, rfl, vq, g0, hq⟩ := (sl_at hW4).2 m hml
              generalize W[m] = q at hQm hsw hq
              obtain ⟨pq, cq, rfl⟩ := hq.len
              have HSW : Hid _ := hsw
              have hml1 : (m + 1) * L.length ≤ M := by rw [← HMM.out]; exact Nat.mul_le_mul_right _ hml
              have hstl : (stepW (W.take m) L).length = m * L.length := by rw [stepW_len, List.length_take, Nat.min_eq_left hm]
              have HSTL : Hid _ := hstl
              have HML1 : Hid _ := hml1
              clear hsw hstl hml1
              obtain ⟨p0, c0, rfl⟩ := hN0.len
              go_wp2
              go_loopw [9, 11] (fun a i wr => ∃ (j : Nat) (N : List (List St)), j ≤ L.length ∧ i = .int .i64 j ∧ Own (fun k => w.heap.size ≤ k) (SlE TrE) wr w4.heap.size 22 a N ∧ N = stepW (W.take m) L ++ (L.take j).map (fun x => q ++ [x]) ∧ Below w4.heap.size w4 wr) (fun _ i _ => L.length - (intOf i).toNat)
              case atStart => exact ⟨0, N0, Nat.zero_le _, rfl, hN0, by rw [HN0.out]; simp, hbr2⟩
              case round =>
                clear hN0 hbr2
                obtain ⟨j, N, hj, rfl, hN, hNE, hbr⟩ := hrel
                have HNE : Hid _ := hNE
                clear hNE
                obtain ⟨pN, cN, rfl⟩ := hN.len
                by_cases hjl : j < L.length
                · have hNl : N.length ≤ 20000 := by
                    have h1 := HSTL.out
                    have h2 := HML1.out
                    have h3 := congrArg List.length HNE.out
                    rw [List.length_append, List.length_map, List.length_take, Nat.min_eq_left hj, h1] at h3
                    rw [Nat.succ_mul] at h2
                    omega
                  have hmt := map_take (f := fun x => q ++ [x]) (List.getElem?_eq_getElem hjl)
                  obtain ⟨bs, os, r, rfl, -, hz, hat⟩ := (tr_at hL4).2 j hjl
                  generalize L[j] = s at hmt hz hat
                  have HMT : Hid _ := hmt
                  clear hmt
                  have hqr := hq.keep hbr
                  have hzr := hz.keep hbr
                  have g1 := cell_keep g0 hbr
                  obtain ⟨a0, a1, a2, a3, a4, a5, a6, a7, a8, a9, aa, ab, ac, ad, ae, af⟩ := hat.keep hbr
                  have la := cell_lt a0
                  have lg := cell_lt g1
                  have hs4 := hbr.size
                  have hml' : (m : Int) < (W.length : Int) := by omega
                  have hjl' : (j : Int) < (L.length : Int) := by omega
                  go_wp2
                  refine wp_region_tree [14] 16 (by kernel_rfl) (by rfl) ?_
                  refine MT.seg0 (by kernel_rfl) (fun _ _ d _ _ h => by cases d <;> exact h) [0, 2, 3, 4, 5, 7, 8, 9, 10] 7 (by kernel_rfl) ?_
                  dsimp only [List.map, opAt]
                  repeat (go_big_quiet_step (fail))
                  refine wpQuiet_nil ?_
                  refine MT.two 1 11 false false (by kernel_rfl) ?_ ?_
                  · dsimp only [opAt]
                    go_wp2
                    have b1 : Below wr.heap.size wr (wr.alloc (.cells #[] 34)).drew := ((Below.refl _ _).alloc (Nat.le_refl _) _).drew
                    have kg : Blk (wr.alloc (.cells #[] 34)).drew wr.heap.size #[] 34 := Blk.drew Blk.new
                    refine ⟨.inr b1, ?_⟩
                    generalize (wr.alloc (.cells #[] 34)).drew = w1 at *
                    refine MT.two 6 11 false false (by kernel_rfl) ?_ ?_
                    · dsimp only [opAt]
                      go_wp2_with (at_builtin; refine wpList_app (R := TrE) (A := fun k => w.heap.size ≤ k ∧ k < w4.heap.size) (B := fun k => w.heap.size ≤ k ∧ k < w4.heap.size) (xs := []) (ys := q) (by rfl) (.tmp 61) (.tmp 65) 22 34 it zt 192 (by rfl) Tryz.underlying22 K1.out K2.out K4.out K5.out K3.out wr.heap.size (.slice (some ⟨wr.heap.size, 0, none⟩) 0 0) (.slice pq q.length cq) (by rfl) (by rfl) (own_none (Nat.le_refl _) kg) (hqr.keep b1) (fun _ _ _ h => TrE.mono (fun k hk => ⟨hk, fun e => by simp [Value.ownBlock] at e; omega⟩) h) (by simp only [List.length_nil]; omega) (by decide) (by have := b1.size; omega) ?_; intro p6 c6 wA hO hg _; simp only [List.nil_append] at hO ⊢)
                      have bA : Below wr.heap.size wr wA := b1.grown hg b1.size (fun k hk => by simp [Value.ownBlock] at hk; omega)
                      refine ⟨.inr bA, ?_⟩
                      refine MT.one 11 false (by kernel_rfl) ?_
                      dsimp only [opAt]
                      go_wp2
                      have kx : Blk (wA.alloc (.cells (trC r s) 34)) wA.heap.size (trC r s) 34 := Blk.new
                      have bL : Below wr.heap.size wr (wA.alloc (.cells (trC r s) 34)) := bA.alloc bA.size _
                      replace hO := hO.keep (below_new wA (.cells (trC r s) 34))
                      refine ⟨.inr bL, ?_⟩
                      have hgo : ∀ wL gx, Blk wL gx (trC r s) 34 → True := fun _ _ _ => trivial
                      clear hgo
                      change MT _ _ _ _ _ _ _ _ _ (wA.alloc (.cells (trC r s) 34))
                      generalize (wA.alloc (.cells (trC r s) 34)) = wL at *
                      generalize wA.heap.size = gx at *
                      refine MT.one 12 false (by kernel_rfl) ?_
                      dsimp only [opAt]
                      go_wp2_with (at_builtin; refine wpList_appO (R := TrE) (A := fun k => w.heap.size ≤ k ∧ k < w4.heap.size) (xs := q) (ys := [s]) (by rfl) (.tmp 66) (.tmp 71) 22 34 it zt 192 (by rfl) Tryz.underlying22 K1.out K2.out K4.out K5.out K3.out wr.heap.size (.slice p6 q.length c6) (.slice (some ⟨gx, 0, none⟩) 1 1) (by rfl) (by rfl) hO (slO_single (cs := (trC r s).toList) ⟨r, rfl, (hzr.keep bL).mono fun k hk => ⟨hk, fun e => by have := (hO.lt k e.symm).1; omega⟩⟩ (fun j u hu => by rw [Blk.cell kx]; simpa using hu) (Nat.le_refl _)) (by simp only [List.length_cons, List.length_nil]; omega) (by decide) bL.size ?_; intro p7 c7 w7 hO7 hg7 _)
                      have b7 : Below wr.heap.size wr w7 := bL.grown hg7 bL.size (fun k hk => (hO.lt k hk).1)
                      rw [show (q ++ [s]).length = q.length + 1 by simp] at hO7 ⊢
                      refine ⟨.inr b7, ?_⟩
                      refine MT.one 13 false (by kernel_rfl) ?_
                      dsimp only [opAt]
                      go_wp2
                      have b8 : Below wr.heap.size wr (w7.alloc (.cells #[.slice p7 (q.length + 1) c7] 22)) := b7.alloc b7.size _
                      have k8 : Blk (w7.alloc (.cells #[.slice p7 (q.length + 1) c7] 22)) w7.heap.size #[.slice p7 (q.length + 1) c7] 22 := Blk.new
                      have hO8 := hO7.keep (below_new w7 (.cells #[.slice p7 (q.length + 1) c7] 22))
                      generalize w7.alloc (.cells #[.slice p7 (q.length + 1) c7] 22) = w8 at *
                      generalize w7.heap.size = gz at *
                      refine ⟨.inr b8, ?_⟩
                      refine MT.one 14 true (by kernel_rfl) ?_
                      dsimp only [opAt]
                      have hN8 := hN.keep b8
                      go_wp2_with (at_builtin; refine wpList_appO (R := SlE TrE) (A := fun k => w.heap.size ≤ k) (xs := N) (ys := [q ++ [s]]) (by rfl) (.tmp 60) (.tmp 73) 101 22 ir (.slice none 0 0) 24 (by rfl) Tryz.underlying101 J1.out J2.out J3.out J4.out (by rfl) w4.heap.size (.slice pN N.length cN) (.slice (some ⟨gz, 0, none⟩) 1 1) (by rfl) (by rfl) hN8 (slO_one (l := q ++ [s]) (by rw [Blk.cell k8]; rfl) (hO8.sl.mono fun k hk => by rcases hk with hk | hk <;> exact ⟨by omega, fun e => by have := (hN.lt k e.symm); omega⟩) (Nat.le_refl _)) (by simp only [List.length_cons, List.length_nil]; omega) (by decide) (by have := b8.size; omega) ?_; intro p9 c9 w9 hO9 hg9 _)
                      have b9 : Below w4.heap.size w4 w9 := (Below.thru hbr b8 (Nat.le_refl _)).grown hg9 (by have := b8.size; omega) (fun k hk => (hN.lt k hk).1)
                      rw [show (N ++ [q ++ [s]]).length = N.length + 1 by simp] at hO9 ⊢
                      refine ⟨.inl (by trivial), ?_⟩
                      refine MT.one 15 true (by kernel_rfl) ?_
                      dsimp only [opAt]
                      go_wp2
                      refine ⟨.inl (by trivial), ?_⟩
                      refine MT.fin (by kernel_rfl) ?_
                      go_wp2
                      go_roundw
                      case rel => exact ⟨j + 1, N ++ [q ++ [s]], by omega, by go_num, hO9, by rw [HMT.out, ← List.append_assoc, ← HNE.out], b9⟩
                      case measure => simp [intOf]; omega
                    · dsimp only [opAt]
                      go_wp2
                      have kx0 : Blk (w1.alloc (.cells (trC r s) 34)) w1.heap.size (trC r s) 34 := Blk.new
                      have bx : Below wr.heap.size wr (w1.alloc (.cells (trC r s) 34)) := b1.alloc b1.size _
                      have kg1 := kg.alloc (.cells (trC r s) 34)
                      refine ⟨.inr bx, ?_⟩
                      change MT _ _ _ _ _ _ _ _ _ (w1.alloc (.cells (trC r s) 34))
                      generalize (w1.alloc (.cells (trC r s) 34)) = wx at *
                      generalize hgx : w1.heap.size = gx at *
                      have hgx0 : wr.heap.size < gx := by rw [← hgx]; exact kg.lt
                      clear hgx
                      refine MT.one 6 false (by kernel_rfl) ?_
                      dsimp only [opAt]
                      go_wp2_with (at_builtin; refine wpList_app (R := TrE) (A := fun k => w.heap.size ≤ k ∧ k < w4.heap.size) (B := fun k => w.heap.size ≤ k ∧ k < w4.heap.size) (xs := []) (ys := q) (by rfl) (.tmp 61) (.tmp 65) 22 34 it zt 192 (by rfl) Tryz.underlying22 K1.out K2.out K4.out K5.out K3.out wr.heap.size (.slice (some ⟨wr.heap.size, 0, none⟩) 0 0) (.slice pq q.length cq) (by rfl) (by rfl) (own_none (Nat.le_refl _) kg1) (hqr.keep bx) (fun _ _ _ h => TrE.mono (fun k hk => ⟨hk, fun e => by simp [Value.ownBlock] at e; omega⟩) h) (by simp only [List.length_nil]; omega) (by decide) (by have := bx.size; omega) ?_; intro p6 c6 wA hO hg _; simp only [List.nil_append] at hO ⊢)
                      have bA : Below wr.heap.size wr wA := bx.grown hg bx.size (fun k hk => by simp [Value.ownBlock] at hk; omega)
                      have kx : Blk wA gx (trC r s) 34 := kx0.grown hg (by simp [Value.ownBlock]; omega)
                      have bL := bA
                      generalize wA = wL at *
                      refine ⟨.inr bL, ?_⟩
                      refine MT.one 12 false (by kernel_rfl) ?_
                      dsimp only [opAt]
                      go_wp2_with (at_builtin; refine wpList_appO (R := TrE) (A := fun k => w.heap.size ≤ k ∧ k < w4.heap.size) (xs := q) (ys := [s]) (by rfl) (.tmp 66) (.tmp 71) 22 34 it zt 192 (by rfl) Tryz.underlying22 K1.out K2.out K4.out K5.out K3.out wr.heap.size (.slice p6 q.length c6) (.slice (some ⟨gx, 0, none⟩) 1 1) (by rfl) (by rfl) hO (slO_single (cs := (trC r s).toList) ⟨r, rfl, (hzr.keep bL).mono fun k hk => ⟨hk, fun e => by have := (hO.lt k e.symm).1; omega⟩⟩ (fun j u hu => by rw [Blk.cell kx]; simpa using hu) (Nat.le_refl _)) (by simp only [List.length_cons, List.length_nil]; omega) (by decide) bL.size ?_; intro p7 c7 w7 hO7 hg7 _)
                      have b7 : Below wr.heap.size wr w7 := bL.grown hg7 bL.size (fun k hk => (hO.lt k hk).1)
                      rw [show (q ++ [s]).length = q.length + 1 by simp] at hO7 ⊢
                      refine ⟨.inr b7, ?_⟩
                      refine MT.one 13 false (by kernel_rfl) ?_
                      dsimp only [opAt]
                      go_wp2
                      have b8 : Below wr.heap.size wr (w7.alloc (.cells #[.slice p7 (q.length + 1) c7] 22)) := b7.alloc b7.size _
                      have k8 : Blk (w7.alloc (.cells #[.slice p7 (q.length + 1) c7] 22)) w7.heap.size #[.slice p7 (q.length + 1) c7] 22 := Blk.new
                      have hO8 := hO7.keep (below_new w7 (.cells #[.slice p7 (q.length + 1) c7] 22))
                      generalize w7.alloc (.cells #[.slice p7 (q.length + 1) c7] 22) = w8 at *
                      generalize w7.heap.size = gz at *
                      refine ⟨.inr b8, ?_⟩
                      refine MT.one 14 true (by kernel_rfl) ?_
                      dsimp only [opAt]
                      have hN8 := hN.keep b8
                      go_wp2_with (at_builtin; refine wpList_appO (R := SlE TrE) (A := fun k => w.heap.size ≤ k) (xs := N) (ys := [q ++ [s]]) (by rfl) (.tmp 60) (.tmp 73) 101 22 ir (.slice none 0 0) 24 (by rfl) Tryz.underlying101 J1.out J2.out J3.out J4.out (by rfl) w4.heap.size (.slice pN N.length cN) (.slice (some ⟨gz, 0, none⟩) 1 1) (by rfl) (by rfl) hN8 (slO_one (l := q ++ [s]) (by rw [Blk.cell k8]; rfl) (hO8.sl.mono fun k hk => by rcases hk with hk | hk <;> exact ⟨by omega, fun e => by have := (hN.lt k e.symm); omega⟩) (Nat.le_refl _)) (by simp only [List.length_cons, List.length_nil]; omega) (by decide) (by have := b8.size; omega) ?_; intro p9 c9 w9 hO9 hg9 _)
                      have b9 : Below w4.heap.size w4 w9 := (Below.thru hbr b8 (Nat.le_refl _)).grown hg9 (by have := b8.size; omega) (fun k hk => (hN.lt k hk).1)
                      rw [show (N ++ [q ++ [s]]).length = N.length + 1 by simp] at hO9 ⊢
                      refine ⟨.inl (by trivial), ?_⟩
                      refine MT.one 15 true (by kernel_rfl) ?_
                      dsimp only [opAt]
                      go_wp2
                      refine ⟨.inl (by trivial), ?_⟩
                      refine MT.fin (by kernel_rfl) ?_
                      go_wp2
                      go_roundw
                      case rel => exact ⟨j + 1, N ++ [q ++ [s]], by omega, by go_num, hO9, by rw [HMT.out, ← List.append_assoc, ← HNE.out], b9⟩
                      case measure => simp [intOf]; omega
                  · dsimp only [opAt]
                    go_wp2
                    have bx : Below wr.heap.size wr (wr.alloc (.cells (trC r s) 34)).drew := ((Below.refl _ _).alloc (Nat.le_refl _) _).drew
                    have kx0 : Blk (wr.alloc (.cells (trC r s) 34)).drew wr.heap.size (trC r s) 34 := Blk.drew Blk.new
                    refine ⟨.inr bx, ?_⟩
                    change MT _ _ _ _ _ _ _ _ _ (wr.alloc (.cells (trC r s) 34)).drew
                    generalize (wr.alloc (.cells (trC r s) 34)).drew = wx at *
                    refine MT.one 1 false (by kernel_rfl) ?_
                    dsimp only [opAt]
                    go_wp2
                    have b1 : Below wr.heap.size wr (wx.alloc (.cells #[] 34)) := bx.alloc bx.size _
                    have kg : Blk (wx.alloc (.cells #[] 34)) wx.heap.size #[] 34 := Blk.new
                    have kx1 := kx0.alloc (.cells #[] 34)
                    generalize hge : wx.heap.size = ge at *
                    have hge0 : wr.heap.size < ge := by rw [← hge]; exact kx0.lt
                    generalize (wx.alloc (.cells #[] 34)) = w1 at *
                    clear hge
                    refine ⟨.inr b1, ?_⟩
                    refine MT.one 6 false (by kernel_rfl) ?_
                    dsimp only [opAt]
                    go_wp2_with (at_builtin; refine wpList_app (R := TrE) (A := fun k => w.heap.size ≤ k ∧ k < w4.heap.size) (B := fun k => w.heap.size ≤ k ∧ k < w4.heap.size) (xs := []) (ys := q) (by rfl) (.tmp 61) (.tmp 65) 22 34 it zt 192 (by rfl) Tryz.underlying22 K1.out K2.out K4.out K5.out K3.out wr.heap.size (.slice (some ⟨ge, 0, none⟩) 0 0) (.slice pq q.length cq) (by rfl) (by rfl) (own_none (by omega) kg) (hqr.keep b1) (fun _ _ _ h => TrE.mono (fun k hk => ⟨hk, fun e => by simp [Value.ownBlock] at e; omega⟩) h) (by simp only [List.length_nil]; omega) (by decide) (by have := b1.size; omega) ?_; intro p6 c6 wA hO hg _; simp only [List.nil_append] at hO ⊢)
                    have bA : Below wr.heap.size wr wA := b1.grown hg b1.size (fun k hk => by simp [Value.ownBlock] at hk; omega)
                    have kx : Blk wA wr.heap.size (trC r s) 34 := kx1.grown hg (by simp [Value.ownBlock]; omega)
                    have bL := bA
                    generalize wA = wL at *
                    refine ⟨.inr bL, ?_⟩
                    refine MT.one 12 false (by kernel_rfl) ?_
                    dsimp only [opAt]
                    go_wp2_with (at_builtin; refine wpList_appO (R := TrE) (A := fun k => w.heap.size ≤ k ∧ k < w4.heap.size) (xs := q) (ys := [s]) (by rfl) (.tmp 66) (.tmp 71) 22 34 it zt 192 (by rfl) Tryz.underlying22 K1.out K2.out K4.out K5.out K3.out wr.heap.size (.slice p6 q.length c6) (.slice (some ⟨wr.heap.size, 0, none⟩) 1 1) (by rfl) (by rfl) hO (slO_single (cs := (trC r s).toList) ⟨r, rfl, (hzr.keep bL).mono fun k hk => ⟨hk, fun e => by have := (hO.lt k e.symm).1; omega⟩⟩ (fun j u hu => by rw [Blk.cell kx]; simpa using hu) (Nat.le_refl _)) (by simp only [List.length_cons, List.length_nil]; omega) (by decide) bL.size ?_; intro p7 c7 w7 hO7 hg7 _)
                    have b7 : Below wr.heap.size wr w7 := bL.grown hg7 bL.size (fun k hk => (hO.lt k hk).1)
                    rw [show (q ++ [s]).length = q.length + 1 by simp] at hO7 ⊢
                    refine ⟨.inr b7, ?_⟩
                    refine MT.one 13 false (by kernel_rfl) ?_
                    dsimp only [opAt]
                    go_wp2
                    have b8 : Below wr.heap.size wr (w7.alloc (.cells #[.slice p7 (q.length + 1) c7] 22)) := b7.alloc b7.size _
                    have k8 : Blk (w7.alloc (.cells #[.slice p7 (q.length + 1) c7] 22)) w7.heap.size #[.slice p7 (q.length + 1) c7] 22 := Blk.new
                    have hO8 := hO7.keep (below_new w7 (.cells #[.slice p7 (q.length + 1) c7] 22))
                    generalize w7.alloc (.cells #[.slice p7 (q.length + 1) c7] 22) = w8 at *
                    generalize w7.heap.size = gz at *
                    refine ⟨.inr b8, ?_⟩
                    refine MT.one 14 true (by kernel_rfl) ?_
                    dsimp only [opAt]
                    have hN8 := hN.keep b8
                    go_wp2_with (at_builtin; refine wpList_appO (R := SlE TrE) (A := fun k => w.heap.size ≤ k) (xs := N) (ys := [q ++ [s]]) (by rfl) (.tmp 60) (.tmp 73) 101 22 ir (.slice none 0 0) 24 (by rfl) Tryz.underlying101 J1.out J2.out J3.out J4.out (by rfl) w4.heap.size (.slice pN N.length cN) (.slice (some ⟨gz, 0, none⟩) 1 1) (by rfl) (by rfl) hN8 (slO_one (l := q ++ [s]) (by rw [Blk.cell k8]; rfl) (hO8.sl.mono fun k hk => by rcases hk with hk | hk <;> exact ⟨by omega, fun e => by have := (hN.lt k e.symm); omega⟩) (Nat.le_refl _)) (by simp only [List.length_cons, List.length_nil]; omega) (by decide) (by have := b8.size; omega) ?_; intro p9 c9 w9 hO9 hg9 _)
                    have b9 : Below w4.heap.size w4 w9 := (Below.thru hbr b8 (Nat.le_refl _)).grown hg9 (by have := b8.size; omega) (fun k hk => (hN.lt k hk).1)
                    rw [show (N ++ [q ++ [s]]).length = N.length + 1 by simp] at hO9 ⊢
                    refine ⟨.inl (by trivial), ?_⟩
                    refine MT.one 15 true (by kernel_rfl) ?_
                    dsimp only [opAt]
                    go_wp2
                    refine ⟨.inl (by trivial), ?_⟩
                    refine MT.fin (by kernel_rfl) ?_
                    go_wp2
                    go_roundw
                    case rel => exact ⟨j + 1, N ++ [q ++ [s]], by omega, by go_num, hO9, by rw [HMT.out, ← List.append_assoc, ← HNE.out], b9⟩
                    case measure => simp [intOf]; omega
                · have e : L.take j = L := List.take_of_length_le (by omega)
                  have HE : Hid _ := e
                  clear e
                  go_wp2
                  go_roundw
                  case rel => exact ⟨m + 1, N, by omega, by go_num, hN, by rw [HSW.out, HNE.out, HE.out], hbr⟩
                  case measure => simp [intOf]; omega
            · have e : W.take m = W := List.take_of_length_le (by omega)
              have HE : Hid (N0 = stepW W L) := by have h := HN0.out; rw [e] at h; exact h
              have hlen : N0.length ≤ 20000 := by rw [HE.out, stepW_len, HMM.out]; omega
              have hqs : ∀ q ∈ N0, q.length ≤ k + 1 := fun q hq => by
                rw [HE.out] at hq
                unfold stepW at hq
                obtain ⟨u, hu, hq⟩ := List.mem_flatMap.1 hq
                obtain ⟨x, _, rfl⟩ := List.mem_map.1 hq
                have := HQ.out u hu
                simp
                omega
              have HQS : Hid _ := hqs
              clear hqs e
              go_wp2
              go_roundw
              case rel => exact ⟨k + 1, N0, by omega, by go_num, hN0.sl.mono (fun b hb => hb.elim (fun hb => by omega) id), hlen, HQS.out, by rw [← HF.out, HST.out, if_neg hbig, HE.out], Below.thru E4 hbr2 (Nat.le_refl _)⟩
              case measure => simp [intOf]; omega
      · have hlt' : ¬ (k : Int) < (ts.length : Int) := by omega
        have hfin : waysZ xs.length v ts [[]] = some W := by rw [← HF.out, List.drop_of_length_le (by omega)]; rfl
        have hz := HS.out W hfin
        have hway := fun q hq => HK.out W q hfin hq
        have HZ : Hid _ := hz
        have HWY : Hid _ := hway
        have hWl2 : W.length ≤ 20000 := hWl
        have Brs := Br.size
        clear hfin hz hway kr HF HQ
        go_wp2
        clear x0 x1 lx
        obtain ⟨w6, hw6⟩ : ∃ x : World, x = wr := ⟨_, rfl⟩
        subst hw6
        go_loopw [12, 13] (fun a i wr => ∃ (m : Nat) (O : List Ex), m ≤ W.length ∧ i = .int .i64 m ∧ Own (fun k => w.heap.size ≤ k) ExE wr w6.heap.size 47 a O ∧ O = (W.take m).map (fun u => (joinZ (u.map St.tr)).1) ∧ Below w6.heap.size w6 wr) (fun _ i _ => W.length - (intOf i).toNat)
        case atStart => exact ⟨0, [], Nat.zero_le _, rfl, Own.nil, rfl, Below.refl _ _⟩
        case round =>
          obtain ⟨m, O, hm, rfl, hO, hOE, hb6⟩ := hrel
          have HOE : Hid _ := hOE
          clear hOE
          obtain ⟨pO, cO, rfl⟩ := hO.len
          by_cases hml : m < W.length
          · have hol : O.length ≤ 20000 := by rw [HOE.out, List.length_map, List.length_take]; omega
            have hqm : W[m] ∈ W := List.getElem_mem hml
            have hmt := map_take (f := fun u : List St => (joinZ (u.map St.tr)).1) (List.getElem?_eq_getElem hml)
            obtain ⟨bq, oq, rfl, vq, g0, hq⟩ := (sl_at hW).2 m hml
            generalize W[m] = q at hqm hmt hq
            obtain ⟨pq, cq, rfl⟩ := hq.len
            have hok := HWY.out q hqm
            have hC := fun Z (hB : Below w6.heap.size w6 Z) => wayT_join hJ hok f4 pq cq Z (hq.any.keep hB)
            generalize (joinZ (q.map St.tr)).1 = x at *
            have HMT : Hid _ := hmt
            have HC : Hid _ := hC
            clear hmt hC hok hqm
            have g1 := cell_keep g0 hb6
            have lg := cell_lt g1
            have hml' : (m : Int) < (W.length : Int) := by omega
            have F5 := trivial
            go_wp2_with (first
              | (go_at_call 8; clear F5; refine (HC.out _ hb6).mono ?_; rintro e w7 ⟨r, rfl, hX, hb7⟩; have F6 := trivial)
              | (clear F6; refine wpList_storeB (by rfl) 47 (.tmp 14) (.tmp 88) (by rfl) w7.heap.size (exC r) _ 47 (by rfl) (by rfl) Blk.new (by kernel_rfl) (by rfl) hX.one ?_; intro w8 k8 o8 z8; simp only [Act.put]; have b8 : Below w7.heap.size w7 w8 := (below_new _ _).trans (o8.below (by simp) (fun k hk => by omega)); have y0 := k8.cell 0; have y1 := k8.cell 1; have y2 := k8.cell 2; have y3 := k8.cell 3; have y4 := k8.cell 4; have y5 := k8.cell 5; have y6 := k8.cell 6; have l8 := k8.lt; simp only [exC, List.getElem?_toArray, List.getElem?_cons_zero, List.getElem?_cons_succ] at y0 y1 y2 y3 y4 y5 y6; clear z8 o8; have F7 := trivial)
              | (at_builtin; clear F7; have b9 : Below wr.heap.size wr (w8.alloc (.cells (exC r) 47)) := (Below.thru hb7 b8 (Nat.le_refl _)).alloc (by have := hb7.size; have := b8.size; omega) _; refine wpList_appO (R := ExE) (A := fun k => w.heap.size ≤ k) (xs := O) (ys := [x]) (by rfl) (.tmp 90) (.tmp 92) 68 47 ix zx 168 (by rfl) Tryz.underlying68 X1.out X2.out X4.out X5.out X3.out w6.heap.size (.slice pO O.length cO) (.slice (some ⟨w8.heap.size, 0, none⟩) 1 1) (by rfl) (by rfl) (hO.keep b9) (slO_single (cs := (exC r).toList) ⟨r, rfl, ((hX.keep b8).keep (below_new _ _)).mono fun k hk => ⟨by have := hb6.size; omega, fun e => by have := (hO.lt k e.symm).2; omega⟩⟩ (fun j u hu => by rw [Blk.cell Blk.new]; simpa [exC] using hu) (Nat.le_refl _)) (by simp only [List.length_cons, List.length_nil]; omega) (by decide) (Nat.le_trans hb6.size b9.size) ?_; intro p9 c9 w9 hO9 hg9 _; have B9 : Below w6.heap.size w6 w9 := (Below.thru hb6 b9 (Nat.le_refl _)).grown hg9 (Nat.le_trans hb6.size b9.size) (fun k hk => (hO.lt k hk).1); rw [show (O ++ [x]).length = O.length + 1 by simp] at hO9 ⊢; have F8 := trivial))
            go_roundw
            case rel => exact ⟨m + 1, O ++ [x], by omega, by go_num, hO9, by rw [HMT.out, ← HOE.out], B9⟩
            case measure => simp [intOf]; omega
          · have e : W.take m = W := List.take_of_length_le (by omega)
            have HE : Hid _ := e
            clear e
            have hml' : ¬ (m : Int) < (W.length : Int) := by omega
            go_wp2
            go_ret2
            have hoe := HOE.out
            rw [HE.out] at hoe
            refine ⟨.slice pO O.length cO, by rw [HZ.out]; rfl, ?_, Below.thru Br hb6 (Nat.le_refl _)⟩
            rw [HZ.out, ← hoe]
            exact hO.sl.mono fun b hb => hb.elim (fun hb => by omega) id
  · have hz := allZ_bad h0
    have hzb : ((ofZ xs ts).2 != 0) = true := by simp [h0]
    generalize ofZ xs ts = z at *
    have HZ : Hid _ := hz
    have HO : Hid _ := hO
    clear hz hO h0
    go_enter Tryz.func19, Tryz.ntmps19
    go_wp2_with (go_at_call 47; refine (HO.out _ hb1).mono ?_; rintro e w2 ⟨u, rfl, hU, hb2⟩; obtain ⟨pu, cu, rfl⟩ := hU.len)
    go_ret2
    exact ⟨.slice none 0 0, by rw [HZ.out]; rfl, by rw [HZ.out]; exact SlA.nil, Below.thru hb1 hb2 (Nat.le_refl _)⟩
end Go.Proofs.YtcalinfdckklfaaGreatDoor
