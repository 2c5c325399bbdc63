/- ExecJoins, walked: it answers true. -/
import Derived.Test.YtcalinfdckklfaaGreatDoorPk29
import Derived.Test.YtcalinfdckklfaaGreatDoorPk30
import Derived.Test.YtcalinfdckklfaaGreatDoorPk8
import Derived.Test.YtcalinfdckklfaaGreatDoorPk43
import Derived.Test.YtcalinfdckklfaaGreatDoorPk48
import Derived.Test.YtcalinfdckklfaaGreatDoorPk44
import Derived.Test.YtcalinfdckklfaaGreatDoorPk50
import Derived.Test.YtcalinfdckklfaaGreatDoorPk51
namespace Go.Proofs.YtcalinfdckklfaaGreatDoor
open Go.RowKit
attribute [local go_sem] Ext.cell Ext.frozen

set_option maxRecDepth 20000 in
set_option maxHeartbeats 8000000 in
theorem made10_any {A : Nat → Prop} (r : Nat → Value) (t : Tr) (w : World) (h : TgZ A w r t) : Calls Tryz.prog 6 #[.agg (tgC r t)] w fun e w' => e = .returned (.agg (tgC r t)) ∧ Below w.heap.size w w' := by
  obtain ⟨p0, c0, e0⟩ := h.e0.len
  obtain ⟨p1, c1, e1⟩ := h.e1.len
  obtain ⟨p2, c2, e2⟩ := h.e2.len
  obtain ⟨p3, c3, e3⟩ := h.e3.len
  obtain ⟨p4, c4, e4⟩ := h.e4.len
  have hexC : tgC r t = #[.slice p0 t.evs.length c0, .slice p1 t.ad.length c1, .slice p2 t.da.length c2, .slice p3 t.ct.length c3, .slice p4 t.pa.length c4, .int .i64 (t.v 0), .int .i64 (t.v 1), .int .i64 (t.v 2), .int .i64 (t.v 3), .int .u32 (t.d 0), .int .u32 (t.d 1), .int .u32 (t.d 2), .int .u32 (t.d 3), .int .i64 t.vs, .int .i64 t.ls, .int .i64 t.mo] := by unfold tgC; rw [e0, e1, e2, e3, e4]
  clear e0 e1 e2 e3 e4 h
  rw [hexC]
  clear hexC
  obtain ⟨w1, hw1⟩ : ∃ w1, w1 = w.alloc (.cells #[.slice p0 t.evs.length c0, .slice p1 t.ad.length c1, .slice p2 t.da.length c2, .slice p3 t.ct.length c3, .slice p4 t.pa.length c4, .int .i64 (t.v 0), .int .i64 (t.v 1), .int .i64 (t.v 2), .int .i64 (t.v 3), .int .u32 (t.d 0), .int .u32 (t.d 1), .int .u32 (t.d 2), .int .u32 (t.d 3), .int .i64 t.vs, .int .i64 t.ls, .int .i64 t.mo] 34) := ⟨_, rfl⟩
  have k1 : Blk w1 w.heap.size #[.slice p0 t.evs.length c0, .slice p1 t.ad.length c1, .slice p2 t.da.length c2, .slice p3 t.ct.length c3, .slice p4 t.pa.length c4, .int .i64 (t.v 0), .int .i64 (t.v 1), .int .i64 (t.v 2), .int .i64 (t.v 3), .int .u32 (t.d 0), .int .u32 (t.d 1), .int .u32 (t.d 2), .int .u32 (t.d 3), .int .i64 t.vs, .int .i64 t.ls, .int .i64 t.mo] 34 := by rw [hw1]; exact Blk.new
  have b1 : Below w.heap.size w w1 := by rw [hw1]; exact below_new _ _
  have u1 : w1.heap.size = w.heap.size + 1 := by rw [hw1]; simp
  obtain ⟨w2, hw2⟩ : ∃ w2, w2 = w1.alloc (.cells #[.slice none 0 0, .slice none 0 0, .slice none 0 0, .slice none 0 0, .slice none 0 0, .int .i64 0, .int .i64 0, .int .i64 0, .int .i64 0, .int .u32 0, .int .u32 0, .int .u32 0, .int .u32 0, .int .i64 0, .int .i64 0, .int .i64 0] 37) := ⟨_, rfl⟩
  have k2 : Blk w2 (w.heap.size + 1) #[.slice none 0 0, .slice none 0 0, .slice none 0 0, .slice none 0 0, .slice none 0 0, .int .i64 0, .int .i64 0, .int .i64 0, .int .i64 0, .int .u32 0, .int .u32 0, .int .u32 0, .int .u32 0, .int .i64 0, .int .i64 0, .int .i64 0] 37 := by rw [hw2]; exact Blk.newAt u1
  have b2 : Below w1.heap.size w1 w2 := by rw [hw2]; exact below_new _ _
  have u2 : w2.heap.size = w.heap.size + 2 := by rw [hw2]; simp [u1]
  have B2 := Below.thru b1 b2 (Nat.le_refl _)
  have kk := k1.keep b2
  have y0 : w2.cell? ⟨w.heap.size, 0, none⟩ = some (.slice p0 t.evs.length c0) := kk.cell 0
  have y1 : w2.cell? ⟨w.heap.size, 1, none⟩ = some (.slice p1 t.ad.length c1) := kk.cell 1
  have y2 : w2.cell? ⟨w.heap.size, 2, none⟩ = some (.slice p2 t.da.length c2) := kk.cell 2
  have y3 : w2.cell? ⟨w.heap.size, 3, none⟩ = some (.slice p3 t.ct.length c3) := kk.cell 3
  have y4 : w2.cell? ⟨w.heap.size, 4, none⟩ = some (.slice p4 t.pa.length c4) := kk.cell 4
  have y5 : w2.cell? ⟨w.heap.size, 5, none⟩ = some (.int .i64 (t.v 0)) := kk.cell 5
  have y6 : w2.cell? ⟨w.heap.size, 6, none⟩ = some (.int .i64 (t.v 1)) := kk.cell 6
  have y7 : w2.cell? ⟨w.heap.size, 7, none⟩ = some (.int .i64 (t.v 2)) := kk.cell 7
  have y8 : w2.cell? ⟨w.heap.size, 8, none⟩ = some (.int .i64 (t.v 3)) := kk.cell 8
  have y9 : w2.cell? ⟨w.heap.size, 9, none⟩ = some (.int .u32 (t.d 0)) := kk.cell 9
  have y10 : w2.cell? ⟨w.heap.size, 10, none⟩ = some (.int .u32 (t.d 1)) := kk.cell 10
  have y11 : w2.cell? ⟨w.heap.size, 11, none⟩ = some (.int .u32 (t.d 2)) := kk.cell 11
  have y12 : w2.cell? ⟨w.heap.size, 12, none⟩ = some (.int .u32 (t.d 3)) := kk.cell 12
  have y13 : w2.cell? ⟨w.heap.size, 13, none⟩ = some (.int .i64 t.vs) := kk.cell 13
  have y14 : w2.cell? ⟨w.heap.size, 14, none⟩ = some (.int .i64 t.ls) := kk.cell 14
  have y15 : w2.cell? ⟨w.heap.size, 15, none⟩ = some (.int .i64 t.mo) := kk.cell 15
  have ly := cell_lt y0
  have HW1 : Hid _ := hw1
  have HW2 : Hid _ := hw2
  clear hw1 hw2 k1 b1 b2 u1 kk
  have F1 := trivial
  go_enter Tryz.func6, Tryz.ntmps6
  go_wp2_with (first
    | (clear F1; rw [← HW1.out, ← HW2.out]; have F9 := trivial)
    | (clear F9; refine wpList_storeB (by rfl) 35 (.tmp 3) (.tmp 10) (by rfl) (w.heap.size + 2) #[.int .i64 (t.v 0), .int .i64 (t.v 1), .int .i64 (t.v 2), .int .i64 (t.v 3), .int .u32 (t.d 0), .int .u32 (t.d 1), .int .u32 (t.d 2), .int .u32 (t.d 3)] _ 35 (by rfl) (by rfl) (Blk.newAt u2) (by kernel_rfl) (by rfl) (by simp [Value.oneCell']) ?_; intro w4 kF oF zF; simp only [Act.put]; have bF : Below w2.heap.size w2 w4 := (below_new w2 (.cells #[.int .i64 0, .int .i64 0, .int .i64 0, .int .i64 0, .int .u32 0, .int .u32 0, .int .u32 0, .int .u32 0] 35)).trans (oF.below (by simp) (fun k hk => by omega)); replace y0 := cell_keep y0 bF; replace y1 := cell_keep y1 bF; replace y2 := cell_keep y2 bF; replace y3 := cell_keep y3 bF; replace y4 := cell_keep y4 bF; replace y5 := cell_keep y5 bF; replace y6 := cell_keep y6 bF; replace y7 := cell_keep y7 bF; replace y8 := cell_keep y8 bF; replace y9 := cell_keep y9 bF; replace y10 := cell_keep y10 bF; replace y11 := cell_keep y11 bF; replace y12 := cell_keep y12 bF; replace y13 := cell_keep y13 bF; replace y14 := cell_keep y14 bF; replace y15 := cell_keep y15 bF; have f0 : w4.cell? ⟨w.heap.size + 2, 0, none⟩ = some (.int .i64 (t.v 0)) := kF.cell 0; have f1 : w4.cell? ⟨w.heap.size + 2, 1, none⟩ = some (.int .i64 (t.v 1)) := kF.cell 1; have f2 : w4.cell? ⟨w.heap.size + 2, 2, none⟩ = some (.int .i64 (t.v 2)) := kF.cell 2; have f3 : w4.cell? ⟨w.heap.size + 2, 3, none⟩ = some (.int .i64 (t.v 3)) := kF.cell 3; have f4 : w4.cell? ⟨w.heap.size + 2, 4, none⟩ = some (.int .u32 (t.d 0)) := kF.cell 4; have f5 : w4.cell? ⟨w.heap.size + 2, 5, none⟩ = some (.int .u32 (t.d 1)) := kF.cell 5; have f6 : w4.cell? ⟨w.heap.size + 2, 6, none⟩ = some (.int .u32 (t.d 2)) := kF.cell 6; have f7 : w4.cell? ⟨w.heap.size + 2, 7, none⟩ = some (.int .u32 (t.d 3)) := kF.cell 7; have ly4 := cell_lt y0; have lF := cell_lt f0; have k4 := k2.keep bF; have F2 := trivial)
    | (clear F2; refine wpList_storeB (by rfl) 37 (.tmp 2) (.tmp 28) (by rfl) (w.heap.size + 1) #[.slice p0 t.evs.length c0, .slice p1 t.ad.length c1, .slice p2 t.da.length c2, .slice p3 t.ct.length c3, .slice p4 t.pa.length c4, .int .i64 (t.v 0), .int .i64 (t.v 1), .int .i64 (t.v 2), .int .i64 (t.v 3), .int .u32 (t.d 0), .int .u32 (t.d 1), .int .u32 (t.d 2), .int .u32 (t.d 3), .int .i64 t.vs, .int .i64 t.ls, .int .i64 t.mo] _ 37 (by rfl) (by rfl) k4 (by kernel_rfl) (by rfl) (by simp [Value.oneCell']) ?_; intro wL kM oL zL; simp only [Act.put]))
  have z0 : wL.cell? ⟨w.heap.size + 1, 0, none⟩ = some (.slice p0 t.evs.length c0) := kM.cell 0
  have z1 : wL.cell? ⟨w.heap.size + 1, 1, none⟩ = some (.slice p1 t.ad.length c1) := kM.cell 1
  have z2 : wL.cell? ⟨w.heap.size + 1, 2, none⟩ = some (.slice p2 t.da.length c2) := kM.cell 2
  have z3 : wL.cell? ⟨w.heap.size + 1, 3, none⟩ = some (.slice p3 t.ct.length c3) := kM.cell 3
  have z4 : wL.cell? ⟨w.heap.size + 1, 4, none⟩ = some (.slice p4 t.pa.length c4) := kM.cell 4
  have z5 : wL.cell? ⟨w.heap.size + 1, 5, none⟩ = some (.int .i64 (t.v 0)) := kM.cell 5
  have z6 : wL.cell? ⟨w.heap.size + 1, 6, none⟩ = some (.int .i64 (t.v 1)) := kM.cell 6
  have z7 : wL.cell? ⟨w.heap.size + 1, 7, none⟩ = some (.int .i64 (t.v 2)) := kM.cell 7
  have z8 : wL.cell? ⟨w.heap.size + 1, 8, none⟩ = some (.int .i64 (t.v 3)) := kM.cell 8
  have z9 : wL.cell? ⟨w.heap.size + 1, 9, none⟩ = some (.int .u32 (t.d 0)) := kM.cell 9
  have z10 : wL.cell? ⟨w.heap.size + 1, 10, none⟩ = some (.int .u32 (t.d 1)) := kM.cell 10
  have z11 : wL.cell? ⟨w.heap.size + 1, 11, none⟩ = some (.int .u32 (t.d 2)) := kM.cell 11
  have z12 : wL.cell? ⟨w.heap.size + 1, 12, none⟩ = some (.int .u32 (t.d 3)) := kM.cell 12
  have z13 : wL.cell? ⟨w.heap.size + 1, 13, none⟩ = some (.int .i64 t.vs) := kM.cell 13
  have z14 : wL.cell? ⟨w.heap.size + 1, 14, none⟩ = some (.int .i64 t.ls) := kM.cell 14
  have z15 : wL.cell? ⟨w.heap.size + 1, 15, none⟩ = some (.int .i64 t.mo) := kM.cell 15
  have B4 := Below.thru B2 bF (Nat.le_refl _)
  refine bodyPost_ret (v := .agg #[.slice p0 t.evs.length c0, .slice p1 t.ad.length c1, .slice p2 t.da.length c2, .slice p3 t.ct.length c3, .slice p4 t.pa.length c4, .int .i64 (t.v 0), .int .i64 (t.v 1), .int .i64 (t.v 2), .int .i64 (t.v 3), .int .u32 (t.d 0), .int .u32 (t.d 1), .int .u32 (t.d 2), .int .u32 (t.d 3), .int .i64 t.vs, .int .i64 t.ls, .int .i64 t.mo]) (by simp [results, Tryz.results6, go_sem, z0, z1, z2, z3, z4, z5, z6, z7, z8, z9, z10, z11, z12, z13, z14, z15]) rfl ⟨rfl, B4.trans (oL.below B4.size (fun k hk => by omega))⟩

theorem refJoin_any (hJ : JoinSaid) (p : Option Addr) (c : Nat) (l : List Tr) (w : World) (hl : Sl TgE w (.slice p l.length c) l) (hr : ∀ t ∈ l, Rng t) (hev : ∀ t ∈ l, t.evs.length ≤ 1000) (hM : totN l ≤ 1000000) (hn : l.length ≤ 100) :
    Calls Tryz.prog 8 #[.slice p l.length c] w fun e w' => ∃ r, e = .returned (.tuple #[.agg (exC r), .int .i64 (joinZ l).2]) ∧ ExZ (fun k => w.heap.size ≤ k) w' r (joinZ l).1 ∧ Below w.heap.size w w' := by
  by_cases h24 : 24 < totN l
  · rw [show joinZ l = (.zero, 3) from if_pos h24]
    refine (refJoin_full p c l w hl h24 hM (by omega)).mono ?_
    rintro e w' ⟨rfl, hb⟩
    exact ⟨_, rfl, ex_zero, hb⟩
  · by_cases hok : l.all fineT = true
    · rw [show joinZ l = (joinE l, 0) by unfold joinZ; rw [if_neg h24, if_pos hok]]
      exact hJ p c l w hl hr (by omega) hok hn
    · rw [show joinZ l = (.zero, 2) by unfold joinZ; rw [if_neg h24, if_neg hok]]
      refine (refJoin_bad p c l w hl hr hev (by omega) hM (by omega) hok).mono ?_
      rintro e w' ⟨rfl, hb⟩
      exact ⟨_, rfl, ex_zero, hb⟩
theorem joinZ_sizes (l : List Tr) : (joinZ l).1.evs.length ≤ 24 ∧ (joinZ l).1.regs.length ≤ l.length ∧ ∀ g ∈ (joinZ l).1.regs, g.length ≤ 4 := by
  unfold joinZ
  split
  · exact ⟨Nat.zero_le _, Nat.zero_le _, fun g hg => by cases hg⟩
  · split
    · refine ⟨by show (evsJ l 0).length ≤ 24; rw [evsJ_len]; omega, by show (regsJ l).length ≤ _; rw [regsJ_len]; exact Nat.le_refl _, fun g hg => ?_⟩
      have hg' : g ∈ regsJ l := hg
      unfold regsJ at hg'
      obtain ⟨t, _, rfl⟩ := List.mem_map.1 hg'
      simp
    · exact ⟨Nat.zero_le _, Nat.zero_le _, fun g hg => by cases hg⟩
theorem totN_le {l : List Tr} {m : Nat} (h : ∀ t ∈ l, t.evs.length ≤ m) : totN l ≤ m * l.length := by
  induction l with
  | nil => simp [totN]
  | cons t l ih =>
    have h1 := ih fun x hx => h x (List.mem_cons_of_mem _ hx)
    have h2 := h t List.mem_cons_self
    rw [totN, List.length_cons, Nat.mul_succ]
    omega
theorem sl_twoJ {w : World} {b : Nat} {t : TypeId} {x y : Int} (h : Blk w b #[.int .i64 x, .int .i64 y] t) : Sl IntE w (.slice (some ⟨b, 0, none⟩) [x, y].length 2) [x, y] := by
  refine ⟨_, 2, rfl, ⟨(fun e => by cases e), Nat.le_refl _⟩, fun _ => ⟨b, 0, rfl, trivial, fun i hi => ?_⟩⟩
  have hi' : i < 2 := hi
  match i, hi' with
  | 0, _ | 1, _ =>
    refine ⟨_, rfl, fun j u hu => ?_⟩
    rw [Blk.cell h]
    match j, hu with
    | 0, hu => exact hu
    | j + 1, hu => simp at hu

set_option maxRecDepth 20000 in
set_option maxHeartbeats 64000000 in
theorem ExecJoins_over (hJ : JoinSaid) (p : Option Addr) (c : Nat) (l : List Tr) (z : Int) (w : World) (T : FEnv w) (hl : Sl TgE w (.slice p l.length c) l) (hr : ∀ t ∈ l, Rng t) :
    Calls Tryz.prog 3 #[.slice p l.length c, .int .i64 z] w fun e w' => e = .returned (.bool true) ∧ Below w.heap.size w w' := by
  have hne : ∀ w, Nonempty (Ext w) := ext_some
  have HR : Hid _ := hr
  clear hr
  have F1 := trivial
  by_cases h10 : 10 < l.length
  · have h10' : (10 : Int) < (l.length : Int) := by omega
    go_enter Tryz.func3, Tryz.ntmps3
    go_wp2_with (go_at_call 5; clear F1; refine (shown10_any _ T).mono ?_; rintro e w1 ⟨rfl, hb1⟩)
    go_ret
    exact ⟨rfl, hb1⟩
  have h10' : ¬ (10 : Int) < (l.length : Int) := by omega
  obtain ⟨it, zt, j1, j2, j3, j4, j5⟩ := cl_get (show ((Tryz.prog.info? 37).map fun i => (i.zero.map (·.cells.size), i.size, i.bytes)) = some (some 16, 16, 192) by kernel_rfl)
  have K1 : Hid _ := j1
  have K2 : Hid _ := j2
  have K3 : Hid _ := j3
  have K4 : Hid _ := j4
  have K5 : Hid _ := j5
  clear j1 j2 j3 j4 j5
  go_enter Tryz.func3, Tryz.ntmps3
  go_wp2_with (go_at_call 5; clear F1; refine (shown10_any _ T).mono ?_; rintro e w1 ⟨rfl, hb1⟩)
  have hs1 := hb1.size
  go_loopw [6, 7] (fun a i wr => ∃ k : Nat, k ≤ l.length ∧ i = .int .i64 k ∧ Own (fun b => b < w.heap.size) TgE wr w1.heap.size 37 a (l.take k) ∧ (∀ t ∈ l.take k, t.evs.length ≤ 40) ∧ Below w1.heap.size w1 wr) (fun _ i _ => l.length - (Go.RowKit.intOf i).toNat)
  case atStart => exact ⟨0, Nat.zero_le _, rfl, by rw [List.take_zero]; exact Own.nil, (fun t ht => by rw [List.take_zero] at ht; cases ht), Below.refl _ _⟩
  case round =>
    obtain ⟨k, hk, rfl, hO, h40, hb2⟩ := hrel
    obtain ⟨pO, cO, rfl⟩ := hO.len
    have B2 := Below.thru hb1 hb2 (Nat.le_refl _)
    by_cases hlt : k < l.length
    · have hlt' : (k : Int) < (l.length : Int) := by omega
      have hX := hl.lt.keep B2
      obtain ⟨xb, xo, r, rfl, -, hZ, hA0⟩ := (tg_at hX).2 k hlt
      have htk : l.take (k + 1) = l.take k ++ [l[k]] := by rw [List.take_add_one, List.getElem?_eq_getElem hlt]; rfl
      have hkl : (l.take k).length = k := by rw [List.length_take, Nat.min_eq_left hk]
      rw [hkl] at hO ⊢
      have HKL : Hid _ := hkl
      clear hkl
      generalize l[k] = t at hZ hA0 htk
      have a0 := hA0.c0
      have a1 := hA0.c1
      have a2 := hA0.c2
      have a3 := hA0.c3
      have a4 := hA0.c4
      have a5 := hA0.v0
      have a6 := hA0.v1
      have a7 := hA0.v2
      have a8 := hA0.v3
      have a9 := hA0.d0
      have a10 := hA0.d1
      have a11 := hA0.d2
      have a12 := hA0.d3
      have a13 := hA0.vs
      have a14 := hA0.ls
      have a15 := hA0.mo
      have la := cell_lt a0
      obtain ⟨pe, ce, he⟩ := hZ.e0.len
      have hmd := made10_any r t wr hZ
      unfold tgC at hmd
      rw [he] at a0 hmd
      have HMD : Hid (Calls _ _ _ _ _) := hmd
      have HE : Hid _ := he
      have HTK : Hid _ := htk
      clear hmd he hA0 htk
      by_cases h4 : 40 < t.evs.length
      · have h4' : (40 : Int) < (t.evs.length : Int) := by omega
        go_wp2
        go_ret
        exact ⟨rfl, B2⟩
      · have h4' : ¬ (40 : Int) < (t.evs.length : Int) := by omega
        have F2 := trivial
        go_wp2_with (first
          | (go_at_call 6; clear F2; refine HMD.out.mono ?_; rintro e w3 ⟨rfl, hb3⟩; have F3 := trivial)
          | (at_builtin; clear F3; have b4 : Below wr.heap.size wr (w3.alloc (.cells #[.slice pe t.evs.length ce, r 1, r 2, r 3, r 4, .int .i64 (t.v 0), .int .i64 (t.v 1), .int .i64 (t.v 2), .int .i64 (t.v 3), .int .u32 (t.d 0), .int .u32 (t.d 1), .int .u32 (t.d 2), .int .u32 (t.d 3), .int .i64 t.vs, .int .i64 t.ls, .int .i64 t.mo] 37)) := hb3.alloc hb3.size _; refine wpList_appO (R := TgE) (A := fun b => b < w.heap.size) (xs := l.take k) (ys := [t]) (by rfl) (.tmp 34) (.tmp 40) 24 37 it zt 192 (by rfl) Tryz.underlying24 K1.out K2.out K4.out K5.out K3.out w1.heap.size (.slice pO k cO) (.slice (some ⟨w3.heap.size, 0, none⟩) 1 1) (by rfl) (by rfl) (hO.keep b4) (slO_single (cs := (tgC r t).toList) ⟨r, rfl, (hZ.keep b4).mono fun b hb => ⟨hb.2, fun e => by have := (hO.lt b e.symm).1; omega⟩⟩ (fun j u hu => by rw [Blk.cell Blk.new]; rw [tgC, HE.out] at hu; simpa using hu) (Nat.le_refl _)) (by rw [HKL.out]; simp only [List.length_cons, List.length_nil]; omega) (by decide) (by have := hb2.size; have := b4.size; omega) ?_; intro p5 c5 w5 hO5 hg5 hv5; rw [show (l.take k ++ [t]).length = k + 1 by rw [List.length_append, HKL.out]; rfl] at hO5 ⊢))
        go_roundw
        case rel => exact ⟨k + 1, by omega, by go_num, by rw [HTK.out]; exact hO5, (fun x hx => by
          rw [HTK.out] at hx
          rcases List.mem_append.1 hx with hx | hx
          · exact h40 x hx
          · rw [List.mem_singleton.1 hx]; omega), (Below.thru hb2 b4 (Nat.le_refl _)).grown hg5 (by have := hb2.size; have := b4.size; omega) (fun k hk => (hO.lt k hk).1)⟩
        case measure => simp [Go.RowKit.intOf]; omega
    · have hlt' : ¬ (k : Int) < (l.length : Int) := by omega
      have e : l.take k = l := List.take_of_length_le (by omega)
      rw [e] at hO h40 ⊢
      clear e
      have hj := fun W (hB : Below wr.heap.size wr W) => Join_any pO cO l W ((hO.keep hB).sl.any) HR.out (fun t ht => by have := h40 t ht; omega) (by omega)
      have hq := fun W (hB : Below wr.heap.size wr W) => refJoin_any hJ p c l W (hl.keep (Below.thru B2 hB (Nat.le_refl _))) HR.out (fun t ht => by have := h40 t ht; omega) (by have := totN_le h40; omega) (by omega)
      obtain ⟨n1, n2, n3⟩ := joinZ_sizes l
      generalize joinZ l = J at *
      obtain ⟨x, ec⟩ := J
      simp only at n1 n2 n3
      have HJ : Hid _ := hj
      have HQ : Hid _ := hq
      have H3 : Hid _ := n3
      clear hj hq n3 hO
      have F2 := trivial
      go_wp2_with (first
        | (go_at_call 7; clear F2; refine (HJ.out _ (Below.refl _ _)).mono ?_; rintro e w3 ⟨r, rfl, hX3, hb3⟩; have F3 := trivial)
        | (clear F3; refine wpList_storeB (by rfl) 42 (.tmp 8) (.tmp 45) (by rfl) w3.heap.size #[r 0, r 1, r 2, r 3, r 4, r 5, r 6] _ 42 (by rfl) (by rfl) Blk.new (by kernel_rfl) (by rfl) hX3.one ?_; intro w4 k4 o4 zz4; simp only [Act.put]; have b4 : Below w3.heap.size w3 w4 := (below_new w3 (.cells #[.slice none 0 0, .slice none 0 0, .slice none 0 0, .slice none 0 0, .slice none 0 0, .slice none 0 0, .slice none 0 0] 42)).trans (o4.below (by simp) (fun k hk => by omega)); have B4 := Below.thru hb3 b4 (Nat.le_refl _); clear zz4; have F4 := trivial)
        | (go_at_call 8; clear F4; refine (HQ.out _ B4).mono ?_; rintro e w5 ⟨q, rfl, hY5, hb5⟩; have F5 := trivial)
        | (clear F5; refine wpList_storeB (by rfl) 47 (.tmp 10) (.tmp 50) (by rfl) w5.heap.size #[q 0, q 1, q 2, q 3, q 4, q 5, q 6] _ 47 (by rfl) (by rfl) Blk.new (by kernel_rfl) (by rfl) hY5.one ?_; intro w6 k6 o6 zz6; simp only [Act.put]; have b6 : Below w5.heap.size w5 w6 := (below_new w5 (.cells #[.slice none 0 0, .slice none 0 0, .slice none 0 0, .slice none 0 0, .slice none 0 0, .slice none 0 0, .slice none 0 0] 47)).trans (o6.below (by simp) (fun k hk => by omega)); have kx := k4.keep (Below.thru hb5 b6 (Nat.le_refl _)); have y0 : w6.cell? ⟨w3.heap.size, 0, none⟩ = some (r 0) := kx.cell 0; have y1 : w6.cell? ⟨w3.heap.size, 1, none⟩ = some (r 1) := kx.cell 1; have y2 : w6.cell? ⟨w3.heap.size, 2, none⟩ = some (r 2) := kx.cell 2; have y3 : w6.cell? ⟨w3.heap.size, 3, none⟩ = some (r 3) := kx.cell 3; have y4 : w6.cell? ⟨w3.heap.size, 4, none⟩ = some (r 4) := kx.cell 4; have y5 : w6.cell? ⟨w3.heap.size, 5, none⟩ = some (r 5) := kx.cell 5; have y6 : w6.cell? ⟨w3.heap.size, 6, none⟩ = some (r 6) := kx.cell 6; have z0 : w6.cell? ⟨w5.heap.size, 0, none⟩ = some (q 0) := k6.cell 0; have z1 : w6.cell? ⟨w5.heap.size, 1, none⟩ = some (q 1) := k6.cell 1; have z2 : w6.cell? ⟨w5.heap.size, 2, none⟩ = some (q 2) := k6.cell 2; have z3 : w6.cell? ⟨w5.heap.size, 3, none⟩ = some (q 3) := k6.cell 3; have z4 : w6.cell? ⟨w5.heap.size, 4, none⟩ = some (q 4) := k6.cell 4; have z5 : w6.cell? ⟨w5.heap.size, 5, none⟩ = some (q 5) := k6.cell 5; have z6 : w6.cell? ⟨w5.heap.size, 6, none⟩ = some (q 6) := k6.cell 6; have ly := cell_lt y0; have lz := cell_lt z0; clear zz6; have F6 := trivial))
      have B6 := Below.thru (Below.thru B4 hb5 (Nat.le_refl _)) b6 (Nat.le_refl _)
      have hX6 := (hX3.keep (Below.thru (Below.thru b4 hb5 (Nat.le_refl _)) b6 (Nat.le_refl _))).any
      have hY6 := (hY5.keep b6).any
      obtain ⟨xe, po, ad, da, ct, rm, xg⟩ := x
      have hs0 : Sl EvE w6 (r 0) xe := hX6.e0
      obtain ⟨p0, c0, e0⟩ := hs0.len
      have gs0 : Sl EvE w6 (q 0) xe := hY6.e0
      obtain ⟨q0, d0, f0⟩ := gs0.len
      have hs1 : Sl U32E w6 (r 1) po := hX6.e1
      obtain ⟨p1, c1, e1⟩ := hs1.len
      have gs1 : Sl U32E w6 (q 1) po := hY6.e1
      obtain ⟨q1, d1, f1⟩ := gs1.len
      have hs2 : Sl U32E w6 (r 2) ad := hX6.e2
      obtain ⟨p2, c2, e2⟩ := hs2.len
      have gs2 : Sl U32E w6 (q 2) ad := hY6.e2
      obtain ⟨q2, d2, f2⟩ := gs2.len
      have hs3 : Sl U32E w6 (r 3) da := hX6.e3
      obtain ⟨p3, c3, e3⟩ := hs3.len
      have gs3 : Sl U32E w6 (q 3) da := hY6.e3
      obtain ⟨q3, d3, f3⟩ := gs3.len
      have hs4 : Sl U32E w6 (r 4) ct := hX6.e4
      obtain ⟨p4, c4, e4⟩ := hs4.len
      have gs4 : Sl U32E w6 (q 4) ct := hY6.e4
      obtain ⟨q4, d4, f4⟩ := gs4.len
      have hs5 : Sl U32E w6 (r 5) rm := hX6.e5
      obtain ⟨p5, c5, e5⟩ := hs5.len
      have gs5 : Sl U32E w6 (q 5) rm := hY6.e5
      obtain ⟨q5, d5, f5⟩ := gs5.len
      have hs6 : Sl (SlE IntE) w6 (r 6) xg := hX6.e6
      obtain ⟨p6, c6, e6⟩ := hs6.len
      have gs6 : Sl (SlE IntE) w6 (q 6) xg := hY6.e6
      obtain ⟨q6, d6, f6⟩ := gs6.len
      have hexC : exC r = #[.slice p0 xe.length c0, .slice p1 po.length c1, .slice p2 ad.length c2, .slice p3 da.length c3, .slice p4 ct.length c4, .slice p5 rm.length c5, .slice p6 xg.length c6] := by unfold exC; rw [e0, e1, e2, e3, e4, e5, e6]
      have hexQ : exC q = #[.slice q0 xe.length d0, .slice q1 po.length d1, .slice q2 ad.length d2, .slice q3 da.length d3, .slice q4 ct.length d4, .slice q5 rm.length d5, .slice q6 xg.length d6] := by unfold exC; rw [f0, f1, f2, f3, f4, f5, f6]
      rw [e0] at y0 hs0
      rw [f0] at z0 gs0
      rw [e1] at y1 hs1
      rw [f1] at z1 gs1
      rw [e2] at y2 hs2
      rw [f2] at z2 gs2
      rw [e3] at y3 hs3
      rw [f3] at z3 gs3
      rw [e4] at y4 hs4
      rw [f4] at z4 gs4
      rw [e5] at y5 hs5
      rw [f5] at z5 gs5
      rw [e6] at y6 hs6
      rw [f6] at z6 gs6
      replace n1 : xe.length ≤ 24 := n1
      replace n2 : xg.length ≤ l.length := n2
      have n3 : ∀ g ∈ xg, g.length ≤ 4 := H3.out
      obtain ⟨z', hz'⟩ : ∃ z', wrap64 (z + 1) = z' := ⟨_, rfl⟩
      rw [hz']
      obtain ⟨M, hM⟩ : ∃ M, kdM xe (fun e => [z, z'].contains e.kd) = M := ⟨_, rfl⟩
      have hMl : M < 4294967296 := by rw [← hM]; exact rowN_u32 (by omega)
      have HK : Hid (∀ b W, Below w6.heap.size w6 W → Blk W b #[.int .i64 z, .int .i64 z'] 3 → Calls Tryz.prog 9 #[.agg #[.slice p0 xe.length c0, .slice p1 po.length c1, .slice p2 ad.length c2, .slice p3 da.length c3, .slice p4 ct.length c4, .slice p5 rm.length c5, .slice p6 xg.length c6], .slice (some ⟨b, 0, none⟩) 2 2] W fun e w' => e = .returned (.int .u32 (M : Nat)) ∧ Below W.heap.size W w') := fun b W hB hk => by
        rw [← hM, ← hexC]
        exact Kinds_any r ⟨xe, po, ad, da, ct, rm, xg⟩ (some ⟨b, 0, none⟩) 2 [z, z'] W (hX6.keep hB) (by show xe.length ≤ 32; omega) (sl_twoJ hk) (by simp)
      have HRE : Hid (∀ W, Below w6.heap.size w6 W → Calls Tryz.prog 11 #[.agg #[.slice p0 xe.length c0, .slice p1 po.length c1, .slice p2 ad.length c2, .slice p3 da.length c3, .slice p4 ct.length c4, .slice p5 rm.length c5, .slice p6 xg.length c6]] W fun e w' => e = .returned (.agg #[.slice p0 xe.length c0, .slice p1 po.length c1, .slice p2 ad.length c2, .slice p3 da.length c3, .slice p4 ct.length c4, .slice p5 rm.length c5, .slice p6 xg.length c6]) ∧ Below W.heap.size W w') := fun W hB => by
        rw [← hexC]
        exact real10_is r ⟨xe, po, ad, da, ct, rm, xg⟩ W (hX6.keep hB)
      have HSM : Hid (∀ W, Below w6.heap.size w6 W → Calls Tryz.prog 10 #[.agg #[.slice p0 xe.length c0, .slice p1 po.length c1, .slice p2 ad.length c2, .slice p3 da.length c3, .slice p4 ct.length c4, .slice p5 rm.length c5, .slice p6 xg.length c6], .agg #[.slice q0 xe.length d0, .slice q1 po.length d1, .slice q2 ad.length d2, .slice q3 da.length d3, .slice q4 ct.length d4, .slice q5 rm.length d5, .slice q6 xg.length d6]] W fun e w' => e = .returned (.bool true) ∧ Below W.heap.size W w') := fun W hB => by
        rw [← hexC, ← hexQ]
        exact Same10_is r q ⟨xe, po, ad, da, ct, rm, xg⟩ W (hX6.keep hB) (hY6.keep hB) (by show xe.length ≤ _; omega) (by show xg.length ≤ _; omega) (fun g hg => by have := n3 g hg; omega)
      obtain ⟨INN, hINN⟩ : ∃ v, mkR xe.length (innerF xe) = v := ⟨_, rfl⟩
      obtain ⟨ALI, hALI⟩ : ∃ v, mkR xe.length (alikeF xe) = v := ⟨_, rfl⟩
      have HINN : Hid (∀ W, Below w6.heap.size w6 W → Calls Tryz.prog 15 #[.agg #[.slice p0 xe.length c0, .slice p1 po.length c1, .slice p2 ad.length c2, .slice p3 da.length c3, .slice p4 ct.length c4, .slice p5 rm.length c5, .slice p6 xg.length c6]] W fun e w' => ∃ v, e = .returned v ∧ SlA (fun k => W.heap.size ≤ k) U32E w' v INN ∧ Below W.heap.size W w') := fun W hB => by
        rw [← hINN, ← hexC]
        exact Inner_any r ⟨xe, po, ad, da, ct, rm, xg⟩ W (hX6.keep hB) (by show xe.length ≤ 32; omega)
      have HALI : Hid (∀ W, Below w6.heap.size w6 W → Calls Tryz.prog 13 #[.agg #[.slice p0 xe.length c0, .slice p1 po.length c1, .slice p2 ad.length c2, .slice p3 da.length c3, .slice p4 ct.length c4, .slice p5 rm.length c5, .slice p6 xg.length c6]] W fun e w' => ∃ v, e = .returned v ∧ SlA (fun k => W.heap.size ≤ k) U32E w' v ALI ∧ Below W.heap.size W w') := fun W hB => by
        rw [← hALI, ← hexC]
        exact Alike_any r ⟨xe, po, ad, da, ct, rm, xg⟩ W (hX6.keep hB) (by show xe.length ≤ 32; omega)
      have HQIN : Hid (∀ W, Below w6.heap.size w6 W → Calls Tryz.prog 16 #[.agg #[.slice q0 xe.length d0, .slice q1 po.length d1, .slice q2 ad.length d2, .slice q3 da.length d3, .slice q4 ct.length d4, .slice q5 rm.length d5, .slice q6 xg.length d6]] W fun e w' => ∃ v, e = .returned v ∧ Sl U32E w' v INN ∧ Below W.heap.size W w') := fun W hB => by
        rw [← hINN]
        exact refInner_any q0 q1 q2 q3 q4 q5 q6 d0 po.length d1 ad.length d2 da.length d3 ct.length d4 rm.length d5 xg.length d6 xe W (gs0.keep hB) n1
      have HQAL : Hid (∀ W, Below w6.heap.size w6 W → Calls Tryz.prog 14 #[.agg #[.slice q0 xe.length d0, .slice q1 po.length d1, .slice q2 ad.length d2, .slice q3 da.length d3, .slice q4 ct.length d4, .slice q5 rm.length d5, .slice q6 xg.length d6]] W fun e w' => ∃ v, e = .returned v ∧ Sl U32E w' v ALI ∧ Below W.heap.size W w') := fun W hB => by
        rw [← hALI]
        exact refAlike_any q0 q1 q2 q3 q4 q5 q6 d0 po.length d1 ad.length d2 da.length d3 ct.length d4 rm.length d5 xg.length d6 xe W (gs0.keep hB) n1
      have HS : Hid (∀ p q c d xs W, Sl U32E W (.slice p xs.length c) xs → Sl U32E W (.slice q xs.length d) xs → Calls Tryz.prog 12 #[.slice p xs.length c, .slice q xs.length d] W fun e w' => e = .returned (.bool true) ∧ Below W.heap.size W w') := fun p q c d xs W h1 h2 => rSame_t _ _ _ _ _ _ W h1 h2 rfl
      have HMB : Hid (∀ j (hj : j < xe.length), M.testBit j = [z, z'].contains xe[j].kd) := fun j hj => by
        rw [← hM, Bool.eq_iff_iff, kdM_bit]
        constructor
        · rintro ⟨e, he, h⟩
          rw [List.getElem?_eq_getElem hj] at he
          cases he
          exact h
        · intro h
          exact ⟨_, List.getElem?_eq_getElem hj, h⟩
      simp only [e0, e1, e2, e3, e4, e5, e6]
      clear hexC hexQ hINN hALI hM e0 e1 e2 e3 e4 e5 e6 f0 f1 f2 f3 f4 f5 f6 hX6 hY6 hX3 hY5 n2 n3 k4 k6 kx o4 o6 b4 b6 hb3 hb5 hs0 hs1 hs2 hs3 hs4 hs5 hs6 gs1 gs2 gs3 gs4 gs5 gs6
      have B0 := Below.thru B2 B6 (Nat.le_refl _)
      clear B2 B4 B6 hb2 h40
      have G1 := trivial
      go_wp2_with (go_at_call 9; clear G1; refine (HK.out _ _ (below_new _ _) Blk.new).mono ?_; rintro e w7 ⟨rfl, hb7⟩; have C7 := Below.thru (below_new w6 (.cells #[.int .i64 z, .int .i64 z'] 3)) hb7 (Nat.le_refl _); replace y0 := cell_keep y0 C7; replace y1 := cell_keep y1 C7; replace y2 := cell_keep y2 C7; replace y3 := cell_keep y3 C7; replace y4 := cell_keep y4 C7; replace y5 := cell_keep y5 C7; replace y6 := cell_keep y6 C7; replace z0 := cell_keep z0 C7; replace z1 := cell_keep z1 C7; replace z2 := cell_keep z2 C7; replace z3 := cell_keep z3 C7; replace z4 := cell_keep z4 C7; replace z5 := cell_keep z5 C7; replace z6 := cell_keep z6 C7; replace ly := cell_lt y0; replace lz := cell_lt z0)
      have gs7 := gs0.keep C7
      go_loopw [13] (fun i wv => ∃ j : Nat, j ≤ xe.length ∧ i = .int .i64 j ∧ wv = w7) (fun i _ => xe.length - (Go.RowKit.intOf i).toNat)
      case atStart => exact ⟨0, Nat.zero_le _, rfl, rfl⟩
      case round =>
        obtain ⟨j, hj, rfl, rfl⟩ := hrel
        by_cases hjl : j < xe.length
        · have hjl' : (j : Int) < (xe.length : Int) := by omega
          obtain ⟨eb, eo, rfl, g0, g1, g2, g3, g4, g5, g6⟩ := (ev_at gs7).2 j hjl
          have hbit := HMB.out j hjl
          generalize xe[j] = ev at g0 g1 g2 g3 g4 g5 g6 hbit
          have lg := cell_lt g1
          have hsh := shr_bit (k := j) hMl
          rw [hbit, Nat.min_eq_left (show j ≤ 32 by omega)] at hsh
          cases hk1 : (ev.kd == z)
          · cases hk2 : (ev.kd == z')
            · rw [show ([z, z'].contains ev.kd) = false by simp only [List.contains_cons, List.contains_nil, hk1, hk2]; rfl] at hsh
              go_wp2
              go_roundw
              case rel => exact ⟨j + 1, by omega, by go_num, trivial⟩
              case measure => simp [Go.RowKit.intOf]; omega
            · rw [show ([z, z'].contains ev.kd) = true by simp only [List.contains_cons, List.contains_nil, hk1, hk2]; rfl] at hsh
              go_wp2
              go_roundw
              case rel => exact ⟨j + 1, by omega, by go_num, trivial⟩
              case measure => simp [Go.RowKit.intOf]; omega
          · rw [show ([z, z'].contains ev.kd) = true by simp only [List.contains_cons, List.contains_nil, hk1]; rfl] at hsh
            go_wp2
            go_roundw
            case rel => exact ⟨j + 1, by omega, by go_num, trivial⟩
            case measure => simp [Go.RowKit.intOf]; omega
        · have hjl' : ¬ (j : Int) < (xe.length : Int) := by omega
          have hec : (ec == ec) = true := by simp
          go_wp2
          refine wp_region_mix [([0, 1, 2, 4], 3), ([], 5), ([6, 7, 8, 9, 10, 11, 12, 13, 15], 14), ([], 16), ([], 17), ([18, 19, 20, 22], 21), ([], 23), ([], 24)] [25, 26] (by kernel_rfl) (by kernel_rfl) (fun _ _ d _ _ h => by cases d <;> exact h) ?_
          dsimp only [List.map, opAt]
          have C10 : Below wr.heap.size wr wr.drew := Below.drew (Below.refl _ _)
          refine wpMix_stage ?_
          repeat (go_big_quiet_step (fail))
          refine wpQuiet_nil ?_
          go_wp2_with (go_at_call 11; refine (HRE.out _ (Below.thru C7 C10 (Nat.le_refl _))).mono ?_; rintro e v11w ⟨rfl, b11⟩)
          have C11 := Below.thru C10 b11 (Nat.le_refl _)
          refine ⟨C11, ?_⟩
          refine wpMix_stage ?_
          repeat (go_big_quiet_step (fail))
          refine wpQuiet_nil ?_
          go_wp2_with (go_at_call 10; refine (HSM.out _ (Below.thru C7 C11 (Nat.le_refl _))).mono ?_; rintro e v12w ⟨rfl, b12⟩)
          have C12 := Below.thru C11 b12 (Nat.le_refl _)
          refine ⟨C12, ?_⟩
          refine wpMix_stage ?_
          repeat (go_big_quiet_step (fail))
          refine wpQuiet_nil ?_
          go_wp2_with (go_at_call 13; refine (HALI.out _ (Below.thru C7 C12 (Nat.le_refl _))).mono ?_; rintro e v13w ⟨u13, rfl, V13, b13⟩)
          obtain ⟨P13, D13, rfl⟩ := V13.len
          have C13 := Below.thru C12 b13 (Nat.le_refl _)
          refine ⟨C13, ?_⟩
          refine wpMix_stage ?_
          repeat (go_big_quiet_step (fail))
          refine wpQuiet_nil ?_
          go_wp2_with (go_at_call 14; refine (HQAL.out _ (Below.thru C7 C13 (Nat.le_refl _))).mono ?_; rintro e v14w ⟨u14, rfl, V14, b14⟩)
          obtain ⟨P14, D14, rfl⟩ := V14.len
          have C14 := Below.thru C13 b14 (Nat.le_refl _)
          refine ⟨C14, ?_⟩
          refine wpMix_stage ?_
          repeat (go_big_quiet_step (fail))
          refine wpQuiet_nil ?_
          go_wp2_with (go_at_call 12; refine (HS.out P13 P14 D13 D14 ALI _ (V13.any.keep b14) V14.any).mono ?_; rintro e v15w ⟨rfl, b15⟩)
          have C15 := Below.thru C14 b15 (Nat.le_refl _)
          refine ⟨C15, ?_⟩
          refine wpMix_stage ?_
          repeat (go_big_quiet_step (fail))
          refine wpQuiet_nil ?_
          go_wp2_with (go_at_call 15; refine (HINN.out _ (Below.thru C7 C15 (Nat.le_refl _))).mono ?_; rintro e v16w ⟨u16, rfl, V16, b16⟩)
          obtain ⟨P16, D16, rfl⟩ := V16.len
          have C16 := Below.thru C15 b16 (Nat.le_refl _)
          refine ⟨C16, ?_⟩
          refine wpMix_stage ?_
          repeat (go_big_quiet_step (fail))
          refine wpQuiet_nil ?_
          go_wp2_with (go_at_call 16; refine (HQIN.out _ (Below.thru C7 C16 (Nat.le_refl _))).mono ?_; rintro e v17w ⟨u17, rfl, V17, b17⟩)
          obtain ⟨P17, D17, rfl⟩ := V17.len
          have C17 := Below.thru C16 b17 (Nat.le_refl _)
          refine ⟨C17, ?_⟩
          refine wpMix_stage ?_
          repeat (go_big_quiet_step (fail))
          refine wpQuiet_nil ?_
          go_wp2_with (go_at_call 12; refine (HS.out P16 P17 D16 D17 INN _ (V16.any.keep b17) V17.any).mono ?_; rintro e v18w ⟨rfl, b18⟩)
          have C18 := Below.thru C17 b18 (Nat.le_refl _)
          refine ⟨C18, ?_⟩
          refine wpMix_last ?_
          repeat (go_big_quiet_step (fail))
          refine wpQuiet_nil ?_
          go_wp2
          go_ret
          exact ⟨rfl, Below.thru B0 (Below.thru C7 C18 (Nat.le_refl _)) (Nat.le_refl _)⟩
theorem ExecJoins_true (p : Option Addr) (c : Nat) (l : List Tr) (z : Int) (w : World) (T : FEnv w) (hl : Sl TgE w (.slice p l.length c) l) (hr : ∀ t ∈ l, Rng t) :
    Calls Tryz.prog 3 #[.slice p l.length c, .int .i64 z] w fun e w' => e = .returned (.bool true) ∧ Below w.heap.size w w' :=
  ExecJoins_over joinSaid p c l z w T hl hr
end Go.Proofs.YtcalinfdckklfaaGreatDoor
