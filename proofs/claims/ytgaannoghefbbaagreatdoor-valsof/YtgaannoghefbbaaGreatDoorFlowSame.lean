/- Two lists that are the same are told so; so are two traces. -/
import Derived.Test.YtgaannoghefbbaaGreatDoorFlowP
import Derived.Test.YtgaannoghefbbaaGreatDoorRegsP
namespace Go.Proofs.YtgaannoghefbbaaGreatDoor
open Go.RowKit
attribute [local go_sem] Ext.cell Ext.frozen

set_option maxHeartbeats 2000000 in
theorem Events_same (p q : Option Addr) (c d : Nat) (l : List Ev) (w : World) (hp : Sl EvE w (.slice p l.length c) l) (hq : Sl EvE w (.slice q l.length d) l) (hn : l.length ≤ 1000000) :
    Calls Tryz.prog 21 #[.slice p l.length c, .slice q l.length d] w fun e w' => e = .returned (.bool true) ∧ Below w.heap.size w w' := by
  have hne : ∀ w, Nonempty (Ext w) := ext_some
  have hnn : ((l.length : Int) != (l.length : Int)) = false := by simp
  go_enter Tryz.func21, Tryz.ntmps21
  go_wp2
  go_loopw [5] (fun i wr => ∃ k : Nat, k ≤ l.length ∧ i = .int .i64 k ∧ Below w.heap.size w wr) (fun i _ => l.length - (intOf i).toNat)
  case atStart => exact ⟨0, Nat.zero_le _, rfl, by go_grown⟩
  case round =>
    obtain ⟨k, hk, rfl, hB⟩ := hrel
    by_cases hlt : k < l.length
    · obtain ⟨ab, ao, rfl, a0, a1, a2, a3, a4, a5, a6⟩ := (ev_at (hp.keep hB)).2 k hlt
      obtain ⟨bb, bo, rfl, b0, b1, b2, b3, b4, b5, b6⟩ := (ev_at (hq.keep hB)).2 k hlt
      generalize l[k] = x at *
      have hwr : wrap64 ((k : Int) + 1) = (k : Int) + 1 := wrap_is (by omega) (by omega)
      have la := cell_lt a0
      have lb := cell_lt b0
      go_wp2
      refine wp_region_ext (by kernel_rfl) (by kernel_rfl) ?_
      repeat (go_big_quiet_step (fail))
      refine wpQuiet_nil ?_
      rintro _ ⟨rr, rfl⟩
      go_wp2
      go_roundw
      case rel => exact ⟨k + 1, by omega, by go_num, Below.thru hB rr.ok (Nat.le_refl _)⟩
      case measure => simp [intOf]; omega
    · go_wp2
      go_returns
      exact ⟨rfl, hB⟩

set_option maxHeartbeats 2000000 in
theorem Masks_same (p q : Option Addr) (c d : Nat) (l : List Int) (w : World) (hp : Sl MskE w (.slice p l.length c) l) (hq : Sl MskE w (.slice q l.length d) l) (hn : l.length ≤ 1000000) :
    Calls Tryz.prog 22 #[.slice p l.length c, .slice q l.length d] w fun e w' => e = .returned (.bool true) ∧ Below w.heap.size w w' := by
  have hne : ∀ w, Nonempty (Ext w) := ext_some
  have hnn : ((l.length : Int) != (l.length : Int)) = false := by simp
  go_enter Tryz.func22, Tryz.ntmps22
  go_wp2
  go_loopw [5] (fun i wr => ∃ k : Nat, k ≤ l.length ∧ i = .int .i64 k ∧ Below w.heap.size w wr) (fun i _ => l.length - (intOf i).toNat)
  case atStart => exact ⟨0, Nat.zero_le _, rfl, by go_grown⟩
  case round =>
    obtain ⟨k, hk, rfl, hB⟩ := hrel
    by_cases hlt : k < l.length
    · obtain ⟨ab, ao, rfl, a0⟩ := (msk_at (hp.keep hB)).2 k hlt
      obtain ⟨bb, bo, rfl, b0⟩ := (msk_at (hq.keep hB)).2 k hlt
      generalize l[k] = x at *
      have hwr : wrap64 ((k : Int) + 1) = (k : Int) + 1 := wrap_is (by omega) (by omega)
      have la := cell_lt a0
      have lb := cell_lt b0
      go_wp2
      refine wp_region_ext (by kernel_rfl) (by kernel_rfl) ?_
      repeat (go_big_quiet_step (fail))
      refine wpQuiet_nil ?_
      rintro _ ⟨rr, rfl⟩
      go_wp2
      go_roundw
      case rel => exact ⟨k + 1, by omega, by go_num, Below.thru hB rr.ok (Nat.le_refl _)⟩
      case measure => simp [intOf]; omega
    · go_wp2
      go_returns
      exact ⟨rfl, hB⟩

set_option maxHeartbeats 2000000 in
theorem rInts_same (p q : Option Addr) (c d : Nat) (l : List Int) (w : World) (hp : Sl IntE w (.slice p l.length c) l) (hq : Sl IntE w (.slice q l.length d) l) (hn : l.length ≤ 1000000) :
    Calls Tryz.prog 23 #[.slice p l.length c, .slice q l.length d] w fun e w' => e = .returned (.bool true) ∧ Below w.heap.size w w' := by
  have hne : ∀ w, Nonempty (Ext w) := ext_some
  have hnn : ((l.length : Int) != (l.length : Int)) = false := by simp
  go_enter Tryz.func23, Tryz.ntmps23
  go_wp2
  go_loopw [5] (fun i wr => ∃ k : Nat, k ≤ l.length ∧ i = .int .i64 k ∧ Below w.heap.size w wr) (fun i _ => l.length - (intOf i).toNat)
  case atStart => exact ⟨0, Nat.zero_le _, rfl, by go_grown⟩
  case round =>
    obtain ⟨k, hk, rfl, hB⟩ := hrel
    by_cases hlt : k < l.length
    · obtain ⟨ab, ao, rfl, a0⟩ := (ints_at (hp.keep hB)).2 k hlt
      obtain ⟨bb, bo, rfl, b0⟩ := (ints_at (hq.keep hB)).2 k hlt
      generalize l[k] = x at *
      have hwr : wrap64 ((k : Int) + 1) = (k : Int) + 1 := wrap_is (by omega) (by omega)
      have la := cell_lt a0
      have lb := cell_lt b0
      go_wp2
      refine wp_region_ext (by kernel_rfl) (by kernel_rfl) ?_
      repeat (go_big_quiet_step (fail))
      refine wpQuiet_nil ?_
      rintro _ ⟨rr, rfl⟩
      go_wp2
      go_roundw
      case rel => exact ⟨k + 1, by omega, by go_num, Below.thru hB rr.ok (Nat.le_refl _)⟩
      case measure => simp [intOf]; omega
    · go_wp2
      go_returns
      exact ⟨rfl, hB⟩
theorem Events_is (va vb : Value) (l : List Ev) (w : World) (hp : Sl EvE w va l) (hq : Sl EvE w vb l) (hn : l.length ≤ 1000000) :
    Calls Tryz.prog 21 #[va, vb] w fun e w' => e = .returned (.bool true) ∧ Below w.heap.size w w' := by
  obtain ⟨p, c, rfl⟩ := hp.len
  obtain ⟨q, d, rfl⟩ := hq.len
  exact Events_same p q c d l w hp hq hn
theorem Masks_is (va vb : Value) (l : List Int) (w : World) (hp : Sl MskE w va l) (hq : Sl MskE w vb l) (hn : l.length ≤ 1000000) :
    Calls Tryz.prog 22 #[va, vb] w fun e w' => e = .returned (.bool true) ∧ Below w.heap.size w w' := by
  obtain ⟨p, c, rfl⟩ := hp.len
  obtain ⟨q, d, rfl⟩ := hq.len
  exact Masks_same p q c d l w hp hq hn
theorem rInts_is (va vb : Value) (l : List Int) (w : World) (hp : Sl IntE w va l) (hq : Sl IntE w vb l) (hn : l.length ≤ 1000000) :
    Calls Tryz.prog 23 #[va, vb] w fun e w' => e = .returned (.bool true) ∧ Below w.heap.size w w' := by
  obtain ⟨p, c, rfl⟩ := hp.len
  obtain ⟨q, d, rfl⟩ := hq.len
  exact rInts_same p q c d l w hp hq hn

attribute [local go_sem] four_same' fourD_same'
set_option maxHeartbeats 4000000 in
theorem Same_is (r1 r2 : Nat → Value) (s : St) (w : World) (h1 : TrIs w r1 s) (h2 : TrIs w r2 s) (hn : s.evs.length ≤ 1000000 ∧ s.ad.length ≤ 1000000 ∧ s.da.length ≤ 1000000 ∧ s.ct.length ≤ 1000000 ∧ s.pa.length ≤ 1000000) :
    Calls Tryz.prog 8 #[trV r1 s, trV r2 s] w fun e w' => e = .returned (.bool true) ∧ Below w.heap.size w w' := by
  obtain ⟨n0, n1, n2, n3, n4⟩ := hn
  have HE := fun W (hb : Below w.heap.size w W) => Events_is (r1 0) (r2 0) s.evs W (h1.e0.keep hb) (h2.e0.keep hb) n0
  have HA := fun W (hb : Below w.heap.size w W) => Masks_is (r1 1) (r2 1) s.ad W (h1.e1.keep hb) (h2.e1.keep hb) n1
  have HD := fun W (hb : Below w.heap.size w W) => Masks_is (r1 2) (r2 2) s.da W (h1.e2.keep hb) (h2.e2.keep hb) n2
  have HC := fun W (hb : Below w.heap.size w W) => Masks_is (r1 3) (r2 3) s.ct W (h1.e3.keep hb) (h2.e3.keep hb) n3
  have HP := fun W (hb : Below w.heap.size w W) => rInts_is (r1 4) (r2 4) s.pa W (h1.e4.keep hb) (h2.e4.keep hb) n4
  have GE : Hid _ := HE
  have GA : Hid _ := HA
  have GD : Hid _ := HD
  have GC : Hid _ := HC
  have GP : Hid _ := HP
  clear HE HA HD HC HP n0 n1 n2 n3 n4
  have F1 := trivial
  unfold trV trC
  have B0 : Below w.heap.size w ((w.alloc (.cells (trC r1 s) 39)).alloc (.cells (trC r2 s) 39)) := by go_grown
  have k1 : TrB ((w.alloc (.cells (trC r1 s) 39)).alloc (.cells (trC r2 s) 39)) w.heap.size r1 s 39 := Blk.new.alloc _
  have k2 : TrB ((w.alloc (.cells (trC r1 s) 39)).alloc (.cells (trC r2 s) 39)) (w.heap.size + 1) r2 s 39 := Blk.newAt (by simp)
  unfold trC at B0
  go_enter Tryz.func8, Tryz.ntmps8
  go_wp2_with (first
    | (go_at_call 21; clear F1; refine (GE.out _ B0).mono ?_; rintro e w1 ⟨rfl, hb1⟩; have B1 := Below.thru B0 hb1 (Nat.le_refl _); have ka := TrB.keep k1 hb1; have kb := TrB.keep k2 hb1; obtain ⟨a0, a1, a2, a3, a4⟩ := ka.rows; obtain ⟨b0, b1, b2, b3, b4⟩ := kb.rows; have la := ka.lt; have lb := kb.lt; have F2 := trivial)
    | (go_at_call 22; clear F2; refine (GA.out _ B1).mono ?_; rintro e w2 ⟨rfl, hb2⟩; have B2 := Below.thru B1 hb2 (Nat.le_refl _); have kc := TrB.keep ka hb2; have kd := TrB.keep kb hb2; obtain ⟨c0, c1, c2, c3, c4⟩ := kc.rows; obtain ⟨d0, d1, d2, d3, d4⟩ := kd.rows; have lc := kc.lt; have ld := kd.lt; have F3 := trivial)
    | (go_at_call 22; clear F3; refine (GD.out _ B2).mono ?_; rintro e w3 ⟨rfl, hb3⟩; have B3 := Below.thru B2 hb3 (Nat.le_refl _); have ke := TrB.keep kc hb3; have kf := TrB.keep kd hb3; obtain ⟨e0, e1, e2, e3, e4⟩ := ke.rows; obtain ⟨f0, f1, f2, f3, f4⟩ := kf.rows; have le := ke.lt; have lf := kf.lt; have F4 := trivial)
    | (go_at_call 22; clear F4; refine (GC.out _ B3).mono ?_; rintro e w4 ⟨rfl, hb4⟩; have B4 := Below.thru B3 hb4 (Nat.le_refl _); have kg := TrB.keep ke hb4; have kh := TrB.keep kf hb4; obtain ⟨g0, g1, g2, g3, g4⟩ := kg.rows; obtain ⟨i0, i1, i2, i3, i4⟩ := kh.rows; have lg := kg.lt; have lh := kh.lt; have F5 := trivial)
    | (go_at_call 23; clear F5; refine (GP.out _ B4).mono ?_; rintro e w5 ⟨rfl, hb5⟩; have B5 := Below.thru B4 hb5 (Nat.le_refl _); have ki := TrB.keep kg hb5; have kj := TrB.keep kh hb5; obtain ⟨⟨j0, j1, j2, j3⟩, j4, j5, j6, j7⟩ := ki.regs; obtain ⟨⟨m0, m1, m2, m3⟩, m4, m5, m6, m7⟩ := kj.regs; obtain ⟨o0, o1, o2⟩ := ki.more; obtain ⟨q0, q1, q2⟩ := kj.more; have li := ki.lt; have lj := kj.lt))
  go_returns
  exact ⟨rfl, B5⟩
end Go.Proofs.YtgaannoghefbbaaGreatDoor
