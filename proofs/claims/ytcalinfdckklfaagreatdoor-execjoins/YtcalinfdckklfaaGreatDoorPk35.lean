/- FlowRefC: FlowRefC, FlowRefI, FlowRefJ, in one text. -/
import Derived.Test.YtcalinfdckklfaaGreatDoorPk33
namespace Go.Proofs.YtcalinfdckklfaaGreatDoor
open Go.RowKit
attribute [local go_sem] Ext.cell Ext.frozen

set_option maxRecDepth 1000000 in
set_option maxHeartbeats 16000000 in
theorem rr_store6 (p pv pl : Option Addr) (c0 cv cl : Nat) (th : List Ins) (locs : Int) (vals : List Int) (lucks : List Bool) (w : World) (R : St) (k f : Nat → Value) (s : St) (r : Nat → Value) (n : Nat) (wr : World) (Q0 : Exit → Act → World → Prop) (E : REnv p pv pl c0 cv cl th locs vals lucks w) (H : RRel th locs vals lucks w R s r (n + 1) wr) (hlt : s.next < th.length) (xd xa xb xl xi : Int) (hx : th[s.next] = ⟨6, xd, xa, xb, xl, xi⟩) :
    Code.wp Tryz.prog rbody (Exit.then (fun a' w'' => RWI p pv pl c0 cv cl th locs vals lucks w R k a' w'' ∧ rmu th a' w'' < rmu th ⟨rfrm p pv pl c0 cv cl th locs vals lucks w k f s, []⟩ wr) Q0) ⟨rfrm p pv pl c0 cv cl th locs vals lucks w k f s, []⟩ wr := by
  have hst : s.inc.step locs vals lucks ⟨6, xd, xa, xb, xl, xi⟩ = (s.inc.write locs ⟨6, xd, xa, xb, xl, xi⟩ (-1)) := by unfold St.step; rw [if_neg (by simp), if_pos (by simp)]
  have HST : Hid _ := hst
  clear hst
  have hlen := lens_of H.ok E.h8
  have hW := fun W (hT : TrN W r s) => with_first (wrEv locs ⟨6, xd, xa, xb, xl, xi⟩ s) (placeD s.d 6 xa locs) (atR s.d xb) s.ctrl (-1) r s W hT hlen.1 hlen.2.1 hlen.2.2.1 hlen.2.2.2.1 hlen.2.2.2.2
  have HW : Hid _ := hW
  clear hW hlen
  have HX : Hid _ := hx
  have hokx := E.ok s.next _ (List.getElem?_eq_getElem hlt)
  rw [hx] at hokx
  have hrun := H.run
  rw [run_step H.more hlt, hx] at hrun
  have HRun : Hid _ := hrun
  have HOk : Hid _ := hokx
  clear hrun hokx
  have hnx := H.ok.nx
  have h8 := E.h8
  have hev := H.ok.ev
  have hwr : wrap64 ((s.next : Int) + 1) = (s.next : Int) + 1 := wrap_is (by omega) (by omega)
  have hPl := fun w => rPlace_any s.v s.d 6 xd xa xb xl xi locs w E.l1 (by have := E.l3; omega)
  have hGet := fun n w => rGet_any s.v s.d n w
  have hSet := fun n y1 y2 w => rSet_any s.v s.d n y1 y2 w
  unfold fileV at hPl hGet hSet
  have HPl : Hid _ := hPl
  have HGet : Hid _ := hGet
  have HSet : Hid _ := hSet
  clear hPl hGet hSet
  have hne : ∀ w, Nonempty (Ext w) := ext_some
  have hne2 : Nonempty AnyW := anyW_some
  have hcells := (ins_at (E.ht.keep H.B)).2 s.next hlt
  rw [hx] at hcells
  obtain ⟨ub, uo, rfl, e0, e1, e2, e3, e4, e5⟩ := hcells
  clear hx
  have hub := cell_lt e0
  obtain ⟨⟨t0, t1, t2, t3⟩, t4, t5, t6, t7⟩ := H.kt.regs
  have lt0 := H.kt.lt
  have Ba := below_new wr (.cells #[.int .i64 6, .int .i64 xd, .int .i64 xa, .int .i64 xb, .int .i64 xl, .int .i64 xi] 72)
  have kIa : InsB (wr.alloc (.cells #[.int .i64 6, .int .i64 xd, .int .i64 xa, .int .i64 xb, .int .i64 xl, .int .i64 xi] 72)) wr.heap.size 6 xd xa xb xl xi := Blk.new
  have FA := trivial
  have FB := trivial
  conv => arg 2; whnf
  unfold rfrm
  go_wp2_with (first
    | (go_at_call 106; clear FA; refine (HPl.out _).mono ?_; rintro e w1 ⟨rfl, hb1⟩; have B1 : Below wr.heap.size wr w1 := Below.thru Ba hb1 (Nat.le_refl _); have kI1 := kIa.keep hb1; have kt1 := H.kt.keep B1; obtain ⟨⟨a0, a1, a2, a3⟩, a4, a5, a6, a7⟩ := kt1.regs; obtain ⟨b0, b1, b2, b3, b4, b5⟩ := kI1.cells; have lt1 := kt1.lt; have lI1 := kI1.lt)
    | (go_at_call 107; clear FB; refine (HGet.out _ _).mono ?_; rintro e w2 ⟨rfl, hb2⟩; have B2 : Below wr.heap.size wr w2 := Below.thru B1 hb2 (Nat.le_refl _); have kI2 := kI1.keep hb2; have kt2 := H.kt.keep B2; have kz2 := H.kz.keep B2; have tr2 := H.tr.keep B2; obtain ⟨⟨i0, i1, i2, i3⟩, i4, i5, i6, i7⟩ := kt2.regs; obtain ⟨m0, m1, m2⟩ := kt2.more; obtain ⟨o0, o1, o2, o3, o4⟩ := kt2.rows; obtain ⟨j0, j1, j2, j3, j4, j5⟩ := kI2.cells; have lt2 := kt2.lt; have lI2 := kI2.lt; have lz2 := kz2.lt; have FC := trivial)
    | (go_at_call 109; clear FC; refine (HW.out _ tr2.n).mono ?_; rintro e w3 ⟨r3, rfl, tr3, hb3⟩; have FD := trivial)
    | (clear FD; refine wpList_storeB (by rfl) 34 (.tmp 9) (.tmp 134) (by rfl) (w.heap.size + 1) (trC r3 _) _ 34 (by rfl) (by rfl) (kt2.keep hb3) (by kernel_rfl) (by rfl) (one16A tr3) ?_; intro w4 kt4 oL zL; simp only [Act.put]))
  have hst := HST.out
  have tr4 : TrA (Aside2 w.heap.size) w4 r3 (s.addC (wrEv locs ⟨6, xd, xa, xb, xl, xi⟩ s) (placeD s.d 6 xa locs) (atR s.d xb) s.ctrl (-1)) := (tr3.mono (fun b hb => ⟨by omega, by omega⟩)).only oL (fun b hb e => hb.2.1 e)
  have B4 : Below w.heap.size w w4 := (Below.thru (Below.thru H.B B2 (Nat.le_refl _)) hb3 (Nat.le_refl _)).trans (oL.below (Nat.le_trans (Nat.le_trans H.B.size B2.size) hb3.size) (fun k hk => by omega))
  refine ⟨rwi_of (s.inc.write locs ⟨6, xd, xa, xb, xl, xi⟩ (-1)) r3 n (rrel_step E H hlt HX.out hst kt4 (Blk.only (kz2.keep hb3) oL (by omega)) (tr4.st rfl rfl rfl rfl rfl) H.more H.dep B4) (by rfl), ?_⟩
  simp [rmu, intOf]
  omega
set_option maxRecDepth 1000000 in
set_option maxHeartbeats 16000000 in
theorem rr_store8 (p pv pl : Option Addr) (c0 cv cl : Nat) (th : List Ins) (locs : Int) (vals : List Int) (lucks : List Bool) (w : World) (R : St) (k f : Nat → Value) (s : St) (r : Nat → Value) (n : Nat) (wr : World) (Q0 : Exit → Act → World → Prop) (E : REnv p pv pl c0 cv cl th locs vals lucks w) (H : RRel th locs vals lucks w R s r (n + 1) wr) (hlt : s.next < th.length) (xd xa xb xl xi : Int) (hx : th[s.next] = ⟨8, xd, xa, xb, xl, xi⟩) :
    Code.wp Tryz.prog rbody (Exit.then (fun a' w'' => RWI p pv pl c0 cv cl th locs vals lucks w R k a' w'' ∧ rmu th a' w'' < rmu th ⟨rfrm p pv pl c0 cv cl th locs vals lucks w k f s, []⟩ wr) Q0) ⟨rfrm p pv pl c0 cv cl th locs vals lucks w k f s, []⟩ wr := by
  have hst : s.inc.step locs vals lucks ⟨8, xd, xa, xb, xl, xi⟩ = (s.inc.write locs ⟨8, xd, xa, xb, xl, xi⟩ (-1)) := by unfold St.step; rw [if_neg (by simp), if_pos (by simp)]
  have HST : Hid _ := hst
  clear hst
  have hlen := lens_of H.ok E.h8
  have hW := fun W (hT : TrN W r s) => with_first (wrEv locs ⟨8, xd, xa, xb, xl, xi⟩ s) (placeD s.d 8 xa locs) (atR s.d xb) s.ctrl (-1) r s W hT hlen.1 hlen.2.1 hlen.2.2.1 hlen.2.2.2.1 hlen.2.2.2.2
  have HW : Hid _ := hW
  clear hW hlen
  have HX : Hid _ := hx
  have hokx := E.ok s.next _ (List.getElem?_eq_getElem hlt)
  rw [hx] at hokx
  have hrun := H.run
  rw [run_step H.more hlt, hx] at hrun
  have HRun : Hid _ := hrun
  have HOk : Hid _ := hokx
  clear hrun hokx
  have hnx := H.ok.nx
  have h8 := E.h8
  have hev := H.ok.ev
  have hwr : wrap64 ((s.next : Int) + 1) = (s.next : Int) + 1 := wrap_is (by omega) (by omega)
  have hPl := fun w => rPlace_any s.v s.d 8 xd xa xb xl xi locs w E.l1 (by have := E.l3; omega)
  have hGet := fun n w => rGet_any s.v s.d n w
  have hSet := fun n y1 y2 w => rSet_any s.v s.d n y1 y2 w
  unfold fileV at hPl hGet hSet
  have HPl : Hid _ := hPl
  have HGet : Hid _ := hGet
  have HSet : Hid _ := hSet
  clear hPl hGet hSet
  have hne : ∀ w, Nonempty (Ext w) := ext_some
  have hne2 : Nonempty AnyW := anyW_some
  have hcells := (ins_at (E.ht.keep H.B)).2 s.next hlt
  rw [hx] at hcells
  obtain ⟨ub, uo, rfl, e0, e1, e2, e3, e4, e5⟩ := hcells
  clear hx
  have hub := cell_lt e0
  obtain ⟨⟨t0, t1, t2, t3⟩, t4, t5, t6, t7⟩ := H.kt.regs
  have lt0 := H.kt.lt
  have Ba := below_new wr (.cells #[.int .i64 8, .int .i64 xd, .int .i64 xa, .int .i64 xb, .int .i64 xl, .int .i64 xi] 72)
  have kIa : InsB (wr.alloc (.cells #[.int .i64 8, .int .i64 xd, .int .i64 xa, .int .i64 xb, .int .i64 xl, .int .i64 xi] 72)) wr.heap.size 8 xd xa xb xl xi := Blk.new
  have FA := trivial
  have FB := trivial
  conv => arg 2; whnf
  unfold rfrm
  go_wp2_with (first
    | (go_at_call 106; clear FA; refine (HPl.out _).mono ?_; rintro e w1 ⟨rfl, hb1⟩; have B1 : Below wr.heap.size wr w1 := Below.thru Ba hb1 (Nat.le_refl _); have kI1 := kIa.keep hb1; have kt1 := H.kt.keep B1; obtain ⟨⟨a0, a1, a2, a3⟩, a4, a5, a6, a7⟩ := kt1.regs; obtain ⟨b0, b1, b2, b3, b4, b5⟩ := kI1.cells; have lt1 := kt1.lt; have lI1 := kI1.lt)
    | (go_at_call 107; clear FB; refine (HGet.out _ _).mono ?_; rintro e w2 ⟨rfl, hb2⟩; have B2 : Below wr.heap.size wr w2 := Below.thru B1 hb2 (Nat.le_refl _); have kI2 := kI1.keep hb2; have kt2 := H.kt.keep B2; have kz2 := H.kz.keep B2; have tr2 := H.tr.keep B2; obtain ⟨⟨i0, i1, i2, i3⟩, i4, i5, i6, i7⟩ := kt2.regs; obtain ⟨m0, m1, m2⟩ := kt2.more; obtain ⟨o0, o1, o2, o3, o4⟩ := kt2.rows; obtain ⟨j0, j1, j2, j3, j4, j5⟩ := kI2.cells; have lt2 := kt2.lt; have lI2 := kI2.lt; have lz2 := kz2.lt; have FC := trivial)
    | (go_at_call 109; clear FC; refine (HW.out _ tr2.n).mono ?_; rintro e w3 ⟨r3, rfl, tr3, hb3⟩; have FD := trivial)
    | (clear FD; refine wpList_storeB (by rfl) 34 (.tmp 9) (.tmp 134) (by rfl) (w.heap.size + 1) (trC r3 _) _ 34 (by rfl) (by rfl) (kt2.keep hb3) (by kernel_rfl) (by rfl) (one16A tr3) ?_; intro w4 kt4 oL zL; simp only [Act.put]))
  have hst := HST.out
  have tr4 : TrA (Aside2 w.heap.size) w4 r3 (s.addC (wrEv locs ⟨8, xd, xa, xb, xl, xi⟩ s) (placeD s.d 8 xa locs) (atR s.d xb) s.ctrl (-1)) := (tr3.mono (fun b hb => ⟨by omega, by omega⟩)).only oL (fun b hb e => hb.2.1 e)
  have B4 : Below w.heap.size w w4 := (Below.thru (Below.thru H.B B2 (Nat.le_refl _)) hb3 (Nat.le_refl _)).trans (oL.below (Nat.le_trans (Nat.le_trans H.B.size B2.size) hb3.size) (fun k hk => by omega))
  refine ⟨rwi_of (s.inc.write locs ⟨8, xd, xa, xb, xl, xi⟩ (-1)) r3 n (rrel_step E H hlt HX.out hst kt4 (Blk.only (kz2.keep hb3) oL (by omega)) (tr4.st rfl rfl rfl rfl rfl) H.more H.dep B4) (by rfl), ?_⟩
  simp [rmu, intOf]
  omega
end Go.Proofs.YtcalinfdckklfaaGreatDoor

namespace Go.Proofs.YtcalinfdckklfaaGreatDoor
open Go.RowKit
attribute [local go_sem] Ext.cell Ext.frozen

set_option maxRecDepth 1000000 in
set_option maxHeartbeats 16000000 in
theorem rr_stx3 (p pv pl : Option Addr) (c0 cv cl : Nat) (th : List Ins) (locs : Int) (vals : List Int) (lucks : List Bool) (w : World) (R : St) (k f : Nat → Value) (s : St) (r : Nat → Value) (n : Nat) (wr : World) (Q0 : Exit → Act → World → Prop) (E : REnv p pv pl c0 cv cl th locs vals lucks w) (H : RRel th locs vals lucks w R s r (n + 1) wr) (hlt : s.next < th.length) (xd xa xb xl xi : Int) (hx : th[s.next] = ⟨10, xd, xa, xb, xl, xi⟩) (q : Nat) (hq : s.opn = (q : Int)) (hq' : q < s.evs.length) (hlc : (s.evs[q].lc == placeZ s.v 10 xa xl locs) = true) (hlk : s.lucks < lucks.length) (hgd : lucks.getD s.lucks false = false) :
    Code.wp Tryz.prog rbody (Exit.then (fun a' w'' => RWI p pv pl c0 cv cl th locs vals lucks w R k a' w'' ∧ rmu th a' w'' < rmu th ⟨rfrm p pv pl c0 cv cl th locs vals lucks w k f s, []⟩ wr) Q0) ⟨rfrm p pv pl c0 cv cl th locs vals lucks w k f s, []⟩ wr := by
  have hst : s.inc.step locs vals lucks ⟨10, xd, xa, xb, xl, xi⟩ = (({ s.inc with lucks := s.inc.lucks + 1 } : St).fail ⟨10, xd, xa, xb, xl, xi⟩) := by
    have hre : s.inc.reach locs ⟨10, xd, xa, xb, xl, xi⟩ = true := by unfold St.reach; rw [show s.inc.lcAt s.inc.opn = s.evs[q].lc from by show s.inc.lcAt s.opn = _; rw [hq]; exact lc_at (s := s.inc) hq']; rw [show (s.evs[q].lc == placeZ s.inc.v 10 xa xl locs) = true from hlc, show s.inc.opn = (q : Int) from hq]; simp
    unfold St.step
    rw [if_neg (by simp), if_neg (by simp), if_pos (by simp)]
    rw [if_pos hre, if_neg (show ¬ s.inc.lucks = lucks.length from fun h => by have : s.lucks = lucks.length := h; omega), if_neg (by rw [show lucks.getD s.inc.lucks false = false from hgd]; simp)]
  have HST : Hid _ := hst
  clear hst
  obtain ⟨pr, cr, er⟩ := H.tr.e0.len
  have hge : ¬ lucks.length ≤ s.lucks := by omega
  have hge' : ¬ (lucks.length : Int) ≤ (s.lucks : Int) := by omega
  have hgd' : lucks[s.lucks] = false := by rw [← hgd]; simp [hlk]
  clear hgd
  have hnl := E.nl
  have hwl : wrap64 ((s.lucks : Int) + 1) = (s.lucks : Int) + 1 := wrap_is (by omega) (by omega)
  have hwm : wrap64 ((lucks.length : Int) - 1) = (lucks.length : Int) - 1 := wrap_is (by omega) (by omega)
  have HX : Hid _ := hx
  have hokx := E.ok s.next _ (List.getElem?_eq_getElem hlt)
  rw [hx] at hokx
  have hrun := H.run
  rw [run_step H.more hlt, hx] at hrun
  have HRun : Hid _ := hrun
  have HOk : Hid _ := hokx
  clear hrun hokx
  have hnx := H.ok.nx
  have h8 := E.h8
  have hev := H.ok.ev
  have hwr : wrap64 ((s.next : Int) + 1) = (s.next : Int) + 1 := wrap_is (by omega) (by omega)
  have hPl := fun w => rPlace_any s.v s.d 10 xd xa xb xl xi locs w E.l1 (by have := E.l3; omega)
  have hGet := fun n w => rGet_any s.v s.d n w
  have hSet := fun n y1 y2 w => rSet_any s.v s.d n y1 y2 w
  unfold fileV at hPl hGet hSet
  have HPl : Hid _ := hPl
  have HGet : Hid _ := hGet
  have HSet : Hid _ := hSet
  clear hPl hGet hSet
  have hne : ∀ w, Nonempty (Ext w) := ext_some
  have hne2 : Nonempty AnyW := anyW_some
  have hcells := (ins_at (E.ht.keep H.B)).2 s.next hlt
  rw [hx] at hcells
  obtain ⟨ub, uo, rfl, e0, e1, e2, e3, e4, e5⟩ := hcells
  clear hx
  have hub := cell_lt e0
  obtain ⟨⟨t0, t1, t2, t3⟩, t4, t5, t6, t7⟩ := H.kt.regs
  have lt0 := H.kt.lt
  have Ba := below_new wr (.cells #[.int .i64 10, .int .i64 xd, .int .i64 xa, .int .i64 xb, .int .i64 xl, .int .i64 xi] 72)
  have kIa : InsB (wr.alloc (.cells #[.int .i64 10, .int .i64 xd, .int .i64 xa, .int .i64 xb, .int .i64 xl, .int .i64 xi] 72)) wr.heap.size 10 xd xa xb xl xi := Blk.new
  have FA := trivial
  have FB := trivial
  conv => arg 2; whnf
  unfold rfrm
  rw [hq]
  clear hq
  go_wp2_with (first
    | (go_at_call 106; clear FA; refine (HPl.out _).mono ?_; rintro e w1 ⟨rfl, hb1⟩; have B1 : Below wr.heap.size wr w1 := Below.thru Ba hb1 (Nat.le_refl _); have kI1 := kIa.keep hb1; have kt1 := H.kt.keep B1; obtain ⟨⟨a0, a1, a2, a3⟩, a4, a5, a6, a7⟩ := kt1.regs; obtain ⟨b0, b1, b2, b3, b4, b5⟩ := kI1.cells; have lt1 := kt1.lt; have lI1 := kI1.lt)
    | (go_at_call 107; clear FB; refine (HGet.out _ _).mono ?_; rintro e w2 ⟨rfl, hb2⟩; have B2 : Below wr.heap.size wr w2 := Below.thru B1 hb2 (Nat.le_refl _); have kI2 := kI1.keep hb2; have kt2 := H.kt.keep B2; have kz2 := H.kz.keep B2; have tr2 := H.tr.keep B2; obtain ⟨⟨i0, i1, i2, i3⟩, i4, i5, i6, i7⟩ := kt2.regs; obtain ⟨m0, m1, m2⟩ := kt2.more; obtain ⟨o0, o1, o2, o3, o4⟩ := kt2.rows; obtain ⟨j0, j1, j2, j3, j4, j5⟩ := kI2.cells; have lt2 := kt2.lt; have lI2 := kI2.lt; have lz2 := kz2.lt; rw [er] at o0; have hsl2 := tr2.e0; rw [er] at hsl2; obtain ⟨gb, go, rfl, -, -, gl, -⟩ := (ev_at hsl2).2 q hq'; have lgl := cell_lt gl; clear hsl2; obtain ⟨gk, ok', rfl, glk⟩ := (bool_at ((E.hl.keep H.B).keep B2)).2 s.lucks hlk; rw [hgd'] at glk; have lgk := cell_lt glk; have fz := kt2.frozen 14; have FC := trivial)
    | (go_at_call 110; clear FC; refine (HSet.out _ _ _ _).mono ?_; rintro e w3 ⟨rfl, hb3⟩; have kt3 := (TrB.setLucks kt2 (n := (s.lucks : Int) + 1) (k := s.lucks + 1) rfl).keep hb3; obtain ⟨⟨g0, g1, g2, g3⟩, g4, g5, g6, g7⟩ := kt3.regs; have lt3 := kt3.lt; have v0 := kt3.frozen 5; have v1 := kt3.frozen 6; have v2 := kt3.frozen 7; have v3 := kt3.frozen 8; have v4 := kt3.frozen 9; have v5 := kt3.frozen 10; have v6 := kt3.frozen 11; have v7 := kt3.frozen 12))
  have hst := HST.out
  have kt4 := kt3.putR (upd s.v xd 1) (upd s.d xd 0)
  have O3 : Only (fun k => k = w.heap.size + 1) w2 w3 := (set_only (A := fun k => k = w.heap.size + 1) (b := w.heap.size + 1) (i := 14) Only.refl rfl (.int .i64 ((s.lucks : Int) + 1))).trans (Below.only hb3 : Only (fun k => k = w.heap.size + 1) _ _) (fun _ h => .inl h)
  have O4 : Only (fun k => k = w.heap.size + 1) w2 (putR w3 (w.heap.size + 1) (upd s.v xd 1) (upd s.d xd 0)) := O3.trans putR_only (fun _ h => .inl h)
  have tr4 := tr2.only O4 (fun b hb e => hb.2.1 e)
  have kz4 : TrB (putR w3 (w.heap.size + 1) (upd s.v xd 1) (upd s.d xd 0)) w.heap.size (fun _ => .slice none 0 0) .zero 34 := Blk.only kz2 O4 (by omega)
  have B4 : Below w.heap.size w (putR w3 (w.heap.size + 1) (upd s.v xd 1) (upd s.d xd 0)) := (Below.thru H.B B2 (Nat.le_refl _)).trans (O4.below (Nat.le_trans H.B.size B2.size) (fun k hk => by omega))
  refine ⟨rwi_of (({ s.inc with lucks := s.inc.lucks + 1 } : St).fail ⟨10, xd, xa, xb, xl, xi⟩) r n (rrel_step E H hlt HX.out hst kt4 kz4 (tr4.st rfl rfl rfl rfl rfl) H.more (depOk_upd H.dep _ ⟨by decide, by decide⟩) B4) (by rfl), ?_⟩
  simp [rmu, intOf]
  omega
end Go.Proofs.YtcalinfdckklfaaGreatDoor

namespace Go.Proofs.YtcalinfdckklfaaGreatDoor
open Go.RowKit
attribute [local go_sem] Ext.cell Ext.frozen

set_option maxRecDepth 1000000 in
set_option maxHeartbeats 16000000 in
theorem rr_stx4 (p pv pl : Option Addr) (c0 cv cl : Nat) (th : List Ins) (locs : Int) (vals : List Int) (lucks : List Bool) (w : World) (R : St) (k f : Nat → Value) (s : St) (r : Nat → Value) (n : Nat) (wr : World) (Q0 : Exit → Act → World → Prop) (E : REnv p pv pl c0 cv cl th locs vals lucks w) (H : RRel th locs vals lucks w R s r (n + 1) wr) (hlt : s.next < th.length) (xd xa xb xl xi : Int) (hx : th[s.next] = ⟨10, xd, xa, xb, xl, xi⟩) (q : Nat) (hq : s.opn = (q : Int)) (hq' : q < s.evs.length) (hlc : (s.evs[q].lc == placeZ s.v 10 xa xl locs) = true) (hlk : s.lucks < lucks.length) (hgd : lucks.getD s.lucks false = true) :
    Code.wp Tryz.prog rbody (Exit.then (fun a' w'' => RWI p pv pl c0 cv cl th locs vals lucks w R k a' w'' ∧ rmu th a' w'' < rmu th ⟨rfrm p pv pl c0 cv cl th locs vals lucks w k f s, []⟩ wr) Q0) ⟨rfrm p pv pl c0 cv cl th locs vals lucks w k f s, []⟩ wr := by
  have hst : s.inc.step locs vals lucks ⟨10, xd, xa, xb, xl, xi⟩ = (((({ s.inc with opn := -1, lucks := s.inc.lucks + 1 } : St).write locs ⟨10, xd, xa, xb, xl, xi⟩ (q : Int))).set xd 0 0) := by
    have hre : s.inc.reach locs ⟨10, xd, xa, xb, xl, xi⟩ = true := by unfold St.reach; rw [show s.inc.lcAt s.inc.opn = s.evs[q].lc from by show s.inc.lcAt s.opn = _; rw [hq]; exact lc_at (s := s.inc) hq']; rw [show (s.evs[q].lc == placeZ s.inc.v 10 xa xl locs) = true from hlc, show s.inc.opn = (q : Int) from hq]; simp
    unfold St.step
    rw [if_neg (by simp), if_neg (by simp), if_pos (by simp)]
    rw [if_pos hre, if_neg (show ¬ s.inc.lucks = lucks.length from fun h => by have : s.lucks = lucks.length := h; omega), if_pos (show lucks.getD s.inc.lucks false = true from hgd)]
    unfold St.stx
    rw [show s.inc.opn = (q : Int) from hq]
  have HST : Hid _ := hst
  clear hst
  obtain ⟨pr, cr, er⟩ := H.tr.e0.len
  have hge : ¬ lucks.length ≤ s.lucks := by omega
  have hge' : ¬ (lucks.length : Int) ≤ (s.lucks : Int) := by omega
  have hgd' : lucks[s.lucks] = true := by rw [← hgd]; simp [hlk]
  clear hgd
  have hnl := E.nl
  have hwl : wrap64 ((s.lucks : Int) + 1) = (s.lucks : Int) + 1 := wrap_is (by omega) (by omega)
  have hwm : wrap64 ((lucks.length : Int) - 1) = (lucks.length : Int) - 1 := wrap_is (by omega) (by omega)
  have hlen := lens_of H.ok E.h8
  have hW := fun W r (hT : TrN W r ({ s with lucks := s.lucks + 1 } : St)) => with_first (wrEv locs ⟨10, xd, xa, xb, xl, xi⟩ ({ s with lucks := s.lucks + 1 } : St)) (placeD s.d 10 xa locs) (atR s.d xb) s.ctrl (q : Int) r ({ s with lucks := s.lucks + 1 } : St) W hT hlen.1 hlen.2.1 hlen.2.2.1 hlen.2.2.2.1 hlen.2.2.2.2
  have HW : Hid _ := hW
  clear hW hlen
  have HX : Hid _ := hx
  have hokx := E.ok s.next _ (List.getElem?_eq_getElem hlt)
  rw [hx] at hokx
  have hrun := H.run
  rw [run_step H.more hlt, hx] at hrun
  have HRun : Hid _ := hrun
  have HOk : Hid _ := hokx
  clear hrun hokx
  have hnx := H.ok.nx
  have h8 := E.h8
  have hev := H.ok.ev
  have hwr : wrap64 ((s.next : Int) + 1) = (s.next : Int) + 1 := wrap_is (by omega) (by omega)
  have hPl := fun w => rPlace_any s.v s.d 10 xd xa xb xl xi locs w E.l1 (by have := E.l3; omega)
  have hGet := fun n w => rGet_any s.v s.d n w
  have hSet := fun n y1 y2 w => rSet_any s.v s.d n y1 y2 w
  unfold fileV at hPl hGet hSet
  have HPl : Hid _ := hPl
  have HGet : Hid _ := hGet
  have HSet : Hid _ := hSet
  clear hPl hGet hSet
  have hne : ∀ w, Nonempty (Ext w) := ext_some
  have hne2 : Nonempty AnyW := anyW_some
  have hcells := (ins_at (E.ht.keep H.B)).2 s.next hlt
  rw [hx] at hcells
  obtain ⟨ub, uo, rfl, e0, e1, e2, e3, e4, e5⟩ := hcells
  clear hx
  have hub := cell_lt e0
  obtain ⟨⟨t0, t1, t2, t3⟩, t4, t5, t6, t7⟩ := H.kt.regs
  have lt0 := H.kt.lt
  have Ba := below_new wr (.cells #[.int .i64 10, .int .i64 xd, .int .i64 xa, .int .i64 xb, .int .i64 xl, .int .i64 xi] 72)
  have kIa : InsB (wr.alloc (.cells #[.int .i64 10, .int .i64 xd, .int .i64 xa, .int .i64 xb, .int .i64 xl, .int .i64 xi] 72)) wr.heap.size 10 xd xa xb xl xi := Blk.new
  have FA := trivial
  have FB := trivial
  conv => arg 2; whnf
  unfold rfrm
  rw [hq]
  clear hq
  go_wp2_with (first
    | (go_at_call 106; clear FA; refine (HPl.out _).mono ?_; rintro e w1 ⟨rfl, hb1⟩; have B1 : Below wr.heap.size wr w1 := Below.thru Ba hb1 (Nat.le_refl _); have kI1 := kIa.keep hb1; have kt1 := H.kt.keep B1; obtain ⟨⟨a0, a1, a2, a3⟩, a4, a5, a6, a7⟩ := kt1.regs; obtain ⟨b0, b1, b2, b3, b4, b5⟩ := kI1.cells; have lt1 := kt1.lt; have lI1 := kI1.lt)
    | (go_at_call 107; clear FB; refine (HGet.out _ _).mono ?_; rintro e w2 ⟨rfl, hb2⟩; have B2 : Below wr.heap.size wr w2 := Below.thru B1 hb2 (Nat.le_refl _); have kI2 := kI1.keep hb2; have kt2 := H.kt.keep B2; have kz2 := H.kz.keep B2; have tr2 := H.tr.keep B2; obtain ⟨⟨i0, i1, i2, i3⟩, i4, i5, i6, i7⟩ := kt2.regs; obtain ⟨m0, m1, m2⟩ := kt2.more; obtain ⟨o0, o1, o2, o3, o4⟩ := kt2.rows; obtain ⟨j0, j1, j2, j3, j4, j5⟩ := kI2.cells; have lt2 := kt2.lt; have lI2 := kI2.lt; have lz2 := kz2.lt; rw [er] at o0; have hsl2 := tr2.e0; rw [er] at hsl2; obtain ⟨gb, go, rfl, -, -, gl, -⟩ := (ev_at hsl2).2 q hq'; have lgl := cell_lt gl; clear hsl2; obtain ⟨gk, ok', rfl, glk⟩ := (bool_at ((E.hl.keep H.B).keep B2)).2 s.lucks hlk; rw [hgd'] at glk; have lgk := cell_lt glk; have fz := kt2.frozen 14; have FC := trivial)
    | (go_at_call 109; clear FC; refine (HW.out _ (updV r 0 (.slice (some ⟨gb, go, none⟩) s.evs.length cr)) (by rw [updV_self er]; exact ((tr2.only (set_only (A := fun k => k = w.heap.size + 1) (b := w.heap.size + 1) (i := 14) Only.refl rfl (.int .i64 ((s.lucks : Int) + 1))) (fun b hb e => hb.2.1 e)).st (s' := ({ s with lucks := s.lucks + 1 } : St)) rfl rfl rfl rfl rfl).n)).mono ?_; rintro e w3 ⟨r3, rfl, tr3, hb3⟩; have FD := trivial)
    | (clear FD; refine wpList_storeB (by rfl) 34 (.tmp 9) (.tmp 195) (by rfl) (w.heap.size + 1) (trC r3 (({ s with lucks := s.lucks + 1 } : St).addC (wrEv locs ⟨10, xd, xa, xb, xl, xi⟩ ({ s with lucks := s.lucks + 1 } : St)) (placeD s.d 10 xa locs) (atR s.d xb) s.ctrl (q : Int))) _ 34 (by rfl) (by rfl) ((TrB.setLucks kt2 (n := (s.lucks : Int) + 1) (k := s.lucks + 1) rfl).keep hb3) (by kernel_rfl) (by rfl) (one16A tr3) ?_; intro w5 kt5 o5 z5; simp only [Act.put]; obtain ⟨⟨h0, h1, h2, h3⟩, h4, h5, h6, h7⟩ := TrB.regs kt5; simp only [St.addC] at h0 h1 h2 h3 h4 h5 h6 h7; have lt5 := TrB.lt kt5; have O25 : Only (fun k => k = w.heap.size + 1) w2 w5 := ((set_only (A := fun k => k = w.heap.size + 1) (b := w.heap.size + 1) (i := 14) Only.refl rfl (.int .i64 ((s.lucks : Int) + 1))).trans (Below.only hb3 : Only (fun k => k = w.heap.size + 1) _ _) (fun _ h => .inl h)).trans o5 (fun _ h => .inl h); have kI5 : InsB w5 wr.heap.size 10 xd xa xb xl xi := Blk.only kI2 O25 (by omega); obtain ⟨q0, q1, q2, q3, q4, q5⟩ := kI5.cells; have lI5 := kI5.lt; have FE := trivial)
    | (go_at_call 110; clear FE; refine (HSet.out _ _ _ _).mono ?_; rintro e w6 ⟨rfl, hb6⟩; have kt6 := TrB.keep kt5 hb6; obtain ⟨⟨g0, g1, g2, g3⟩, g4, g5, g6, g7⟩ := kt6.regs; have lt6 := kt6.lt; have v0 := kt6.frozen 5; have v1 := kt6.frozen 6; have v2 := kt6.frozen 7; have v3 := kt6.frozen 8; have v4 := kt6.frozen 9; have v5 := kt6.frozen 10; have v6 := kt6.frozen 11; have v7 := kt6.frozen 12))
  have hst := HST.out
  have kt8 := kt6.putR (upd s.v xd 0) (upd s.d xd 0)
  have O8 : Only (fun k => k = w.heap.size + 1) w5 (putR w6 (w.heap.size + 1) (upd s.v xd 0) (upd s.d xd 0)) := (Below.only hb6 : Only (fun k => k = w.heap.size + 1) _ _).trans putR_only (fun _ h => .inl h)
  have O28 := O25.trans O8 (fun _ h => .inl h)
  have tr8 := ((tr3.mono (B := Aside2 w.heap.size) (fun b hb => ⟨by simp at hb; omega, by simp at hb; omega⟩)).only o5 (fun b hb e => hb.2.1 e)).only O8 (fun b hb e => hb.2.1 e)
  have kz8 : TrB (putR w6 (w.heap.size + 1) (upd s.v xd 0) (upd s.d xd 0)) w.heap.size (fun _ => .slice none 0 0) .zero 34 := Blk.only kz2 O28 (by omega)
  have B8 : Below w.heap.size w (putR w6 (w.heap.size + 1) (upd s.v xd 0) (upd s.d xd 0)) := (Below.thru H.B B2 (Nat.le_refl _)).trans (O28.below (Nat.le_trans H.B.size B2.size) (fun k hk => by omega))
  refine ⟨rwi_of (((({ s.inc with opn := -1, lucks := s.inc.lucks + 1 } : St).write locs ⟨10, xd, xa, xb, xl, xi⟩ (q : Int))).set xd 0 0) r3 n (rrel_step E H hlt HX.out hst kt8 kz8 (tr8.st rfl rfl rfl rfl rfl) H.more (depOk_upd H.dep _ ⟨by decide, by decide⟩) B8) (by rfl), ?_⟩
  simp [rmu, intOf]
  omega
end Go.Proofs.YtcalinfdckklfaaGreatDoor
