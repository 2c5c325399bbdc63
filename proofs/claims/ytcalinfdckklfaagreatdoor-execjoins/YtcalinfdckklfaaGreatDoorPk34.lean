/- FlowRefA: FlowRefA, FlowRefB, in one text. -/
import Derived.Test.YtcalinfdckklfaaGreatDoorPk33
namespace Go.Proofs.YtcalinfdckklfaaGreatDoor
open Go.RowKit
attribute [local go_sem] Ext.cell Ext.frozen

set_option maxRecDepth 1000000 in
set_option maxHeartbeats 16000000 in
theorem rr_do1 (p pv pl : Option Addr) (c0 cv cl : Nat) (th : List Ins) (locs : Int) (vals : List Int) (lucks : List Bool) (w : World) (R : St) (k f : Nat → Value) (s : St) (r : Nat → Value) (n : Nat) (wr : World) (Q0 : Exit → Act → World → Prop) (E : REnv p pv pl c0 cv cl th locs vals lucks w) (H : RRel th locs vals lucks w R s r (n + 1) wr) (hlt : s.next < th.length) (xd xa xb xl xi : Int) (hx : th[s.next] = ⟨1, xd, xa, xb, xl, xi⟩) :
    Code.wp Tryz.prog rbody (Exit.then (fun a' w'' => RWI p pv pl c0 cv cl th locs vals lucks w R k a' w'' ∧ rmu th a' w'' < rmu th ⟨rfrm p pv pl c0 cv cl th locs vals lucks w k f s, []⟩ wr) Q0) ⟨rfrm p pv pl c0 cv cl th locs vals lucks w k f s, []⟩ wr := by
  have hDo := fun w => rDo_in s.v s.d 1 xd xa xb xl xi w H.dep (by decide) (by decide) (fun h => (E.ok s.next _ (List.getElem?_eq_getElem hlt)).aa (by rw [hx]; first | rfl | exact absurd rfl h) (by rw [hx]; rfl) |> fun q => by rw [hx] at q; exact q) (fun h => (E.ok s.next _ (List.getElem?_eq_getElem hlt)).bb (by rw [hx]; first | rfl | exact absurd rfl h) |> fun q => by rw [hx] at q; exact q)
  unfold fileV at hDo
  have HDo : Hid _ := hDo
  clear hDo
  have HX : Hid _ := hx
  have hokx := E.ok s.next _ (List.getElem?_eq_getElem hlt)
  rw [hx] at hokx
  have hrun := H.run
  rw [run_step H.more hlt, hx] at hrun
  have HRun : Hid _ := hrun
  have HOk : Hid _ := hokx
  clear hrun hokx
  have hnx := H.ok.nx
  have h8 := E.h8
  have hev := H.ok.ev
  have hwr : wrap64 ((s.next : Int) + 1) = (s.next : Int) + 1 := wrap_is (by omega) (by omega)
  have hPl := fun w => rPlace_any s.v s.d 1 xd xa xb xl xi locs w E.l1 (by have := E.l3; omega)
  have hGet := fun n w => rGet_any s.v s.d n w
  have hSet := fun n y1 y2 w => rSet_any s.v s.d n y1 y2 w
  unfold fileV at hPl hGet hSet
  have HPl : Hid _ := hPl
  have HGet : Hid _ := hGet
  have HSet : Hid _ := hSet
  clear hPl hGet hSet
  have hne : ∀ w, Nonempty (Ext w) := ext_some
  have hne2 : Nonempty AnyW := anyW_some
  have hcells := (ins_at (E.ht.keep H.B)).2 s.next hlt
  rw [hx] at hcells
  obtain ⟨ub, uo, rfl, e0, e1, e2, e3, e4, e5⟩ := hcells
  clear hx
  have hub := cell_lt e0
  obtain ⟨⟨t0, t1, t2, t3⟩, t4, t5, t6, t7⟩ := H.kt.regs
  have lt0 := H.kt.lt
  have Ba := below_new wr (.cells #[.int .i64 1, .int .i64 xd, .int .i64 xa, .int .i64 xb, .int .i64 xl, .int .i64 xi] 72)
  have kIa : InsB (wr.alloc (.cells #[.int .i64 1, .int .i64 xd, .int .i64 xa, .int .i64 xb, .int .i64 xl, .int .i64 xi] 72)) wr.heap.size 1 xd xa xb xl xi := Blk.new
  have FA := trivial
  have FB := trivial
  conv => arg 2; whnf
  unfold rfrm
  go_wp2_with (first
    | (go_at_call 106; clear FA; refine (HPl.out _).mono ?_; rintro e w1 ⟨rfl, hb1⟩; have B1 : Below wr.heap.size wr w1 := Below.thru Ba hb1 (Nat.le_refl _); have kI1 := kIa.keep hb1; have kt1 := H.kt.keep B1; obtain ⟨⟨a0, a1, a2, a3⟩, a4, a5, a6, a7⟩ := kt1.regs; obtain ⟨b0, b1, b2, b3, b4, b5⟩ := kI1.cells; have lt1 := kt1.lt; have lI1 := kI1.lt)
    | (go_at_call 107; clear FB; refine (HGet.out _ _).mono ?_; rintro e w2 ⟨rfl, hb2⟩; have B2 : Below wr.heap.size wr w2 := Below.thru B1 hb2 (Nat.le_refl _); have kI2 := kI1.keep hb2; have kt2 := H.kt.keep B2; have kz2 := H.kz.keep B2; have tr2 := H.tr.keep B2; obtain ⟨⟨i0, i1, i2, i3⟩, i4, i5, i6, i7⟩ := kt2.regs; obtain ⟨m0, m1, m2⟩ := kt2.more; obtain ⟨o0, o1, o2, o3, o4⟩ := kt2.rows; obtain ⟨j0, j1, j2, j3, j4, j5⟩ := kI2.cells; have lt2 := kt2.lt; have lI2 := kI2.lt; have lz2 := kz2.lt; have FC := trivial)
    | (go_at_call 108; clear FC; refine (HDo.out _).mono ?_; rintro e w3 ⟨rfl, hb3⟩; have B3 : Below wr.heap.size wr w3 := Below.thru B2 hb3 (Nat.le_refl _); have kt3 := H.kt.keep B3; obtain ⟨⟨g0, g1, g2, g3⟩, g4, g5, g6, g7⟩ := kt3.regs; have lt3 := kt3.lt; have v0 := kt3.frozen 5; have v1 := kt3.frozen 6; have v2 := kt3.frozen 7; have v3 := kt3.frozen 8; have v4 := kt3.frozen 9; have v5 := kt3.frozen 10; have v6 := kt3.frozen 11; have v7 := kt3.frozen 12))
  have kt4 := kt3.putR (doV s.v 1 xd xa xb xi) (doD s.d 1 xd xa xb)
  have O4 : Only (fun k => k = w.heap.size + 1) w3 (putR w3 (w.heap.size + 1) (doV s.v 1 xd xa xb xi) (doD s.d 1 xd xa xb)) := putR_only
  have tr4 := (H.tr.keep B3).only O4 (fun b hb e => hb.2.1 e)
  have kz4 : TrB (putR w3 (w.heap.size + 1) (doV s.v 1 xd xa xb xi) (doD s.d 1 xd xa xb)) w.heap.size (fun _ => .slice none 0 0) .zero 34 := Blk.only (H.kz.keep B3) O4 (by omega)
  have B4 : Below w.heap.size w (putR w3 (w.heap.size + 1) (doV s.v 1 xd xa xb xi) (doD s.d 1 xd xa xb)) := (Below.thru H.B B3 (Nat.le_refl _)).trans (O4.below (Nat.le_trans H.B.size B3.size) (fun k hk => by omega))
  refine ⟨rwi_of { s.inc with v := doV s.v 1 xd xa xb xi, d := doD s.d 1 xd xa xb } r n (rrel_step E H hlt HX.out rfl kt4 kz4 (tr4.st rfl rfl rfl rfl rfl) H.more (depOk_do H.dep _ _ _ _) B4) (by rfl), ?_⟩
  · simp [rmu, intOf]
    omega
set_option maxRecDepth 1000000 in
set_option maxHeartbeats 16000000 in
theorem rr_do2 (p pv pl : Option Addr) (c0 cv cl : Nat) (th : List Ins) (locs : Int) (vals : List Int) (lucks : List Bool) (w : World) (R : St) (k f : Nat → Value) (s : St) (r : Nat → Value) (n : Nat) (wr : World) (Q0 : Exit → Act → World → Prop) (E : REnv p pv pl c0 cv cl th locs vals lucks w) (H : RRel th locs vals lucks w R s r (n + 1) wr) (hlt : s.next < th.length) (xd xa xb xl xi : Int) (hx : th[s.next] = ⟨2, xd, xa, xb, xl, xi⟩) :
    Code.wp Tryz.prog rbody (Exit.then (fun a' w'' => RWI p pv pl c0 cv cl th locs vals lucks w R k a' w'' ∧ rmu th a' w'' < rmu th ⟨rfrm p pv pl c0 cv cl th locs vals lucks w k f s, []⟩ wr) Q0) ⟨rfrm p pv pl c0 cv cl th locs vals lucks w k f s, []⟩ wr := by
  have hDo := fun w => rDo_in s.v s.d 2 xd xa xb xl xi w H.dep (by decide) (by decide) (fun h => (E.ok s.next _ (List.getElem?_eq_getElem hlt)).aa (by rw [hx]; first | rfl | exact absurd rfl h) (by rw [hx]; rfl) |> fun q => by rw [hx] at q; exact q) (fun h => (E.ok s.next _ (List.getElem?_eq_getElem hlt)).bb (by rw [hx]; first | rfl | exact absurd rfl h) |> fun q => by rw [hx] at q; exact q)
  unfold fileV at hDo
  have HDo : Hid _ := hDo
  clear hDo
  have HX : Hid _ := hx
  have hokx := E.ok s.next _ (List.getElem?_eq_getElem hlt)
  rw [hx] at hokx
  have hrun := H.run
  rw [run_step H.more hlt, hx] at hrun
  have HRun : Hid _ := hrun
  have HOk : Hid _ := hokx
  clear hrun hokx
  have hnx := H.ok.nx
  have h8 := E.h8
  have hev := H.ok.ev
  have hwr : wrap64 ((s.next : Int) + 1) = (s.next : Int) + 1 := wrap_is (by omega) (by omega)
  have hPl := fun w => rPlace_any s.v s.d 2 xd xa xb xl xi locs w E.l1 (by have := E.l3; omega)
  have hGet := fun n w => rGet_any s.v s.d n w
  have hSet := fun n y1 y2 w => rSet_any s.v s.d n y1 y2 w
  unfold fileV at hPl hGet hSet
  have HPl : Hid _ := hPl
  have HGet : Hid _ := hGet
  have HSet : Hid _ := hSet
  clear hPl hGet hSet
  have hne : ∀ w, Nonempty (Ext w) := ext_some
  have hne2 : Nonempty AnyW := anyW_some
  have hcells := (ins_at (E.ht.keep H.B)).2 s.next hlt
  rw [hx] at hcells
  obtain ⟨ub, uo, rfl, e0, e1, e2, e3, e4, e5⟩ := hcells
  clear hx
  have hub := cell_lt e0
  obtain ⟨⟨t0, t1, t2, t3⟩, t4, t5, t6, t7⟩ := H.kt.regs
  have lt0 := H.kt.lt
  have Ba := below_new wr (.cells #[.int .i64 2, .int .i64 xd, .int .i64 xa, .int .i64 xb, .int .i64 xl, .int .i64 xi] 72)
  have kIa : InsB (wr.alloc (.cells #[.int .i64 2, .int .i64 xd, .int .i64 xa, .int .i64 xb, .int .i64 xl, .int .i64 xi] 72)) wr.heap.size 2 xd xa xb xl xi := Blk.new
  have FA := trivial
  have FB := trivial
  conv => arg 2; whnf
  unfold rfrm
  go_wp2_with (first
    | (go_at_call 106; clear FA; refine (HPl.out _).mono ?_; rintro e w1 ⟨rfl, hb1⟩; have B1 : Below wr.heap.size wr w1 := Below.thru Ba hb1 (Nat.le_refl _); have kI1 := kIa.keep hb1; have kt1 := H.kt.keep B1; obtain ⟨⟨a0, a1, a2, a3⟩, a4, a5, a6, a7⟩ := kt1.regs; obtain ⟨b0, b1, b2, b3, b4, b5⟩ := kI1.cells; have lt1 := kt1.lt; have lI1 := kI1.lt)
    | (go_at_call 107; clear FB; refine (HGet.out _ _).mono ?_; rintro e w2 ⟨rfl, hb2⟩; have B2 : Below wr.heap.size wr w2 := Below.thru B1 hb2 (Nat.le_refl _); have kI2 := kI1.keep hb2; have kt2 := H.kt.keep B2; have kz2 := H.kz.keep B2; have tr2 := H.tr.keep B2; obtain ⟨⟨i0, i1, i2, i3⟩, i4, i5, i6, i7⟩ := kt2.regs; obtain ⟨m0, m1, m2⟩ := kt2.more; obtain ⟨o0, o1, o2, o3, o4⟩ := kt2.rows; obtain ⟨j0, j1, j2, j3, j4, j5⟩ := kI2.cells; have lt2 := kt2.lt; have lI2 := kI2.lt; have lz2 := kz2.lt; have FC := trivial)
    | (go_at_call 108; clear FC; refine (HDo.out _).mono ?_; rintro e w3 ⟨rfl, hb3⟩; have B3 : Below wr.heap.size wr w3 := Below.thru B2 hb3 (Nat.le_refl _); have kt3 := H.kt.keep B3; obtain ⟨⟨g0, g1, g2, g3⟩, g4, g5, g6, g7⟩ := kt3.regs; have lt3 := kt3.lt; have v0 := kt3.frozen 5; have v1 := kt3.frozen 6; have v2 := kt3.frozen 7; have v3 := kt3.frozen 8; have v4 := kt3.frozen 9; have v5 := kt3.frozen 10; have v6 := kt3.frozen 11; have v7 := kt3.frozen 12))
  have kt4 := kt3.putR (doV s.v 2 xd xa xb xi) (doD s.d 2 xd xa xb)
  have O4 : Only (fun k => k = w.heap.size + 1) w3 (putR w3 (w.heap.size + 1) (doV s.v 2 xd xa xb xi) (doD s.d 2 xd xa xb)) := putR_only
  have tr4 := (H.tr.keep B3).only O4 (fun b hb e => hb.2.1 e)
  have kz4 : TrB (putR w3 (w.heap.size + 1) (doV s.v 2 xd xa xb xi) (doD s.d 2 xd xa xb)) w.heap.size (fun _ => .slice none 0 0) .zero 34 := Blk.only (H.kz.keep B3) O4 (by omega)
  have B4 : Below w.heap.size w (putR w3 (w.heap.size + 1) (doV s.v 2 xd xa xb xi) (doD s.d 2 xd xa xb)) := (Below.thru H.B B3 (Nat.le_refl _)).trans (O4.below (Nat.le_trans H.B.size B3.size) (fun k hk => by omega))
  refine ⟨rwi_of { s.inc with v := doV s.v 2 xd xa xb xi, d := doD s.d 2 xd xa xb } r n (rrel_step E H hlt HX.out rfl kt4 kz4 (tr4.st rfl rfl rfl rfl rfl) H.more (depOk_do H.dep _ _ _ _) B4) (by rfl), ?_⟩
  · simp [rmu, intOf]
    omega
set_option maxRecDepth 1000000 in
set_option maxHeartbeats 16000000 in
theorem rr_do3 (p pv pl : Option Addr) (c0 cv cl : Nat) (th : List Ins) (locs : Int) (vals : List Int) (lucks : List Bool) (w : World) (R : St) (k f : Nat → Value) (s : St) (r : Nat → Value) (n : Nat) (wr : World) (Q0 : Exit → Act → World → Prop) (E : REnv p pv pl c0 cv cl th locs vals lucks w) (H : RRel th locs vals lucks w R s r (n + 1) wr) (hlt : s.next < th.length) (xd xa xb xl xi : Int) (hx : th[s.next] = ⟨3, xd, xa, xb, xl, xi⟩) :
    Code.wp Tryz.prog rbody (Exit.then (fun a' w'' => RWI p pv pl c0 cv cl th locs vals lucks w R k a' w'' ∧ rmu th a' w'' < rmu th ⟨rfrm p pv pl c0 cv cl th locs vals lucks w k f s, []⟩ wr) Q0) ⟨rfrm p pv pl c0 cv cl th locs vals lucks w k f s, []⟩ wr := by
  have hDo := fun w => rDo_in s.v s.d 3 xd xa xb xl xi w H.dep (by decide) (by decide) (fun h => (E.ok s.next _ (List.getElem?_eq_getElem hlt)).aa (by rw [hx]; first | rfl | exact absurd rfl h) (by rw [hx]; rfl) |> fun q => by rw [hx] at q; exact q) (fun h => (E.ok s.next _ (List.getElem?_eq_getElem hlt)).bb (by rw [hx]; first | rfl | exact absurd rfl h) |> fun q => by rw [hx] at q; exact q)
  unfold fileV at hDo
  have HDo : Hid _ := hDo
  clear hDo
  have HX : Hid _ := hx
  have hokx := E.ok s.next _ (List.getElem?_eq_getElem hlt)
  rw [hx] at hokx
  have hrun := H.run
  rw [run_step H.more hlt, hx] at hrun
  have HRun : Hid _ := hrun
  have HOk : Hid _ := hokx
  clear hrun hokx
  have hnx := H.ok.nx
  have h8 := E.h8
  have hev := H.ok.ev
  have hwr : wrap64 ((s.next : Int) + 1) = (s.next : Int) + 1 := wrap_is (by omega) (by omega)
  have hPl := fun w => rPlace_any s.v s.d 3 xd xa xb xl xi locs w E.l1 (by have := E.l3; omega)
  have hGet := fun n w => rGet_any s.v s.d n w
  have hSet := fun n y1 y2 w => rSet_any s.v s.d n y1 y2 w
  unfold fileV at hPl hGet hSet
  have HPl : Hid _ := hPl
  have HGet : Hid _ := hGet
  have HSet : Hid _ := hSet
  clear hPl hGet hSet
  have hne : ∀ w, Nonempty (Ext w) := ext_some
  have hne2 : Nonempty AnyW := anyW_some
  have hcells := (ins_at (E.ht.keep H.B)).2 s.next hlt
  rw [hx] at hcells
  obtain ⟨ub, uo, rfl, e0, e1, e2, e3, e4, e5⟩ := hcells
  clear hx
  have hub := cell_lt e0
  obtain ⟨⟨t0, t1, t2, t3⟩, t4, t5, t6, t7⟩ := H.kt.regs
  have lt0 := H.kt.lt
  have Ba := below_new wr (.cells #[.int .i64 3, .int .i64 xd, .int .i64 xa, .int .i64 xb, .int .i64 xl, .int .i64 xi] 72)
  have kIa : InsB (wr.alloc (.cells #[.int .i64 3, .int .i64 xd, .int .i64 xa, .int .i64 xb, .int .i64 xl, .int .i64 xi] 72)) wr.heap.size 3 xd xa xb xl xi := Blk.new
  have FA := trivial
  have FB := trivial
  conv => arg 2; whnf
  unfold rfrm
  go_wp2_with (first
    | (go_at_call 106; clear FA; refine (HPl.out _).mono ?_; rintro e w1 ⟨rfl, hb1⟩; have B1 : Below wr.heap.size wr w1 := Below.thru Ba hb1 (Nat.le_refl _); have kI1 := kIa.keep hb1; have kt1 := H.kt.keep B1; obtain ⟨⟨a0, a1, a2, a3⟩, a4, a5, a6, a7⟩ := kt1.regs; obtain ⟨b0, b1, b2, b3, b4, b5⟩ := kI1.cells; have lt1 := kt1.lt; have lI1 := kI1.lt)
    | (go_at_call 107; clear FB; refine (HGet.out _ _).mono ?_; rintro e w2 ⟨rfl, hb2⟩; have B2 : Below wr.heap.size wr w2 := Below.thru B1 hb2 (Nat.le_refl _); have kI2 := kI1.keep hb2; have kt2 := H.kt.keep B2; have kz2 := H.kz.keep B2; have tr2 := H.tr.keep B2; obtain ⟨⟨i0, i1, i2, i3⟩, i4, i5, i6, i7⟩ := kt2.regs; obtain ⟨m0, m1, m2⟩ := kt2.more; obtain ⟨o0, o1, o2, o3, o4⟩ := kt2.rows; obtain ⟨j0, j1, j2, j3, j4, j5⟩ := kI2.cells; have lt2 := kt2.lt; have lI2 := kI2.lt; have lz2 := kz2.lt; have FC := trivial)
    | (go_at_call 108; clear FC; refine (HDo.out _).mono ?_; rintro e w3 ⟨rfl, hb3⟩; have B3 : Below wr.heap.size wr w3 := Below.thru B2 hb3 (Nat.le_refl _); have kt3 := H.kt.keep B3; obtain ⟨⟨g0, g1, g2, g3⟩, g4, g5, g6, g7⟩ := kt3.regs; have lt3 := kt3.lt; have v0 := kt3.frozen 5; have v1 := kt3.frozen 6; have v2 := kt3.frozen 7; have v3 := kt3.frozen 8; have v4 := kt3.frozen 9; have v5 := kt3.frozen 10; have v6 := kt3.frozen 11; have v7 := kt3.frozen 12))
  have kt4 := kt3.putR (doV s.v 3 xd xa xb xi) (doD s.d 3 xd xa xb)
  have O4 : Only (fun k => k = w.heap.size + 1) w3 (putR w3 (w.heap.size + 1) (doV s.v 3 xd xa xb xi) (doD s.d 3 xd xa xb)) := putR_only
  have tr4 := (H.tr.keep B3).only O4 (fun b hb e => hb.2.1 e)
  have kz4 : TrB (putR w3 (w.heap.size + 1) (doV s.v 3 xd xa xb xi) (doD s.d 3 xd xa xb)) w.heap.size (fun _ => .slice none 0 0) .zero 34 := Blk.only (H.kz.keep B3) O4 (by omega)
  have B4 : Below w.heap.size w (putR w3 (w.heap.size + 1) (doV s.v 3 xd xa xb xi) (doD s.d 3 xd xa xb)) := (Below.thru H.B B3 (Nat.le_refl _)).trans (O4.below (Nat.le_trans H.B.size B3.size) (fun k hk => by omega))
  refine ⟨rwi_of { s.inc with v := doV s.v 3 xd xa xb xi, d := doD s.d 3 xd xa xb } r n (rrel_step E H hlt HX.out rfl kt4 kz4 (tr4.st rfl rfl rfl rfl rfl) H.more (depOk_do H.dep _ _ _ _) B4) (by rfl), ?_⟩
  · simp [rmu, intOf]
    omega
set_option maxRecDepth 1000000 in
set_option maxHeartbeats 16000000 in
theorem rr_do4 (p pv pl : Option Addr) (c0 cv cl : Nat) (th : List Ins) (locs : Int) (vals : List Int) (lucks : List Bool) (w : World) (R : St) (k f : Nat → Value) (s : St) (r : Nat → Value) (n : Nat) (wr : World) (Q0 : Exit → Act → World → Prop) (E : REnv p pv pl c0 cv cl th locs vals lucks w) (H : RRel th locs vals lucks w R s r (n + 1) wr) (hlt : s.next < th.length) (xd xa xb xl xi : Int) (hx : th[s.next] = ⟨4, xd, xa, xb, xl, xi⟩) :
    Code.wp Tryz.prog rbody (Exit.then (fun a' w'' => RWI p pv pl c0 cv cl th locs vals lucks w R k a' w'' ∧ rmu th a' w'' < rmu th ⟨rfrm p pv pl c0 cv cl th locs vals lucks w k f s, []⟩ wr) Q0) ⟨rfrm p pv pl c0 cv cl th locs vals lucks w k f s, []⟩ wr := by
  have hDo := fun w => rDo_in s.v s.d 4 xd xa xb xl xi w H.dep (by decide) (by decide) (fun h => (E.ok s.next _ (List.getElem?_eq_getElem hlt)).aa (by rw [hx]; first | rfl | exact absurd rfl h) (by rw [hx]; rfl) |> fun q => by rw [hx] at q; exact q) (fun h => (E.ok s.next _ (List.getElem?_eq_getElem hlt)).bb (by rw [hx]; first | rfl | exact absurd rfl h) |> fun q => by rw [hx] at q; exact q)
  unfold fileV at hDo
  have HDo : Hid _ := hDo
  clear hDo
  have HX : Hid _ := hx
  have hokx := E.ok s.next _ (List.getElem?_eq_getElem hlt)
  rw [hx] at hokx
  have hrun := H.run
  rw [run_step H.more hlt, hx] at hrun
  have HRun : Hid _ := hrun
  have HOk : Hid _ := hokx
  clear hrun hokx
  have hnx := H.ok.nx
  have h8 := E.h8
  have hev := H.ok.ev
  have hwr : wrap64 ((s.next : Int) + 1) = (s.next : Int) + 1 := wrap_is (by omega) (by omega)
  have hPl := fun w => rPlace_any s.v s.d 4 xd xa xb xl xi locs w E.l1 (by have := E.l3; omega)
  have hGet := fun n w => rGet_any s.v s.d n w
  have hSet := fun n y1 y2 w => rSet_any s.v s.d n y1 y2 w
  unfold fileV at hPl hGet hSet
  have HPl : Hid _ := hPl
  have HGet : Hid _ := hGet
  have HSet : Hid _ := hSet
  clear hPl hGet hSet
  have hne : ∀ w, Nonempty (Ext w) := ext_some
  have hne2 : Nonempty AnyW := anyW_some
  have hcells := (ins_at (E.ht.keep H.B)).2 s.next hlt
  rw [hx] at hcells
  obtain ⟨ub, uo, rfl, e0, e1, e2, e3, e4, e5⟩ := hcells
  clear hx
  have hub := cell_lt e0
  obtain ⟨⟨t0, t1, t2, t3⟩, t4, t5, t6, t7⟩ := H.kt.regs
  have lt0 := H.kt.lt
  have Ba := below_new wr (.cells #[.int .i64 4, .int .i64 xd, .int .i64 xa, .int .i64 xb, .int .i64 xl, .int .i64 xi] 72)
  have kIa : InsB (wr.alloc (.cells #[.int .i64 4, .int .i64 xd, .int .i64 xa, .int .i64 xb, .int .i64 xl, .int .i64 xi] 72)) wr.heap.size 4 xd xa xb xl xi := Blk.new
  have FA := trivial
  have FB := trivial
  conv => arg 2; whnf
  unfold rfrm
  go_wp2_with (first
    | (go_at_call 106; clear FA; refine (HPl.out _).mono ?_; rintro e w1 ⟨rfl, hb1⟩; have B1 : Below wr.heap.size wr w1 := Below.thru Ba hb1 (Nat.le_refl _); have kI1 := kIa.keep hb1; have kt1 := H.kt.keep B1; obtain ⟨⟨a0, a1, a2, a3⟩, a4, a5, a6, a7⟩ := kt1.regs; obtain ⟨b0, b1, b2, b3, b4, b5⟩ := kI1.cells; have lt1 := kt1.lt; have lI1 := kI1.lt)
    | (go_at_call 107; clear FB; refine (HGet.out _ _).mono ?_; rintro e w2 ⟨rfl, hb2⟩; have B2 : Below wr.heap.size wr w2 := Below.thru B1 hb2 (Nat.le_refl _); have kI2 := kI1.keep hb2; have kt2 := H.kt.keep B2; have kz2 := H.kz.keep B2; have tr2 := H.tr.keep B2; obtain ⟨⟨i0, i1, i2, i3⟩, i4, i5, i6, i7⟩ := kt2.regs; obtain ⟨m0, m1, m2⟩ := kt2.more; obtain ⟨o0, o1, o2, o3, o4⟩ := kt2.rows; obtain ⟨j0, j1, j2, j3, j4, j5⟩ := kI2.cells; have lt2 := kt2.lt; have lI2 := kI2.lt; have lz2 := kz2.lt; have FC := trivial)
    | (go_at_call 108; clear FC; refine (HDo.out _).mono ?_; rintro e w3 ⟨rfl, hb3⟩; have B3 : Below wr.heap.size wr w3 := Below.thru B2 hb3 (Nat.le_refl _); have kt3 := H.kt.keep B3; obtain ⟨⟨g0, g1, g2, g3⟩, g4, g5, g6, g7⟩ := kt3.regs; have lt3 := kt3.lt; have v0 := kt3.frozen 5; have v1 := kt3.frozen 6; have v2 := kt3.frozen 7; have v3 := kt3.frozen 8; have v4 := kt3.frozen 9; have v5 := kt3.frozen 10; have v6 := kt3.frozen 11; have v7 := kt3.frozen 12))
  have kt4 := kt3.putR (doV s.v 4 xd xa xb xi) (doD s.d 4 xd xa xb)
  have O4 : Only (fun k => k = w.heap.size + 1) w3 (putR w3 (w.heap.size + 1) (doV s.v 4 xd xa xb xi) (doD s.d 4 xd xa xb)) := putR_only
  have tr4 := (H.tr.keep B3).only O4 (fun b hb e => hb.2.1 e)
  have kz4 : TrB (putR w3 (w.heap.size + 1) (doV s.v 4 xd xa xb xi) (doD s.d 4 xd xa xb)) w.heap.size (fun _ => .slice none 0 0) .zero 34 := Blk.only (H.kz.keep B3) O4 (by omega)
  have B4 : Below w.heap.size w (putR w3 (w.heap.size + 1) (doV s.v 4 xd xa xb xi) (doD s.d 4 xd xa xb)) := (Below.thru H.B B3 (Nat.le_refl _)).trans (O4.below (Nat.le_trans H.B.size B3.size) (fun k hk => by omega))
  refine ⟨rwi_of { s.inc with v := doV s.v 4 xd xa xb xi, d := doD s.d 4 xd xa xb } r n (rrel_step E H hlt HX.out rfl kt4 kz4 (tr4.st rfl rfl rfl rfl rfl) H.more (depOk_do H.dep _ _ _ _) B4) (by rfl), ?_⟩
  · simp [rmu, intOf]
    omega
end Go.Proofs.YtcalinfdckklfaaGreatDoor

namespace Go.Proofs.YtcalinfdckklfaaGreatDoor
open Go.RowKit
attribute [local go_sem] Ext.cell Ext.frozen

set_option maxRecDepth 1000000 in
set_option maxHeartbeats 16000000 in
theorem rr_ends5 (p pv pl : Option Addr) (c0 cv cl : Nat) (th : List Ins) (locs : Int) (vals : List Int) (lucks : List Bool) (w : World) (R : St) (k f : Nat → Value) (s : St) (r : Nat → Value) (n : Nat) (wr : World) (Q0 : Exit → Act → World → Prop) (E : REnv p pv pl c0 cv cl th locs vals lucks w) (H : RRel th locs vals lucks w R s r (n + 1) wr) (hlt : s.next < th.length) (xd xa xb xl xi : Int) (hx : th[s.next] = ⟨5, xd, xa, xb, xl, xi⟩) (hv : s.vals = vals.length) (hret : ∀ a' w'', RWR w R a' w'' → Q0 .ret a' w'') :
    Code.wp Tryz.prog rbody (Exit.then (fun a' w'' => RWI p pv pl c0 cv cl th locs vals lucks w R k a' w'' ∧ rmu th a' w'' < rmu th ⟨rfrm p pv pl c0 cv cl th locs vals lucks w k f s, []⟩ wr) Q0) ⟨rfrm p pv pl c0 cv cl th locs vals lucks w k f s, []⟩ wr := by
  have hst : s.inc.step locs vals lucks ⟨5, xd, xa, xb, xl, xi⟩ = ({ s.inc with more := 1 } : St) := by unfold St.step; rw [if_pos (by simp), if_pos (show s.inc.vals = vals.length from hv)]
  have hge : vals.length ≤ s.vals := by omega
  have hge' : (vals.length : Int) ≤ (s.vals : Int) := by omega
  clear hv
  have HST : Hid _ := hst
  clear hst
  have HX : Hid _ := hx
  have hokx := E.ok s.next _ (List.getElem?_eq_getElem hlt)
  rw [hx] at hokx
  have hrun := H.run
  rw [run_step H.more hlt, hx] at hrun
  have HRun : Hid _ := hrun
  have HOk : Hid _ := hokx
  clear hrun hokx
  have hnx := H.ok.nx
  have h8 := E.h8
  have hev := H.ok.ev
  have hwr : wrap64 ((s.next : Int) + 1) = (s.next : Int) + 1 := wrap_is (by omega) (by omega)
  have hPl := fun w => rPlace_any s.v s.d 5 xd xa xb xl xi locs w E.l1 (by have := E.l3; omega)
  have hGet := fun n w => rGet_any s.v s.d n w
  have hSet := fun n y1 y2 w => rSet_any s.v s.d n y1 y2 w
  unfold fileV at hPl hGet hSet
  have HPl : Hid _ := hPl
  have HGet : Hid _ := hGet
  have HSet : Hid _ := hSet
  clear hPl hGet hSet
  have hne : ∀ w, Nonempty (Ext w) := ext_some
  have hne2 : Nonempty AnyW := anyW_some
  have hcells := (ins_at (E.ht.keep H.B)).2 s.next hlt
  rw [hx] at hcells
  obtain ⟨ub, uo, rfl, e0, e1, e2, e3, e4, e5⟩ := hcells
  clear hx
  have hub := cell_lt e0
  obtain ⟨⟨t0, t1, t2, t3⟩, t4, t5, t6, t7⟩ := H.kt.regs
  have lt0 := H.kt.lt
  have Ba := below_new wr (.cells #[.int .i64 5, .int .i64 xd, .int .i64 xa, .int .i64 xb, .int .i64 xl, .int .i64 xi] 72)
  have kIa : InsB (wr.alloc (.cells #[.int .i64 5, .int .i64 xd, .int .i64 xa, .int .i64 xb, .int .i64 xl, .int .i64 xi] 72)) wr.heap.size 5 xd xa xb xl xi := Blk.new
  have FA := trivial
  have FB := trivial
  conv => arg 2; whnf
  unfold rfrm
  go_wp2_with (first
    | (go_at_call 106; clear FA; refine (HPl.out _).mono ?_; rintro e w1 ⟨rfl, hb1⟩; have B1 : Below wr.heap.size wr w1 := Below.thru Ba hb1 (Nat.le_refl _); have kI1 := kIa.keep hb1; have kt1 := H.kt.keep B1; obtain ⟨⟨a0, a1, a2, a3⟩, a4, a5, a6, a7⟩ := kt1.regs; obtain ⟨b0, b1, b2, b3, b4, b5⟩ := kI1.cells; have lt1 := kt1.lt; have lI1 := kI1.lt)
    | (go_at_call 107; clear FB; refine (HGet.out _ _).mono ?_; rintro e w2 ⟨rfl, hb2⟩; have B2 : Below wr.heap.size wr w2 := Below.thru B1 hb2 (Nat.le_refl _); have kI2 := kI1.keep hb2; have kt2 := H.kt.keep B2; have kz2 := H.kz.keep B2; have tr2 := H.tr.keep B2; obtain ⟨⟨i0, i1, i2, i3⟩, i4, i5, i6, i7⟩ := kt2.regs; obtain ⟨m0, m1, m2⟩ := kt2.more; obtain ⟨o0, o1, o2, o3, o4⟩ := kt2.rows; obtain ⟨j0, j1, j2, j3, j4, j5⟩ := kI2.cells; have lt2 := kt2.lt; have lI2 := kI2.lt; have lz2 := kz2.lt; have fz := kt2.frozen 15; have FC := trivial)
    | (clear FC; refine wpList_storeB (by rfl) 34 (.tmp 8) (.tmp 78) (by rfl) w.heap.size (trC r (({ s.inc with more := 1 } : St))) _ 34 (by rfl) (by rfl) (Blk.only kz2 (set_only (A := fun k => k = w.heap.size + 1) (b := w.heap.size + 1) (i := 15) Only.refl rfl (.int .i64 1)) (by omega)) (by kernel_rfl) (by rfl) (one16A tr2) ?_; intro wL kL oL zL; simp only [Act.put]))
  have hst := HST.out
  have OL : Only (fun k => k = w.heap.size ∨ k = w.heap.size + 1) w2 wL := ((set_only (A := fun k => k = w.heap.size + 1) (b := w.heap.size + 1) (i := 15) Only.refl rfl (.int .i64 1)).mono (fun _ h => .inr h)).trans (oL.mono (fun _ h => .inl h) : Only (fun k => k = w.heap.size ∨ k = w.heap.size + 1) _ _) (fun _ h => .inl h)
  have hR : ({ s.inc with more := 1 } : St) = R := by
    have := HRun.out
    rw [hst, run_done (.inl (by simp))] at this
    exact this
  rw [← hR]
  refine ⟨rfl, rfl, r, kL, (TrA.st (s' := ({ s.inc with more := 1 } : St)) (tr2.only OL (fun b hb e => by rcases e with e | e; exact hb.1 e; exact hb.2.1 e)) rfl rfl rfl rfl rfl).nw, ?_⟩
  exact (Below.thru H.B B2 (Nat.le_refl _)).trans (OL.below (Nat.le_trans H.B.size B2.size) (fun k hk => by omega))
set_option maxRecDepth 1000000 in
set_option maxHeartbeats 16000000 in
theorem rr_ends7 (p pv pl : Option Addr) (c0 cv cl : Nat) (th : List Ins) (locs : Int) (vals : List Int) (lucks : List Bool) (w : World) (R : St) (k f : Nat → Value) (s : St) (r : Nat → Value) (n : Nat) (wr : World) (Q0 : Exit → Act → World → Prop) (E : REnv p pv pl c0 cv cl th locs vals lucks w) (H : RRel th locs vals lucks w R s r (n + 1) wr) (hlt : s.next < th.length) (xd xa xb xl xi : Int) (hx : th[s.next] = ⟨7, xd, xa, xb, xl, xi⟩) (hv : s.vals = vals.length) (hret : ∀ a' w'', RWR w R a' w'' → Q0 .ret a' w'') :
    Code.wp Tryz.prog rbody (Exit.then (fun a' w'' => RWI p pv pl c0 cv cl th locs vals lucks w R k a' w'' ∧ rmu th a' w'' < rmu th ⟨rfrm p pv pl c0 cv cl th locs vals lucks w k f s, []⟩ wr) Q0) ⟨rfrm p pv pl c0 cv cl th locs vals lucks w k f s, []⟩ wr := by
  have hst : s.inc.step locs vals lucks ⟨7, xd, xa, xb, xl, xi⟩ = ({ s.inc with more := 1 } : St) := by unfold St.step; rw [if_pos (by simp), if_pos (show s.inc.vals = vals.length from hv)]
  have hge : vals.length ≤ s.vals := by omega
  have hge' : (vals.length : Int) ≤ (s.vals : Int) := by omega
  clear hv
  have HST : Hid _ := hst
  clear hst
  have HX : Hid _ := hx
  have hokx := E.ok s.next _ (List.getElem?_eq_getElem hlt)
  rw [hx] at hokx
  have hrun := H.run
  rw [run_step H.more hlt, hx] at hrun
  have HRun : Hid _ := hrun
  have HOk : Hid _ := hokx
  clear hrun hokx
  have hnx := H.ok.nx
  have h8 := E.h8
  have hev := H.ok.ev
  have hwr : wrap64 ((s.next : Int) + 1) = (s.next : Int) + 1 := wrap_is (by omega) (by omega)
  have hPl := fun w => rPlace_any s.v s.d 7 xd xa xb xl xi locs w E.l1 (by have := E.l3; omega)
  have hGet := fun n w => rGet_any s.v s.d n w
  have hSet := fun n y1 y2 w => rSet_any s.v s.d n y1 y2 w
  unfold fileV at hPl hGet hSet
  have HPl : Hid _ := hPl
  have HGet : Hid _ := hGet
  have HSet : Hid _ := hSet
  clear hPl hGet hSet
  have hne : ∀ w, Nonempty (Ext w) := ext_some
  have hne2 : Nonempty AnyW := anyW_some
  have hcells := (ins_at (E.ht.keep H.B)).2 s.next hlt
  rw [hx] at hcells
  obtain ⟨ub, uo, rfl, e0, e1, e2, e3, e4, e5⟩ := hcells
  clear hx
  have hub := cell_lt e0
  obtain ⟨⟨t0, t1, t2, t3⟩, t4, t5, t6, t7⟩ := H.kt.regs
  have lt0 := H.kt.lt
  have Ba := below_new wr (.cells #[.int .i64 7, .int .i64 xd, .int .i64 xa, .int .i64 xb, .int .i64 xl, .int .i64 xi] 72)
  have kIa : InsB (wr.alloc (.cells #[.int .i64 7, .int .i64 xd, .int .i64 xa, .int .i64 xb, .int .i64 xl, .int .i64 xi] 72)) wr.heap.size 7 xd xa xb xl xi := Blk.new
  have FA := trivial
  have FB := trivial
  conv => arg 2; whnf
  unfold rfrm
  go_wp2_with (first
    | (go_at_call 106; clear FA; refine (HPl.out _).mono ?_; rintro e w1 ⟨rfl, hb1⟩; have B1 : Below wr.heap.size wr w1 := Below.thru Ba hb1 (Nat.le_refl _); have kI1 := kIa.keep hb1; have kt1 := H.kt.keep B1; obtain ⟨⟨a0, a1, a2, a3⟩, a4, a5, a6, a7⟩ := kt1.regs; obtain ⟨b0, b1, b2, b3, b4, b5⟩ := kI1.cells; have lt1 := kt1.lt; have lI1 := kI1.lt)
    | (go_at_call 107; clear FB; refine (HGet.out _ _).mono ?_; rintro e w2 ⟨rfl, hb2⟩; have B2 : Below wr.heap.size wr w2 := Below.thru B1 hb2 (Nat.le_refl _); have kI2 := kI1.keep hb2; have kt2 := H.kt.keep B2; have kz2 := H.kz.keep B2; have tr2 := H.tr.keep B2; obtain ⟨⟨i0, i1, i2, i3⟩, i4, i5, i6, i7⟩ := kt2.regs; obtain ⟨m0, m1, m2⟩ := kt2.more; obtain ⟨o0, o1, o2, o3, o4⟩ := kt2.rows; obtain ⟨j0, j1, j2, j3, j4, j5⟩ := kI2.cells; have lt2 := kt2.lt; have lI2 := kI2.lt; have lz2 := kz2.lt; have fz := kt2.frozen 15; have FC := trivial)
    | (clear FC; refine wpList_storeB (by rfl) 34 (.tmp 8) (.tmp 78) (by rfl) w.heap.size (trC r (({ s.inc with more := 1 } : St))) _ 34 (by rfl) (by rfl) (Blk.only kz2 (set_only (A := fun k => k = w.heap.size + 1) (b := w.heap.size + 1) (i := 15) Only.refl rfl (.int .i64 1)) (by omega)) (by kernel_rfl) (by rfl) (one16A tr2) ?_; intro wL kL oL zL; simp only [Act.put]))
  have hst := HST.out
  have OL : Only (fun k => k = w.heap.size ∨ k = w.heap.size + 1) w2 wL := ((set_only (A := fun k => k = w.heap.size + 1) (b := w.heap.size + 1) (i := 15) Only.refl rfl (.int .i64 1)).mono (fun _ h => .inr h)).trans (oL.mono (fun _ h => .inl h) : Only (fun k => k = w.heap.size ∨ k = w.heap.size + 1) _ _) (fun _ h => .inl h)
  have hR : ({ s.inc with more := 1 } : St) = R := by
    have := HRun.out
    rw [hst, run_done (.inl (by simp))] at this
    exact this
  rw [← hR]
  refine ⟨rfl, rfl, r, kL, (TrA.st (s' := ({ s.inc with more := 1 } : St)) (tr2.only OL (fun b hb e => by rcases e with e | e; exact hb.1 e; exact hb.2.1 e)) rfl rfl rfl rfl rfl).nw, ?_⟩
  exact (Below.thru H.B B2 (Nat.le_refl _)).trans (OL.below (Nat.le_trans H.B.size B2.size) (fun k hk => by omega))
set_option maxRecDepth 1000000 in
set_option maxHeartbeats 16000000 in
theorem rr_ends9 (p pv pl : Option Addr) (c0 cv cl : Nat) (th : List Ins) (locs : Int) (vals : List Int) (lucks : List Bool) (w : World) (R : St) (k f : Nat → Value) (s : St) (r : Nat → Value) (n : Nat) (wr : World) (Q0 : Exit → Act → World → Prop) (E : REnv p pv pl c0 cv cl th locs vals lucks w) (H : RRel th locs vals lucks w R s r (n + 1) wr) (hlt : s.next < th.length) (xd xa xb xl xi : Int) (hx : th[s.next] = ⟨9, xd, xa, xb, xl, xi⟩) (hv : s.vals = vals.length) (hret : ∀ a' w'', RWR w R a' w'' → Q0 .ret a' w'') :
    Code.wp Tryz.prog rbody (Exit.then (fun a' w'' => RWI p pv pl c0 cv cl th locs vals lucks w R k a' w'' ∧ rmu th a' w'' < rmu th ⟨rfrm p pv pl c0 cv cl th locs vals lucks w k f s, []⟩ wr) Q0) ⟨rfrm p pv pl c0 cv cl th locs vals lucks w k f s, []⟩ wr := by
  have hst : s.inc.step locs vals lucks ⟨9, xd, xa, xb, xl, xi⟩ = ({ s.inc with more := 1 } : St) := by unfold St.step; rw [if_pos (by simp), if_pos (show s.inc.vals = vals.length from hv)]
  have hge : vals.length ≤ s.vals := by omega
  have hge' : (vals.length : Int) ≤ (s.vals : Int) := by omega
  clear hv
  have HST : Hid _ := hst
  clear hst
  have HX : Hid _ := hx
  have hokx := E.ok s.next _ (List.getElem?_eq_getElem hlt)
  rw [hx] at hokx
  have hrun := H.run
  rw [run_step H.more hlt, hx] at hrun
  have HRun : Hid _ := hrun
  have HOk : Hid _ := hokx
  clear hrun hokx
  have hnx := H.ok.nx
  have h8 := E.h8
  have hev := H.ok.ev
  have hwr : wrap64 ((s.next : Int) + 1) = (s.next : Int) + 1 := wrap_is (by omega) (by omega)
  have hPl := fun w => rPlace_any s.v s.d 9 xd xa xb xl xi locs w E.l1 (by have := E.l3; omega)
  have hGet := fun n w => rGet_any s.v s.d n w
  have hSet := fun n y1 y2 w => rSet_any s.v s.d n y1 y2 w
  unfold fileV at hPl hGet hSet
  have HPl : Hid _ := hPl
  have HGet : Hid _ := hGet
  have HSet : Hid _ := hSet
  clear hPl hGet hSet
  have hne : ∀ w, Nonempty (Ext w) := ext_some
  have hne2 : Nonempty AnyW := anyW_some
  have hcells := (ins_at (E.ht.keep H.B)).2 s.next hlt
  rw [hx] at hcells
  obtain ⟨ub, uo, rfl, e0, e1, e2, e3, e4, e5⟩ := hcells
  clear hx
  have hub := cell_lt e0
  obtain ⟨⟨t0, t1, t2, t3⟩, t4, t5, t6, t7⟩ := H.kt.regs
  have lt0 := H.kt.lt
  have Ba := below_new wr (.cells #[.int .i64 9, .int .i64 xd, .int .i64 xa, .int .i64 xb, .int .i64 xl, .int .i64 xi] 72)
  have kIa : InsB (wr.alloc (.cells #[.int .i64 9, .int .i64 xd, .int .i64 xa, .int .i64 xb, .int .i64 xl, .int .i64 xi] 72)) wr.heap.size 9 xd xa xb xl xi := Blk.new
  have FA := trivial
  have FB := trivial
  conv => arg 2; whnf
  unfold rfrm
  go_wp2_with (first
    | (go_at_call 106; clear FA; refine (HPl.out _).mono ?_; rintro e w1 ⟨rfl, hb1⟩; have B1 : Below wr.heap.size wr w1 := Below.thru Ba hb1 (Nat.le_refl _); have kI1 := kIa.keep hb1; have kt1 := H.kt.keep B1; obtain ⟨⟨a0, a1, a2, a3⟩, a4, a5, a6, a7⟩ := kt1.regs; obtain ⟨b0, b1, b2, b3, b4, b5⟩ := kI1.cells; have lt1 := kt1.lt; have lI1 := kI1.lt)
    | (go_at_call 107; clear FB; refine (HGet.out _ _).mono ?_; rintro e w2 ⟨rfl, hb2⟩; have B2 : Below wr.heap.size wr w2 := Below.thru B1 hb2 (Nat.le_refl _); have kI2 := kI1.keep hb2; have kt2 := H.kt.keep B2; have kz2 := H.kz.keep B2; have tr2 := H.tr.keep B2; obtain ⟨⟨i0, i1, i2, i3⟩, i4, i5, i6, i7⟩ := kt2.regs; obtain ⟨m0, m1, m2⟩ := kt2.more; obtain ⟨o0, o1, o2, o3, o4⟩ := kt2.rows; obtain ⟨j0, j1, j2, j3, j4, j5⟩ := kI2.cells; have lt2 := kt2.lt; have lI2 := kI2.lt; have lz2 := kz2.lt; have fz := kt2.frozen 15; have FC := trivial)
    | (clear FC; refine wpList_storeB (by rfl) 34 (.tmp 8) (.tmp 78) (by rfl) w.heap.size (trC r (({ s.inc with more := 1 } : St))) _ 34 (by rfl) (by rfl) (Blk.only kz2 (set_only (A := fun k => k = w.heap.size + 1) (b := w.heap.size + 1) (i := 15) Only.refl rfl (.int .i64 1)) (by omega)) (by kernel_rfl) (by rfl) (one16A tr2) ?_; intro wL kL oL zL; simp only [Act.put]))
  have hst := HST.out
  have OL : Only (fun k => k = w.heap.size ∨ k = w.heap.size + 1) w2 wL := ((set_only (A := fun k => k = w.heap.size + 1) (b := w.heap.size + 1) (i := 15) Only.refl rfl (.int .i64 1)).mono (fun _ h => .inr h)).trans (oL.mono (fun _ h => .inl h) : Only (fun k => k = w.heap.size ∨ k = w.heap.size + 1) _ _) (fun _ h => .inl h)
  have hR : ({ s.inc with more := 1 } : St) = R := by
    have := HRun.out
    rw [hst, run_done (.inl (by simp))] at this
    exact this
  rw [← hR]
  refine ⟨rfl, rfl, r, kL, (TrA.st (s' := ({ s.inc with more := 1 } : St)) (tr2.only OL (fun b hb e => by rcases e with e | e; exact hb.1 e; exact hb.2.1 e)) rfl rfl rfl rfl rfl).nw, ?_⟩
  exact (Below.thru H.B B2 (Nat.le_refl _)).trans (OL.below (Nat.le_trans H.B.size B2.size) (fun k hk => by omega))
end Go.Proofs.YtcalinfdckklfaaGreatDoor
