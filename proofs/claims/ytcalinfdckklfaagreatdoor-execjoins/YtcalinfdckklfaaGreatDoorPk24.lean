/- ValsTraces: ValsGather, ValsGather2, ValsGather3, ValsTraces, in one text. -/
import Derived.Test.YtcalinfdckklfaaGreatDoorPk12
import Derived.Test.YtcalinfdckklfaaGreatDoorPk22
import Derived.Test.YtcalinfdckklfaaGreatDoorPk23
import Derived.Test.YtcalinfdckklfaaGreatDoorPk8
import Derived.Laws.EntriesVeiled
namespace Go.Proofs.YtcalinfdckklfaaGreatDoor
open Go.RowKit
attribute [local go_sem] Ext.cell Ext.frozen

/-- What stays while traces are gathered: in C. -/
structure GaFix (W : World) (th : List Ins) (locs : Int) (l : List Int) (bt bo bl bv bg : Nat) (p : Option Addr) (c : Nat) (pl : Option Addr) (cl : Nat) (C : Nat → Prop) : Prop where
  bth : Blk W bt #[.slice p th.length c] 73
  blo : Blk W bo #[.int .i64 locs] 3
  bva : Blk W bv #[.slice pl l.length cl] 60
  bgo : Blk W bg #[.func (.func 66) #[] #[.pointer (some ⟨bt, 0, none⟩), .pointer (some ⟨bo, 0, none⟩), .pointer (some ⟨bl, 0, none⟩), .pointer (some ⟨bv, 0, none⟩), .pointer (some ⟨bg, 0, none⟩)]] 119
  hth : SlA C InsE W (.slice p th.length c) th
  hl : SlA C IntE W (.slice pl l.length cl) l
  env : FEnv W
  c1 : C bt
  c2 : C bo
  c3 : C bv
  c4 : C bg
  c5 : C 1
  c6 : C 0
theorem GaFix.only {W W' : World} {th : List Ins} {locs : Int} {l : List Int} {bt bo bl bv bg : Nat} {p : Option Addr} {c : Nat} {pl : Option Addr} {cl : Nat} {C S : Nat → Prop} (h : GaFix W th locs l bt bo bl bv bg p c pl cl C) (ho : Only S W W') (hS : ∀ x, C x → ¬ S x) : GaFix W' th locs l bt bo bl bv bg p c pl cl C where
  bth := h.bth.only ho (hS _ h.c1)
  blo := h.blo.only ho (hS _ h.c2)
  bva := h.bva.only ho (hS _ h.c3)
  bgo := h.bgo.only ho (hS _ h.c4)
  hth := h.hth.agree (ho.agree hS)
  hl := h.hl.agree (ho.agree hS)
  env := ⟨h.env.tab.only ho (hS _ h.c6), h.env.bar.only ho (hS _ h.c5)⟩
  c1 := h.c1
  c2 := h.c2
  c3 := h.c3
  c4 := h.c4
  c5 := h.c5
  c6 := h.c6

def InvG := GaInv 37 2 4 24
def RunG := GaRun 37 2 4 24
/-- What it comes to. -/
def GaPost (base bl : Nat) (W : World) (D : Nat → Prop) (lv gv : Value) (v : List Int) (kv : Value) (b : List Bool) (acc : List St) (e : Ending) (W' : World) : Prop :=
  e = .returned (.tuple #[]) ∧ ∃ D' lv', RunG base bl W D lv gv v kv b W' D' lv' acc

set_option maxRecDepth 20000 in
set_option maxHeartbeats 8000000 in
theorem gather_done (th : List Ins) (locs : Int) (l : List Int) (bt bo bl bv bg : Nat) (p : Option Addr) (c : Nat) (pl : Option Addr) (cl : Nat) (C : Nat → Prop) (base : Nat) (v : List Int) (b : List Bool) (W : World) (D : Nat → Prop) (lv : Value) (acc : List St) (gv kv : Value)
    (nv : v.length ≤ 8) (nb : b.length ≤ 8) (F : GaFix W th locs l bt bo bl bv bg p c pl cl C) (I : InvG base bl C W D lv acc gv v kv b) (hn : acc.length ≤ 100000) (h0 : (runT th locs v b).more = 0) :
    Calls Tryz.prog 66 #[gv, kv, .pointer (some ⟨bt, 0, none⟩), .pointer (some ⟨bo, 0, none⟩), .pointer (some ⟨bl, 0, none⟩), .pointer (some ⟨bv, 0, none⟩), .pointer (some ⟨bg, 0, none⟩)] W
      (GaPost base bl W D lv gv v kv b (acc ++ [runT th locs v b])) := by
  obtain ⟨po, co, rfl⟩ := I.own.len
  have hG := (row_ints I.og).sl.any
  have hK := (row_bools I.ob).sl.any
  obtain ⟨pv, cv, hgv⟩ := hG.len
  obtain ⟨pb, cb, hkv⟩ := hK.len
  rw [hgv] at hG
  rw [hkv] at hK
  have hR := fun W' (hB : Below W.heap.size W W') => Run_own p pv pb c cv cb th locs v b W' (F.env.tab.below hB) (F.env.bar.below hB) (F.hth.any.keep hB) (hG.keep hB) (hK.keep hB) (by omega) (by omega)
  rw [← hgv, ← hkv] at hR
  clear hG hK hgv hkv
  generalize runT th locs v b = R at *
  have HR : Hid _ := hR
  have hm0 : (R.more == 0) = true := by simp [h0]
  clear hR h0
  obtain ⟨it, zt, k1, k2, k3, k4, k5⟩ := info_trP
  have K1 : Hid _ := k1
  have K2 : Hid _ := k2
  have K3 : Hid _ := k3
  have K4 : Hid _ := k4
  have K5 : Hid _ := k5
  clear k1 k2 k3 k4 k5
  have t0 := F.bth.cell 0
  have t1 := F.blo.cell 0
  have lt0 := F.bth.lt
  have lt1 := F.blo.lt
  simp only [List.getElem?_toArray, List.getElem?_cons_zero] at t0 t1
  have F1 := trivial
  go_enter Tryz.func66, Tryz.ntmps66
  go_wp2_with (first
    | (go_at_call 67; clear F1; refine (HR.out _ (Below.refl _ _)).mono ?_; rintro e w2 ⟨r, rfl, hT, hb2⟩; have hz := hT.z; have F2 := trivial)
    | (clear F2; refine wpList_toldP (w := w2) (by kernel_rfl) (by rfl) (.tmp 9) (.tmp 16) (by rfl) hz (by rfl) (by rfl) ?_; intro w4 kL B24; simp only [Act.put]; have B4 := Below.thru hb2 B24 (Nat.le_refl _); obtain ⟨y1, y2, y3⟩ := kL.more; obtain ⟨x0, x1, x2, x3, x4⟩ := kL.rows; obtain ⟨⟨x5, x6, x7, x8⟩, x9, xa, xb, xc⟩ := kL.regs; have lL := kL.lt; have kb4 := (I.run (I.growD B4)).blk; have cl4 := kb4.cell 0; have lcl := kb4.lt; simp only [List.getElem?_toArray, List.getElem?_cons_zero] at cl4; have F3 := trivial)
    | (at_builtin; clear F3; have B5 : Below W.heap.size W (w4.alloc (.cells (trC r R) 37)) := B4.alloc B4.size _; have I5 := I.run (I.growD B5); have hW4 := B4.size; have kT : SlA (fun x => W.heap.size ≤ x ∧ x < (w4.alloc (.cells (trC r R) 37)).heap.size) TrE (w4.alloc (.cells (trC r R) 37)) (.slice (some ⟨w4.heap.size, 0, none⟩) 1 1) [R] := tr_single (t := 37) ⟨hW4, by simp⟩ (((hz.keep B24).keep (below_new _ _)).lt) Blk.new; refine wpList_app (R := TrE) (A := fun x => D x ∨ (W.heap.size ≤ x ∧ x < (w4.alloc (.cells (trC r R) 37)).heap.size)) (B := fun x => W.heap.size ≤ x ∧ x < (w4.alloc (.cells (trC r R) 37)).heap.size) (xs := acc) (ys := [R]) (by rfl) (.tmp 21) (.tmp 23) 24 37 it zt 192 (by rfl) Tryz.underlying24 K1.out K2.out K4.out K5.out K3.out base (.slice po acc.length co) (.slice (some ⟨w4.heap.size, 0, none⟩) 1 1) (by rfl) (by rfl) I5.own kT (fun _ _ _ h => TrE.mono (fun k hk => ⟨.inr hk, fun e => by have := (I.own.lt k e.symm).2; omega⟩) h) (by simp only [List.length_cons, List.length_nil]; omega) (by decide) I5.bs ?_; intro p7 c7 w7 hO7 hg7 hv7; have B7 := I5.blk.grown hg7 (fun e => I5.n1 e.symm); have q7 := B7.cell 0; have f7 := B7.frozen 0; simp only [List.getElem?_toArray, List.getElem?_cons_zero] at q7; have F4 := trivial))
  go_returns
  rw [show (acc ++ [R]).length = acc.length + 1 by simp] at hO7 hv7
  exact ⟨rfl, _, _, (I.growD B5).trans (I5.step hg7 hO7 hv7)⟩
end Go.Proofs.YtcalinfdckklfaaGreatDoor

namespace Go.Proofs.YtcalinfdckklfaaGreatDoor
open Go.RowKit
attribute [local go_sem] Ext.cell Ext.frozen OnlyX.cell

/-- The contract, at so many guesses to come. -/
def GatherOk (th : List Ins) (locs : Int) (l : List Int) (bt bo bl bv bg : Nat) (p : Option Addr) (c : Nat) (pl : Option Addr) (cl : Nat) (C : Nat → Prop) (base f : Nat) : Prop :=
  ∀ (v : List Int) (b : List Bool) (W : World) (D : Nat → Prop) (lv : Value) (acc : List St) (gv kv : Value), Took th locs v b → v.length + b.length + f = 8 → GaFix W th locs l bt bo bl bv bg p c pl cl C → InvG base bl C W D lv acc gv v kv b → acc.length + (onT th locs l f v b).length ≤ 100000 →
    Calls Tryz.prog 66 #[gv, kv, .pointer (some ⟨bt, 0, none⟩), .pointer (some ⟨bo, 0, none⟩), .pointer (some ⟨bl, 0, none⟩), .pointer (some ⟨bv, 0, none⟩), .pointer (some ⟨bg, 0, none⟩)] W
      (GaPost base bl W D lv gv v kv b (acc ++ onT th locs l f v b))

set_option maxRecDepth 20000 in
set_option maxHeartbeats 16000000 in
theorem gather_luck (th : List Ins) (locs : Int) (l : List Int) (bt bo bl bv bg : Nat) (p : Option Addr) (c : Nat) (pl : Option Addr) (cl : Nat) (C : Nat → Prop) (base f : Nat) (ih : GatherOk th locs l bt bo bl bv bg p c pl cl C base f)
    (v : List Int) (b : List Bool) (W : World) (D : Nat → Prop) (lv : Value) (acc : List St) (gv kv : Value) (tk : Took th locs v b) (hf : v.length + b.length + (f + 1) = 8)
    (F : GaFix W th locs l bt bo bl bv bg p c pl cl C) (I : InvG base bl C W D lv acc gv v kv b) (hn : acc.length + (onT th locs l (f + 1) v b).length ≤ 100000) (h2 : (runT th locs v b).more = 2) :
    Calls Tryz.prog 66 #[gv, kv, .pointer (some ⟨bt, 0, none⟩), .pointer (some ⟨bo, 0, none⟩), .pointer (some ⟨bl, 0, none⟩), .pointer (some ⟨bv, 0, none⟩), .pointer (some ⟨bg, 0, none⟩)] W
      (GaPost base bl W D lv gv v kv b (acc ++ onT th locs l (f + 1) v b)) := by
  have hG : onT th locs l (f + 1) v b = onT th locs l f v (b ++ [true]) ++ onT th locs l f v (b ++ [false]) := by rw [onT, if_neg (by rw [h2]; decide), if_pos h2]
  have ih1 := fun W D lv acc kv1 => ih v (b ++ [true]) W D lv acc gv kv1 (tk.luck h2 true) (by rw [List.length_append, List.length_singleton]; omega)
  have ih2 := fun W D lv acc kv1 => ih v (b ++ [false]) W D lv acc gv kv1 (tk.luck h2 false) (by rw [List.length_append, List.length_singleton]; omega)
  have hgk := row_ints I.og
  have hkk := row_bools I.ob
  obtain ⟨pv, cv, hgv⟩ := hgk.len
  obtain ⟨pb, cb, hkv⟩ := hkk.len
  have hGs := hgk.sl.any
  have hKs := hkk.sl.any
  rw [hgv] at hGs
  rw [hkv] at hKs
  have hR := fun W' (hB : Below W.heap.size W W') => Run_own p pv pb c cv cb th locs v b W' (F.env.tab.below hB) (F.env.bar.below hB) (F.hth.any.keep hB) (hGs.keep hB) (hKs.keep hB) (by omega) (by omega)
  rw [← hgv, ← hkv] at hR
  have nb : b.length ≤ 8 := by omega
  clear hGs hKs hgk hkk ih tk hf pv cv hgv pb cb hkv
  rw [hG] at hn ⊢
  clear hG
  rw [List.length_append] at hn
  generalize onT th locs l f v (b ++ [true]) = L1 at *
  generalize onT th locs l f v (b ++ [false]) = L2 at *
  generalize runT th locs v b = R at *
  have HR : Hid _ := hR
  have IH1 : Hid _ := ih1
  have IH2 : Hid _ := ih2
  have hm0 : (R.more == 0) = false := by simp [h2]
  have hm1 : (R.more == 1) = false := by simp [h2]
  have hm2 : (R.more == 2) = true := by simp [h2]
  clear hR h2 ih1 ih2
  obtain ⟨ib, j1, j2, j3, j4⟩ := info_boolP
  have J1 : Hid _ := j1
  have J2 : Hid _ := j2
  have J3 : Hid _ := j3
  have J4 : Hid _ := j4
  clear j1 j2 j3 j4
  have t0 := F.bth.cell 0
  have t1 := F.blo.cell 0
  have lt0 := F.bth.lt
  have lt1 := F.blo.lt
  simp only [List.getElem?_toArray, List.getElem?_cons_zero] at t0 t1
  have F1 := trivial
  go_enter Tryz.func66, Tryz.ntmps66
  go_wp2_with (first
    | (go_at_call 67; clear F1; refine (HR.out _ (Below.refl _ _)).mono ?_; rintro e w2 ⟨r, rfl, hT, hb2⟩; have hz := hT.z; have F2 := trivial)
    | (clear F2; refine wpList_toldP (w := w2) (by kernel_rfl) (by rfl) (.tmp 9) (.tmp 16) (by rfl) hz (by rfl) (by rfl) ?_; intro w4 kL B24; simp only [Act.put]; have B4 := Below.thru hb2 B24 (Nat.le_refl _); obtain ⟨y1, y2, y3⟩ := kL.more; have lL := kL.lt))
  have R4 := I.growD B4
  have I4 := I.run R4
  have F4 := F.only R4.only I.cold
  have hne : ∀ w, Nonempty (Ext w) := ext_some
  have hne2 : Nonempty AnyW := anyW_some
  clear hT hz hb2 B24 kL y1 y2 y3 lL t0 t1 lt0 lt1 F hm0 hm1 hm2 HR
  -- luck: true
  have cga := F4.bgo.cell 0
  have lga := F4.bgo.lt
  simp only [List.getElem?_toArray, List.getElem?_cons_zero] at cga
  obtain ⟨Aa, hAa⟩ : ∃ A : Nat → Prop, A = fun x => kv.ownBlock = some x := ⟨_, rfl⟩
  have hbga : ¬ Aa bg := by rw [hAa]; exact fun e => I4.cold _ F4.c4 (.inr (.inr (.inr e)))
  have hAka : ∀ x, kv.ownBlock = some x → Aa x := fun x hx => by rw [hAa]; exact hx
  clear hAa
  have hnxa := onlyX_some Aa w4
  refine wp_region_mixA (A := Aa) [([0, 1, 2], 3, false), ([], 4, false), ([], 5, true)] [] [5] (by kernel_rfl) (by kernel_rfl) (fun _ _ d _ _ h => by cases d <;> exact h) ?_
  dsimp only [mapL, List.map, opAt]
  refine wpMixA_stage ?_
  repeat (go_big_quiet_step (fail))
  refine wpQuiet_nil ?_
  go_wp2
  obtain ⟨w5a, hw5a, B5a, kNa⟩ : ∃ w5, w5 = (w4.alloc (.cells #[.bool true] 4)).drew ∧ Below w4.heap.size w4 w5 ∧ Blk w5 w4.heap.size #[.bool true] 4 :=
    ⟨_, rfl, (below_new _ _).drew, Blk.drew Blk.new⟩
  rw [← hw5a]
  clear hw5a
  have R5a := I4.growD B5a
  have I5a := I4.run R5a
  have F5a := F4.only R5a.only I4.cold
  refine ⟨.inr (Below.only B5a), ?_⟩
  refine wpMixA_stage ?_
  refine wpQuiet_nil ?_
  go_wp2_with (at_builtin; refine wpList_pushK (by rfl) (.tmp 45) (.tmp 46) 120 4 ib (.bool false) 1 (by rfl) Tryz.underlying120 J1.out J2.out J3.out J4.out (by rfl) base kv b.length (b.map Value.bool) w4.heap.size 1 (.bool true) (by rfl) (by rfl) I5a.ob (by rw [kNa.cell 0]; rfl) rfl (by omega) (by decide) I5a.bs ?_; intro kva w6a hO6a hg6a hp6a)
  have I6a := I5a.pushK hg6a hO6a hp6a
  have F6a := F5a.only (grownBy_only (A := hotG bl lv gv kv) hg6a fun y e => .inr (.inr (.inr e))) I5a.cold
  refine ⟨.inr ((Below.only B5a).trans (grownBy_only (A := Aa) hg6a fun y e => hAka y e) fun _ h => .inl h), ?_⟩
  refine wpMixA_stage ?_
  refine wpQuiet_nil ?_
  have CCa := IH1.out w6a _ lv _ kva F6a I6a (by omega)
  go_wp2_with (go_at_call 66; refine CCa.mono ?_; clear CCa; rintro e w7a ⟨rfl, D7a, lv7a, R7a⟩)
  have R8a := R5a.trans (I5a.popK hg6a hp6a R7a)
  have I8a := I4.run R8a
  have F8a := F4.only R8a.only I4.cold
  refine ⟨.inl trivial, ?_⟩
  refine wpMixA_last ?_
  refine wpQuiet_nil ?_
  clear R5a I5a F5a I6a F6a R7a hO6a hg6a hp6a B5a kNa cga lga hbga hAka hnxa Aa I4 F4
  go_wp2
  -- luck: false
  have cgb := F8a.bgo.cell 0
  have lgb := F8a.bgo.lt
  simp only [List.getElem?_toArray, List.getElem?_cons_zero] at cgb
  obtain ⟨Ab, hAb⟩ : ∃ A : Nat → Prop, A = fun x => kv.ownBlock = some x := ⟨_, rfl⟩
  have hbgb : ¬ Ab bg := by rw [hAb]; exact fun e => I8a.cold _ F8a.c4 (.inr (.inr (.inr e)))
  have hAkb : ∀ x, kv.ownBlock = some x → Ab x := fun x hx => by rw [hAb]; exact hx
  clear hAb
  have hnxb := onlyX_some Ab w7a
  refine wp_region_mixA (A := Ab) [([0, 1, 2], 3, false), ([], 4, false), ([], 5, true)] [] [5] (by kernel_rfl) (by kernel_rfl) (fun _ _ d _ _ h => by cases d <;> exact h) ?_
  dsimp only [mapL, List.map, opAt]
  refine wpMixA_stage ?_
  repeat (go_big_quiet_step (fail))
  refine wpQuiet_nil ?_
  go_wp2
  obtain ⟨w5b, hw5b, B5b, kNb⟩ : ∃ w5, w5 = (w7a.alloc (.cells #[.bool false] 4)).drew ∧ Below w7a.heap.size w7a w5 ∧ Blk w5 w7a.heap.size #[.bool false] 4 :=
    ⟨_, rfl, (below_new _ _).drew, Blk.drew Blk.new⟩
  rw [← hw5b]
  clear hw5b
  have R5b := I8a.growD B5b
  have I5b := I8a.run R5b
  have F5b := F8a.only R5b.only I8a.cold
  refine ⟨.inr (Below.only B5b), ?_⟩
  refine wpMixA_stage ?_
  refine wpQuiet_nil ?_
  go_wp2_with (at_builtin; refine wpList_pushK (by rfl) (.tmp 51) (.tmp 52) 120 4 ib (.bool false) 1 (by rfl) Tryz.underlying120 J1.out J2.out J3.out J4.out (by rfl) base kv b.length (b.map Value.bool) w7a.heap.size 1 (.bool false) (by rfl) (by rfl) I5b.ob (by rw [kNb.cell 0]; rfl) rfl (by omega) (by decide) I5b.bs ?_; intro kvb w6b hO6b hg6b hp6b)
  have I6b := I5b.pushK hg6b hO6b hp6b
  have F6b := F5b.only (grownBy_only (A := hotG bl lv7a gv kv) hg6b fun y e => .inr (.inr (.inr e))) I5b.cold
  refine ⟨.inr ((Below.only B5b).trans (grownBy_only (A := Ab) hg6b fun y e => hAkb y e) fun _ h => .inl h), ?_⟩
  refine wpMixA_stage ?_
  refine wpQuiet_nil ?_
  have CCb := IH2.out w6b _ lv7a _ kvb F6b I6b (by rw [List.length_append]; omega)
  go_wp2_with (go_at_call 66; refine CCb.mono ?_; clear CCb; rintro e w7b ⟨rfl, D7b, lv7b, R7b⟩)
  have R8b := R5b.trans (I5b.popK hg6b hp6b R7b)
  have I8b := I8a.run R8b
  have F8b := F8a.only R8b.only I8a.cold
  refine ⟨.inl trivial, ?_⟩
  refine wpMixA_last ?_
  refine wpQuiet_nil ?_
  clear R5b I5b F5b I6b F6b R7b hO6b hg6b hp6b B5b kNb cgb lgb hbgb hAkb hnxb Ab I8a F8a
  go_wp2
  go_returns
  refine ⟨rfl, D7b, lv7b, ?_⟩
  rw [← List.append_assoc]
  exact R4.trans (R8a.trans R8b)
end Go.Proofs.YtcalinfdckklfaaGreatDoor

namespace Go.Proofs.YtcalinfdckklfaaGreatDoor
open Go.RowKit
attribute [local go_sem] Ext.cell Ext.frozen OnlyX.cell

set_option maxRecDepth 20000 in
set_option maxHeartbeats 16000000 in
theorem gather_val (th : List Ins) (locs : Int) (l : List Int) (bt bo bl bv bg : Nat) (p : Option Addr) (c : Nat) (pl : Option Addr) (cl : Nat) (C : Nat → Prop) (base f : Nat) (ih : GatherOk th locs l bt bo bl bv bg p c pl cl C base f)
    (v : List Int) (b : List Bool) (W : World) (D : Nat → Prop) (lv : Value) (acc : List St) (gv kv : Value) (tk : Took th locs v b) (hf : v.length + b.length + (f + 1) = 8)
    (F : GaFix W th locs l bt bo bl bv bg p c pl cl C) (I : InvG base bl C W D lv acc gv v kv b) (hn : acc.length + (onT th locs l (f + 1) v b).length ≤ 100000) (h2 : (runT th locs v b).more = 1) (hl8 : l.length ≤ 8) :
    Calls Tryz.prog 66 #[gv, kv, .pointer (some ⟨bt, 0, none⟩), .pointer (some ⟨bo, 0, none⟩), .pointer (some ⟨bl, 0, none⟩), .pointer (some ⟨bv, 0, none⟩), .pointer (some ⟨bg, 0, none⟩)] W
      (GaPost base bl W D lv gv v kv b (acc ++ onT th locs l (f + 1) v b)) := by
  have hG : onT th locs l (f + 1) v b = l.flatMap fun x => onT th locs l f (v ++ [x]) b := by rw [onT, if_neg (by rw [h2]; decide), if_neg (by rw [h2]; decide)]
  have ih1 := fun (y : Int) W D lv acc gv1 => ih (v ++ [y]) b W D lv acc gv1 kv (tk.val h2 y) (by rw [List.length_append, List.length_singleton]; omega)
  have hgk := row_ints I.og
  have hkk := row_bools I.ob
  obtain ⟨pv, cv, hgv⟩ := hgk.len
  obtain ⟨pb, cb, hkv⟩ := hkk.len
  have hGs := hgk.sl.any
  have hKs := hkk.sl.any
  rw [hgv] at hGs
  rw [hkv] at hKs
  have hR := fun W' (hB : Below W.heap.size W W') => Run_own p pv pb c cv cb th locs v b W' (F.env.tab.below hB) (F.env.bar.below hB) (F.hth.any.keep hB) (hGs.keep hB) (hKs.keep hB) (by omega) (by omega)
  rw [← hgv, ← hkv] at hR
  have nv : v.length ≤ 8 := by omega
  clear hGs hKs hgk hkk ih tk hf pv cv hgv pb cb hkv
  rw [hG] at hn ⊢
  clear hG
  generalize runT th locs v b = R at *
  have HR : Hid _ := hR
  have IH1 : Hid _ := ih1
  have hm0 : (R.more == 0) = false := by simp [h2]
  have hm1 : (R.more == 1) = true := by simp [h2]
  have HN : Hid _ := hn
  clear hR h2 ih1 hn
  obtain ⟨ib, j1, j2, j3, j4⟩ := info_i64z
  have J1 : Hid _ := j1
  have J2 : Hid _ := j2
  have J3 : Hid _ := j3
  have J4 : Hid _ := j4
  clear j1 j2 j3 j4
  have t0 := F.bth.cell 0
  have t1 := F.blo.cell 0
  have lt0 := F.bth.lt
  have lt1 := F.blo.lt
  simp only [List.getElem?_toArray, List.getElem?_cons_zero] at t0 t1
  have F1 := trivial
  go_enter Tryz.func66, Tryz.ntmps66
  go_wp2_with (first
    | (go_at_call 67; clear F1; refine (HR.out _ (Below.refl _ _)).mono ?_; rintro e w2 ⟨r, rfl, hT, hb2⟩; have hz := hT.z; have F2 := trivial)
    | (clear F2; refine wpList_toldP (w := w2) (by kernel_rfl) (by rfl) (.tmp 9) (.tmp 16) (by rfl) hz (by rfl) (by rfl) ?_; intro w4 kL B24; simp only [Act.put]; have B4 := Below.thru hb2 B24 (Nat.le_refl _); obtain ⟨y1, y2, y3⟩ := kL.more; have lL := kL.lt; have I4' := I.run (I.growD B4); have F4' := F.only (I.growD B4).only I.cold; have tv := F4'.bva.cell 0; have ltv := F4'.bva.lt; simp only [List.getElem?_toArray, List.getElem?_cons_zero] at tv))
  have R4 := I.growD B4
  have I4 := I.run R4
  have F4 := F.only R4.only I.cold
  have hne : ∀ w, Nonempty (Ext w) := ext_some
  have hne2 : Nonempty AnyW := anyW_some
  clear I4' F4' tv ltv hT hz hb2 B24 kL y1 y2 y3 lL t0 t1 lt0 lt1 hm0 hm1 HR
  go_loopw [29] (fun i wr => ∃ (k : Nat) (D' : Nat → Prop) (lv' : Value), k ≤ l.length ∧ i = .int .i64 k ∧ RunG base bl W D lv gv v kv b wr D' lv' (acc ++ (l.take k).flatMap fun x => onT th locs l f (v ++ [x]) b)) (fun i _ => l.length - (Go.RowKit.intOf i).toNat)
  case atStart => exact ⟨0, _, lv, Nat.zero_le _, rfl, by unfold RunG; simpa using R4⟩
  case round =>
    clear R4 I4 F4 B4
    obtain ⟨k, Dk, lvk, hk, rfl, R4⟩ := hrel
    have I4 := I.run R4
    have F4 := F.only R4.only I.cold
    by_cases hlt : k < l.length
    · obtain ⟨bi, oi, rfl, g1⟩ := (ints_at F4.hl).2 k hlt
      have hd0 : l.take (k + 1) = l.take k ++ [l[k]] := by rw [List.take_add_one, List.getElem?_eq_getElem hlt]; rfl
      have hd1 : l = l.take k ++ l[k] :: l.drop (k + 1) := by rw [← drop_at hlt, List.take_append_drop]
      generalize l[k] = y at g1 hd0 hd1
      have HD0 : Hid _ := hd0
      have hbound : (acc ++ (l.take k).flatMap fun x => onT th locs l f (v ++ [x]) b).length + (onT th locs l f (v ++ [y]) b).length ≤ 100000 := by
        have h1 := HN.out
        have h2 := congrArg (fun q : List Int => (q.flatMap fun x => onT th locs l f (v ++ [x]) b).length) hd1
        simp only [List.flatMap_append, List.flatMap_cons, List.length_append] at h2
        rw [List.length_append]
        omega
      have HB : Hid _ := hbound
      clear hd0 hd1 hbound
      have lg1 := cell_lt g1
      have hlt' : (k : Int) < (l.length : Int) := by omega
      go_wp2
      clear g1 lg1
      -- luck: true
      have cga := F4.bgo.cell 0
      have lga := F4.bgo.lt
      simp only [List.getElem?_toArray, List.getElem?_cons_zero] at cga
      obtain ⟨Aa, hAa⟩ : ∃ A : Nat → Prop, A = fun x => gv.ownBlock = some x := ⟨_, rfl⟩
      have hbga : ¬ Aa bg := by rw [hAa]; exact fun e => I4.cold _ F4.c4 (.inr (.inr (.inl e)))
      have hAka : ∀ x, gv.ownBlock = some x → Aa x := fun x hx => by rw [hAa]; exact hx
      clear hAa
      have hnxa := onlyX_some Aa wr
      refine wp_region_mixA (A := Aa) [([0, 1, 2, 5], 3, false), ([], 4, false), ([], 6, true)] [] [6] (by kernel_rfl) (by kernel_rfl) (fun _ _ d _ _ h => by cases d <;> exact h) ?_
      dsimp only [mapL, List.map, opAt]
      refine wpMixA_stage ?_
      repeat (go_big_quiet_step (fail))
      refine wpQuiet_nil ?_
      go_wp2
      obtain ⟨w5a, hw5a, B5a, kNa⟩ : ∃ w5, w5 = (wr.alloc (.cells #[.int .i64 y] 2)).drew ∧ Below wr.heap.size wr w5 ∧ Blk w5 wr.heap.size #[.int .i64 y] 2 :=
        ⟨_, rfl, (below_new _ _).drew, Blk.drew Blk.new⟩
      rw [← hw5a]
      clear hw5a
      have R5a := I4.growD B5a
      have I5a := I4.run R5a
      have F5a := F4.only R5a.only I4.cold
      refine ⟨.inr (Below.only B5a), ?_⟩
      refine wpMixA_stage ?_
      refine wpQuiet_nil ?_
      go_wp2_with (at_builtin; refine wpList_pushK (by rfl) (.tmp 34) (.tmp 36) 60 2 ib (.int .i64 0) 8 (by rfl) Tryz.underlying60 J1.out J2.out J3.out J4.out (by rfl) base gv v.length (v.map (Value.int .i64)) wr.heap.size 1 (.int .i64 y) (by rfl) (by rfl) I5a.og (by rw [kNa.cell 0]; rfl) rfl (by omega) (by decide) I5a.bs ?_; intro gva w6a hO6a hg6a hp6a)
      have I6a := I5a.pushG hg6a hO6a hp6a
      have F6a := F5a.only (grownBy_only (A := hotG bl lvk gv kv) hg6a fun y e => .inr (.inr (.inl e))) I5a.cold
      refine ⟨.inr ((Below.only B5a).trans (grownBy_only (A := Aa) hg6a fun y e => hAka y e) fun _ h => .inl h), ?_⟩
      refine wpMixA_stage ?_
      refine wpQuiet_nil ?_
      have CCa := IH1.out y w6a _ lvk _ gva F6a I6a HB.out
      go_wp2_with (go_at_call 66; refine CCa.mono ?_; clear CCa; rintro e w7a ⟨rfl, D7a, lv7a, R7a⟩)
      have R8a := R5a.trans (I5a.popG hg6a hp6a R7a)
      have I8a := I4.run R8a
      have F8a := F4.only R8a.only I4.cold
      refine ⟨.inl trivial, ?_⟩
      refine wpMixA_last ?_
      refine wpQuiet_nil ?_
      clear R5a I5a F5a I6a F6a R7a hO6a hg6a hp6a B5a kNa cga lga hbga hAka hnxa Aa I4 F4
      go_wp2
      go_roundw
      case rel => exact ⟨k + 1, D7a, lv7a, by omega, by go_num, by
        rw [HD0.out, List.flatMap_append, ← List.append_assoc]
        unfold RunG; simpa using R4.trans R8a⟩
      case measure => simp [Go.RowKit.intOf]; omega
    · have hlt' : ¬ (k : Int) < (l.length : Int) := by omega
      have hk : l.take k = l := List.take_of_length_le (by omega)
      have HK : Hid _ := hk
      clear hk
      go_wp2
      go_returns
      exact ⟨rfl, Dk, lvk, by have h := R4; rw [HK.out] at h; exact h⟩
end Go.Proofs.YtcalinfdckklfaaGreatDoor

namespace Go.Proofs.YtcalinfdckklfaaGreatDoor
open Go.RowKit
attribute [local go_sem] Ext.cell Ext.frozen

theorem gather_any (th : List Ins) (locs : Int) (l : List Int) (hl8 : l.length ≤ 8) (h4 : loadsN th ≤ 4) (bt bo bl bv bg : Nat) (p : Option Addr) (c : Nat) (pl : Option Addr) (cl : Nat) (C : Nat → Prop) (base : Nat) : ∀ f : Nat, GatherOk th locs l bt bo bl bv bg p c pl cl C base f
  | 0, v, b, W, D, lv, acc, gv, kv, tk, hf, F, I, hn => by
    have h1 := room tk
    have h0 : (runT th locs v b).more = 0 := by
      rcases more_cases th locs v b with h | h | h
      · exact h
      · have := room_val tk h; omega
      · have := room_luck tk h; omega
    have e : onT th locs l 0 v b = [runT th locs v b] := rfl
    rw [e] at hn ⊢
    exact gather_done th locs l bt bo bl bv bg p c pl cl C base v b W D lv acc gv kv (by omega) (by omega) F I (by simp at hn; omega) h0
  | f + 1, v, b, W, D, lv, acc, gv, kv, tk, hf, F, I, hn => by
    rcases more_cases th locs v b with h | h | h
    · have e : onT th locs l (f + 1) v b = [runT th locs v b] := by rw [onT, if_pos h]
      rw [e] at hn ⊢
      exact gather_done th locs l bt bo bl bv bg p c pl cl C base v b W D lv acc gv kv (by omega) (by omega) F I (by simp at hn; omega) h
    · exact gather_val th locs l bt bo bl bv bg p c pl cl C base f (gather_any th locs l hl8 h4 bt bo bl bv bg p c pl cl C base f) v b W D lv acc gv kv tk hf F I hn h hl8
    · exact gather_luck th locs l bt bo bl bv bg p c pl cl C base f (gather_any th locs l hl8 h4 bt bo bl bv bg p c pl cl C base f) v b W D lv acc gv kv tk hf F I hn h

set_option maxHeartbeats 2000000 in
theorem loads_any (p : Option Addr) (c : Nat) (th : List Ins) (w : World) (T : Tab w) (ht : Sl InsE w (.slice p th.length c) th) (hth : th.length ≤ 1000000) :
    Calls Tryz.prog 65 #[.slice p th.length c] w fun e w' => e = .returned (.int .i64 (loadsN th : Nat)) ∧ Below w.heap.size w w' := by
  have b1 := below_new w (.cells #[.slice p th.length c] 73)
  have hS : Sl ThrE (w.alloc (.cells #[.slice p th.length c] 73)) (.slice (some ⟨w.heap.size, 0, none⟩) 1 1) [th] := sl_one trivial (by rw [Blk.cell Blk.new]; rfl) (ht.keep b1) (Nat.le_refl _)
  have hC := fun W (hB : Below (w.alloc (.cells #[.slice p th.length c] 73)).heap.size (w.alloc (.cells #[.slice p th.length c] 73)) W) => Count_any none (some ⟨w.heap.size, 0, none⟩) 0 0 1 [th] W ((T.below b1).below hB) (hS.keep hB) (by simp [sizeTs]; omega) (by simp)
  have hc : cntTs [th] 0 0 = (((loadsN th : Nat) : Int), ((storesN th : Nat) : Int)) := by rw [cntTs_is]; simp [loadsTs, storesTs]
  rw [hc] at hC
  simp only [List.length_singleton] at hC
  have HC : Hid _ := hC
  clear hC hc
  go_enter Tryz.func65, Tryz.ntmps65
  go_wp2_with (go_at_call 62; refine (HC.out _ (Below.refl _ _)).mono ?_; rintro e w2 ⟨rfl, hb2⟩)
  go_ret
  exact ⟨rfl, Below.thru b1 hb2 (Nat.le_refl _)⟩

theorem onT_len4 {th : List Ins} {locs : Int} {l : List Int} (hl : l.length ≤ 8) (h4 : loadsN th ≤ 4) : (onT th locs l 8 [] []).length ≤ 65536 := by
  have h := tracesT_len4 (th := th) (locs := locs) hl
  unfold tracesT at h
  rw [if_pos h4] at h
  exact h

set_option maxRecDepth 20000 in
set_option maxHeartbeats 8000000 in
theorem Traces_new (p pl : Option Addr) (c cl : Nat) (th : List Ins) (locs : Int) (l : List Int) (w : World) (T : FEnv w) (hl8 : l.length ≤ 8) (hth : th.length ≤ 1000000)
    (ht : Sl InsE w (.slice p th.length c) th) (hl : Sl IntE w (.slice pl l.length cl) l) :
    Calls Tryz.prog 45 #[.slice p th.length c, .int .i64 locs, .slice pl l.length cl] w fun e w' => ∃ u, e = .returned u ∧ SlA (fun k => w.heap.size ≤ k) TrE w' u (tracesT th locs l) ∧ Below w.heap.size w w' := by
  obtain ⟨w1, hw1⟩ : ∃ w1, w1 = w.alloc (.cells #[.slice p th.length c] 73) := ⟨_, rfl⟩
  have k1 : Blk w1 w.heap.size #[.slice p th.length c] 73 := by rw [hw1]; exact Blk.new
  have b1 : Below w.heap.size w w1 := by rw [hw1]; exact below_new _ _
  have s1 : w1.heap.size = w.heap.size + 1 := by rw [hw1]; simp
  obtain ⟨w2, hw2⟩ : ∃ w2, w2 = w1.alloc (.cells #[.int .i64 locs] 3) := ⟨_, rfl⟩
  have k2 : Blk w2 (w.heap.size + 1) #[.int .i64 locs] 3 := by rw [hw2]; exact Blk.newAt s1
  have b2 : Below w1.heap.size w1 w2 := by rw [hw2]; exact below_new _ _
  have s2 : w2.heap.size = w.heap.size + 1 + 1 := by rw [hw2]; simp [s1]
  obtain ⟨w3, hw3⟩ : ∃ w3, w3 = w2.alloc (.cells #[.slice pl l.length cl] 60) := ⟨_, rfl⟩
  have k3 : Blk w3 (w.heap.size + 1 + 1) #[.slice pl l.length cl] 60 := by rw [hw3]; exact Blk.newAt s2
  have b3 : Below w2.heap.size w2 w3 := by rw [hw3]; exact below_new _ _
  have s3 : w3.heap.size = w.heap.size + 1 + 1 + 1 := by rw [hw3]; simp [s2]
  have B3 : Below w.heap.size w w3 := Below.thru (Below.thru b1 b2 (Nat.le_refl _)) b3 (Nat.le_refl _)
  have k13 := (k1.keep b2).keep b3
  have k23 := k2.keep b3
  have HW1 : Hid _ := hw1
  have HW2 : Hid _ := hw2
  have HW3 : Hid _ := hw3
  clear hw1 hw2 hw3 k1 k2 b1 b2 b3 s1 s2
  have q0 := k13.cell 0
  have lq0 := k13.lt
  simp only [List.getElem?_toArray, List.getElem?_cons_zero] at q0
  by_cases h4 : loadsN th ≤ 4
  · have h4' : ¬ (4 : Int) < ((loadsN th : Nat) : Int) := by omega
    have hL := onT_len4 (th := th) (locs := locs) hl8 h4
    have hT : tracesT th locs l = onT th locs l 8 [] [] := if_pos h4
    have HT : Hid _ := hT
    clear hT
    have F1 := trivial
    go_enter Tryz.func45, Tryz.ntmps45
    go_wp2_with (first
      | (go_at_call 65; clear F1; rw [← HW1.out, ← HW2.out, ← HW3.out]; refine (loads_any p c th _ (T.tab.below B3) (ht.keep B3) hth).mono ?_; rintro e w4 ⟨rfl, hb4⟩; have F2 := trivial)
      | (go_at_call 66; clear F2
         generalize hfv : Value.func (Fn.func 66) #[] _ = fv
         have kl6 : Blk ((w4.alloc (.cells #[.slice none 0 0] 24)).alloc (.cells #[fv] 119)) w4.heap.size #[.slice none 0 0] 24 := Blk.new.alloc _
         have kg6 : Blk ((w4.alloc (.cells #[.slice none 0 0] 24)).alloc (.cells #[fv] 119)) (w4.heap.size + 1) #[fv] 119 := Blk.newAt (by simp)
         have B6 : Below w4.heap.size w4 ((w4.alloc (.cells #[.slice none 0 0] 24)).alloc (.cells #[fv] 119)) := (below_new _ _).alloc (by simp) _
         have s6 : ((w4.alloc (.cells #[.slice none 0 0] 24)).alloc (.cells #[fv] 119)).heap.size = w4.heap.size + 1 + 1 := by simp
         generalize (w4.alloc (.cells #[.slice none 0 0] 24)).alloc (.cells #[fv] 119) = w6 at *
         have C6 := Below.thru hb4 B6 (Nat.le_refl _)
         have D6 := Below.thru B3 C6 (Nat.le_refl _)
         have hs4 := hb4.size
         have ls3 := s3
         have F6 : GaFix w6 th locs l w.heap.size (w.heap.size + 1) w4.heap.size (w.heap.size + 1 + 1) (w4.heap.size + 1) p c pl cl (fun x => x < w4.heap.size ∨ x = w4.heap.size + 1) :=
           ⟨k13.keep C6, k23.keep C6, k3.keep C6, by rw [hfv]; exact kg6, SlA.mono (fun b hb => .inl (by have := hb.2; omega)) (SlA.lt ht |>.keep D6), SlA.mono (fun b hb => .inl (by have := hb.2; omega)) (SlA.lt hl |>.keep D6), T.below D6, .inl (by omega), .inl (by omega), .inl (by omega), .inr rfl, .inl (by have := cell_lt T.bar.1; omega), .inl (by have := T.tab.pos; omega)⟩
         have hn : ∀ x, Value.ownBlock (.slice none 0 0) ≠ some x := fun x h => by simp [Value.ownBlock] at h
         have I6 : InvG w4.heap.size w4.heap.size (fun x => x < w4.heap.size ∨ x = w4.heap.size + 1) w6 (fun _ => False) (.slice none 0 0) [] (.slice none 0 0) [] (.slice none 0 0) [] :=
           ⟨kl6, Own.nil, World.ownsRow_nil _ _ _ _, World.ownsRow_nil _ _ _ _, by omega, fun x hx => by omega, fun _ h => h.elim, fun x hx h => by rcases h with h | h | h | h <;> first | (exact absurd h (hn _)) | omega, fun _ h => h.elim, hn _, hn _, hn _, fun _ _ => hn _, fun _ _ => hn _, fun _ _ => hn _⟩
         have CC := gather_any th locs l hl8 h4 w.heap.size (w.heap.size + 1) w4.heap.size (w.heap.size + 1 + 1) (w4.heap.size + 1) p c pl cl (fun x => x < w4.heap.size ∨ x = w4.heap.size + 1) w4.heap.size 8 [] [] w6 (fun _ => False) (.slice none 0 0) [] (.slice none 0 0) (.slice none 0 0) (took_nil _ _) rfl F6 I6 (by simp; omega)
         refine CC.mono ?_
         clear CC F6
         rintro e w7 ⟨rfl, D7, lv7, R7⟩
         have x7 := R7.blk.cell 0
         have lx7 := R7.blk.lt
         simp only [List.getElem?_toArray, List.getElem?_cons_zero] at x7
         have F3 := trivial))
    go_ret
    have hsz := R7.only.size
    refine ⟨lv7, rfl, ?_, D6.trans (R7.only.below (by have := D6.size; omega) fun b hb => ?_)⟩
    · rw [HT.out]
      exact R7.own.sl.mono fun b hb => by
        rcases hb with hb | hb
        · have := hs4; omega
        · rcases R7.dsub b hb with hb | hb
          · exact hb.elim
          · omega
    · rcases hb with hb | hb | hb | hb
      · omega
      · exact absurd hb (hn _)
      · exact absurd hb (hn _)
      · exact absurd hb (hn _)
  · have h4' : (4 : Int) < ((loadsN th : Nat) : Int) := by omega
    have hT : tracesT th locs l = [] := if_neg h4
    have HT : Hid _ := hT
    clear hT
    have F1 := trivial
    go_enter Tryz.func45, Tryz.ntmps45
    go_wp2_with (first
      | (go_at_call 65; clear F1; rw [← HW1.out, ← HW2.out, ← HW3.out]; refine (loads_any p c th _ (T.tab.below B3) (ht.keep B3) hth).mono ?_; rintro e w4 ⟨rfl, hb4⟩; have F2 := trivial))
    go_ret
    exact ⟨_, rfl, by rw [HT.out]; exact SlA.nil, Below.thru B3 hb4 (Nat.le_refl _)⟩
end Go.Proofs.YtcalinfdckklfaaGreatDoor
