/- The contract of vals' closure that calls itself, where a run is done. -/
import Derived.Test.YtgaannoghefbbaaDoorValsInv
import Derived.Test.YtgaannoghefbbaaDoorFlowShown
namespace Go.Proofs.YtgaannoghefbbaaDoor
open Go.RowKit
attribute [local go_sem] Ext.cell Ext.frozen

/-- What stays while traces are gathered: in C. -/
structure GaFix (W : World) (th : List Ins) (locs : Int) (l : List Int) (bt bo bl bv bg : Nat) (p : Option Addr) (c : Nat) (pl : Option Addr) (cl : Nat) (C : Nat → Prop) : Prop where
  bth : Blk W bt #[.slice p th.length c] 22
  blo : Blk W bo #[.int .i64 locs] 3
  bva : Blk W bv #[.slice pl l.length cl] 23
  bgo : Blk W bg #[.func (.func 19) #[] #[.pointer (some ⟨bt, 0, none⟩), .pointer (some ⟨bo, 0, none⟩), .pointer (some ⟨bl, 0, none⟩), .pointer (some ⟨bv, 0, none⟩), .pointer (some ⟨bg, 0, none⟩)]] 60
  hth : SlA C InsE W (.slice p th.length c) th
  hl : SlA C IntE W (.slice pl l.length cl) l
  env : FEnv W
  c1 : C bt
  c2 : C bo
  c3 : C bv
  c4 : C bg
  c5 : C 0
  c6 : C 1
theorem GaFix.only {W W' : World} {th : List Ins} {locs : Int} {l : List Int} {bt bo bl bv bg : Nat} {p : Option Addr} {c : Nat} {pl : Option Addr} {cl : Nat} {C S : Nat → Prop} (h : GaFix W th locs l bt bo bl bv bg p c pl cl C) (ho : Only S W W') (hS : ∀ x, C x → ¬ S x) : GaFix W' th locs l bt bo bl bv bg p c pl cl C where
  bth := h.bth.only ho (hS _ h.c1)
  blo := h.blo.only ho (hS _ h.c2)
  bva := h.bva.only ho (hS _ h.c3)
  bgo := h.bgo.only ho (hS _ h.c4)
  hth := h.hth.agree (ho.agree hS)
  hl := h.hl.agree (ho.agree hS)
  env := ⟨h.env.tab.only ho (hS _ h.c6), h.env.bar.only ho (hS _ h.c5)⟩
  c1 := h.c1
  c2 := h.c2
  c3 := h.c3
  c4 := h.c4
  c5 := h.c5
  c6 := h.c6

def InvG := GaInv 40 2 4 25
def RunG := GaRun 40 2 4 25
/-- What it comes to. -/
def GaPost (base bl : Nat) (W : World) (D : Nat → Prop) (lv gv : Value) (v : List Int) (kv : Value) (b : List Bool) (acc : List St) (e : Ending) (W' : World) : Prop :=
  e = .returned (.tuple #[]) ∧ ∃ D' lv', RunG base bl W D lv gv v kv b W' D' lv' acc

theorem tr_rows {w w' : World} {n : Nat} {r : Nat → Value} {s : St} (h : TrZ (fun b => n ≤ b) w r s) (hb : Below w.heap.size w w') : TrZ (fun b => n ≤ b ∧ b < w'.heap.size) w' r s := (h.keep hb).lt

set_option maxRecDepth 20000 in
set_option maxHeartbeats 8000000 in
theorem gather_done (th : List Ins) (locs : Int) (l : List Int) (bt bo bl bv bg : Nat) (p : Option Addr) (c : Nat) (pl : Option Addr) (cl : Nat) (C : Nat → Prop) (base : Nat) (v : List Int) (b : List Bool) (W : World) (D : Nat → Prop) (lv : Value) (acc : List St) (gv kv : Value)
    (nv : v.length ≤ 8) (nb : b.length ≤ 8) (F : GaFix W th locs l bt bo bl bv bg p c pl cl C) (I : InvG base bl C W D lv acc gv v kv b) (hn : acc.length ≤ 100000) (h0 : (runT th locs v b).more = 0) :
    Calls Tryd.prog 19 #[gv, kv, .pointer (some ⟨bt, 0, none⟩), .pointer (some ⟨bo, 0, none⟩), .pointer (some ⟨bl, 0, none⟩), .pointer (some ⟨bv, 0, none⟩), .pointer (some ⟨bg, 0, none⟩)] W
      (GaPost base bl W D lv gv v kv b (acc ++ [runT th locs v b])) := by
  obtain ⟨po, co, rfl⟩ := I.own.len
  have hG := (row_ints I.og).sl.any
  have hK := (row_bools I.ob).sl.any
  obtain ⟨pv, cv, hgv⟩ := hG.len
  obtain ⟨pb, cb, hkv⟩ := hK.len
  rw [hgv] at hG
  rw [hkv] at hK
  have hR := fun W' (hB : Below W.heap.size W W') => Run_own p pv pb c cv cb th locs v b W' (F.env.tab.below hB) (F.env.bar.below hB) (F.hth.any.keep hB) (hG.keep hB) (hK.keep hB) (by omega) (by omega)
  rw [← hgv, ← hkv] at hR
  clear hG hK hgv hkv
  generalize runT th locs v b = R at *
  have HR : Hid _ := hR
  have hm0 : (R.more == 0) = true := by simp [h0]
  clear hR h0
  obtain ⟨it, zt, k1, k2, k3, k4, k5⟩ := info_trP
  have K1 : Hid _ := k1
  have K2 : Hid _ := k2
  have K3 : Hid _ := k3
  have K4 : Hid _ := k4
  have K5 : Hid _ := k5
  clear k1 k2 k3 k4 k5
  have t0 := F.bth.cell 0
  have t1 := F.blo.cell 0
  have lt0 := F.bth.lt
  have lt1 := F.blo.lt
  simp only [List.getElem?_toArray, List.getElem?_cons_zero] at t0 t1
  have F1 := trivial
  go_enter Tryd.func19, Tryd.ntmps19
  go_wp2_with (first
    | (go_at_call 20; clear F1; refine (HR.out _ (Below.refl _ _)).mono ?_; rintro e w2 ⟨r, rfl, hT, hb2⟩; have hz := hT.z; have F2 := trivial)
    | (clear F2; refine wpList_toldP (w := w2) (by kernel_rfl) (by rfl) (.tmp 9) (.tmp 16) (by rfl) hz (by rfl) (by rfl) ?_; intro w4 kL B24; simp only [Act.put]; have B4 := Below.thru hb2 B24 (Nat.le_refl _); obtain ⟨y1, y2, y3⟩ := kL.more; obtain ⟨x0, x1, x2, x3, x4⟩ := kL.rows; obtain ⟨⟨x5, x6, x7, x8⟩, x9, xa, xb, xc⟩ := kL.regs; have lL := kL.lt; have kb4 := (I.run (I.growD B4)).blk; have cl4 := kb4.cell 0; have lcl := kb4.lt; simp only [List.getElem?_toArray, List.getElem?_cons_zero] at cl4; have F3 := trivial)
    | (at_builtin; clear F3; have B5 : Below W.heap.size W (w4.alloc (.cells (trC r R) 40)) := B4.alloc B4.size _; have I5 := I.run (I.growD B5); have hW4 := B4.size; have kT : SlA (fun x => W.heap.size ≤ x ∧ x < (w4.alloc (.cells (trC r R) 40)).heap.size) TrE (w4.alloc (.cells (trC r R) 40)) (.slice (some ⟨w4.heap.size, 0, none⟩) 1 1) [R] := tr_single (t := 40) ⟨hW4, by simp⟩ (((hz.keep B24).keep (below_new _ _)).lt) Blk.new; refine wpList_app (R := TrE) (A := fun x => D x ∨ (W.heap.size ≤ x ∧ x < (w4.alloc (.cells (trC r R) 40)).heap.size)) (B := fun x => W.heap.size ≤ x ∧ x < (w4.alloc (.cells (trC r R) 40)).heap.size) (xs := acc) (ys := [R]) (by rfl) (.tmp 21) (.tmp 23) 25 40 it zt 192 (by rfl) Tryd.underlying25 K1.out K2.out K4.out K5.out K3.out base (.slice po acc.length co) (.slice (some ⟨w4.heap.size, 0, none⟩) 1 1) (by rfl) (by rfl) I5.own kT (fun _ _ _ h => TrE.mono (fun k hk => ⟨.inr hk, fun e => by have := (I.own.lt k e.symm).2; omega⟩) h) (by simp only [List.length_cons, List.length_nil]; omega) (by decide) I5.bs ?_; intro p7 c7 w7 hO7 hg7 hv7; have B7 := I5.blk.grown hg7 (fun e => I5.n1 e.symm); have q7 := B7.cell 0; have f7 := B7.frozen 0; simp only [List.getElem?_toArray, List.getElem?_cons_zero] at q7; have F4 := trivial))
  go_returns
  rw [show (acc ++ [R]).length = acc.length + 1 by simp] at hO7 hv7
  exact ⟨rfl, _, _, (I.growD B5).trans (I5.step hg7 hO7 hv7)⟩
end Go.Proofs.YtgaannoghefbbaaDoor
