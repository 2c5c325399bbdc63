/- The contract of vals' closure that calls itself, where a luck is wanted. -/
import Derived.Test.YtgaannoghefbbaaDoorValsGather
import Derived.Test.YtgaannoghefbbaaDoorMixA
namespace Go.Proofs.YtgaannoghefbbaaDoor
open Go.RowKit
attribute [local go_sem] Ext.cell Ext.frozen OnlyX.cell

/-- The contract, at so many guesses to come. -/
def GatherOk (th : List Ins) (locs : Int) (l : List Int) (bt bo bl bv bg : Nat) (p : Option Addr) (c : Nat) (pl : Option Addr) (cl : Nat) (C : Nat → Prop) (base f : Nat) : Prop :=
  ∀ (v : List Int) (b : List Bool) (W : World) (D : Nat → Prop) (lv : Value) (acc : List St) (gv kv : Value), Took th locs v b → v.length + b.length + f = 8 → GaFix W th locs l bt bo bl bv bg p c pl cl C → InvG base bl C W D lv acc gv v kv b → acc.length + (onT th locs l f v b).length ≤ 100000 →
    Calls Tryd.prog 19 #[gv, kv, .pointer (some ⟨bt, 0, none⟩), .pointer (some ⟨bo, 0, none⟩), .pointer (some ⟨bl, 0, none⟩), .pointer (some ⟨bv, 0, none⟩), .pointer (some ⟨bg, 0, none⟩)] W
      (GaPost base bl W D lv gv v kv b (acc ++ onT th locs l f v b))

set_option maxRecDepth 20000 in
set_option maxHeartbeats 16000000 in
theorem gather_luck (th : List Ins) (locs : Int) (l : List Int) (bt bo bl bv bg : Nat) (p : Option Addr) (c : Nat) (pl : Option Addr) (cl : Nat) (C : Nat → Prop) (base f : Nat) (ih : GatherOk th locs l bt bo bl bv bg p c pl cl C base f)
    (v : List Int) (b : List Bool) (W : World) (D : Nat → Prop) (lv : Value) (acc : List St) (gv kv : Value) (tk : Took th locs v b) (hf : v.length + b.length + (f + 1) = 8)
    (F : GaFix W th locs l bt bo bl bv bg p c pl cl C) (I : InvG base bl C W D lv acc gv v kv b) (hn : acc.length + (onT th locs l (f + 1) v b).length ≤ 100000) (h2 : (runT th locs v b).more = 2) :
    Calls Tryd.prog 19 #[gv, kv, .pointer (some ⟨bt, 0, none⟩), .pointer (some ⟨bo, 0, none⟩), .pointer (some ⟨bl, 0, none⟩), .pointer (some ⟨bv, 0, none⟩), .pointer (some ⟨bg, 0, none⟩)] W
      (GaPost base bl W D lv gv v kv b (acc ++ onT th locs l (f + 1) v b)) := by
  have hG : onT th locs l (f + 1) v b = onT th locs l f v (b ++ [true]) ++ onT th locs l f v (b ++ [false]) := by rw [onT, if_neg (by rw [h2]; decide), if_pos h2]
  have ih1 := fun W D lv acc kv1 => ih v (b ++ [true]) W D lv acc gv kv1 (tk.luck h2 true) (by rw [List.length_append, List.length_singleton]; omega)
  have ih2 := fun W D lv acc kv1 => ih v (b ++ [false]) W D lv acc gv kv1 (tk.luck h2 false) (by rw [List.length_append, List.length_singleton]; omega)
  have hgk := row_ints I.og
  have hkk := row_bools I.ob
  obtain ⟨pv, cv, hgv⟩ := hgk.len
  obtain ⟨pb, cb, hkv⟩ := hkk.len
  have hGs := hgk.sl.any
  have hKs := hkk.sl.any
  rw [hgv] at hGs
  rw [hkv] at hKs
  have hR := fun W' (hB : Below W.heap.size W W') => Run_own p pv pb c cv cb th locs v b W' (F.env.tab.below hB) (F.env.bar.below hB) (F.hth.any.keep hB) (hGs.keep hB) (hKs.keep hB) (by omega) (by omega)
  rw [← hgv, ← hkv] at hR
  have nb : b.length ≤ 8 := by omega
  clear hGs hKs hgk hkk ih tk hf pv cv hgv pb cb hkv
  rw [hG] at hn ⊢
  clear hG
  rw [List.length_append] at hn
  generalize onT th locs l f v (b ++ [true]) = L1 at *
  generalize onT th locs l f v (b ++ [false]) = L2 at *
  generalize runT th locs v b = R at *
  have HR : Hid _ := hR
  have IH1 : Hid _ := ih1
  have IH2 : Hid _ := ih2
  have hm0 : (R.more == 0) = false := by simp [h2]
  have hm1 : (R.more == 1) = false := by simp [h2]
  have hm2 : (R.more == 2) = true := by simp [h2]
  clear hR h2 ih1 ih2
  obtain ⟨ib, j1, j2, j3, j4⟩ := info_boolP
  have J1 : Hid _ := j1
  have J2 : Hid _ := j2
  have J3 : Hid _ := j3
  have J4 : Hid _ := j4
  clear j1 j2 j3 j4
  have t0 := F.bth.cell 0
  have t1 := F.blo.cell 0
  have lt0 := F.bth.lt
  have lt1 := F.blo.lt
  simp only [List.getElem?_toArray, List.getElem?_cons_zero] at t0 t1
  have F1 := trivial
  go_enter Tryd.func19, Tryd.ntmps19
  go_wp2_with (first
    | (go_at_call 20; clear F1; refine (HR.out _ (Below.refl _ _)).mono ?_; rintro e w2 ⟨r, rfl, hT, hb2⟩; have hz := hT.z; have F2 := trivial)
    | (clear F2; refine wpList_toldP (w := w2) (by kernel_rfl) (by rfl) (.tmp 9) (.tmp 16) (by rfl) hz (by rfl) (by rfl) ?_; intro w4 kL B24; simp only [Act.put]; have B4 := Below.thru hb2 B24 (Nat.le_refl _); obtain ⟨y1, y2, y3⟩ := kL.more; have lL := kL.lt))
  have R4 := I.growD B4
  have I4 := I.run R4
  have F4 := F.only R4.only I.cold
  have hne : ∀ w, Nonempty (Ext w) := ext_some
  have hne2 : Nonempty AnyW := anyW_some
  clear hT hz hb2 B24 kL y1 y2 y3 lL t0 t1 lt0 lt1 F hm0 hm1 hm2 HR
  -- luck: true
  have cga := F4.bgo.cell 0
  have lga := F4.bgo.lt
  simp only [List.getElem?_toArray, List.getElem?_cons_zero] at cga
  obtain ⟨Aa, hAa⟩ : ∃ A : Nat → Prop, A = fun x => kv.ownBlock = some x := ⟨_, rfl⟩
  have hbga : ¬ Aa bg := by rw [hAa]; exact fun e => I4.cold _ F4.c4 (.inr (.inr (.inr e)))
  have hAka : ∀ x, kv.ownBlock = some x → Aa x := fun x hx => by rw [hAa]; exact hx
  clear hAa
  have hnxa := onlyX_some Aa w4
  refine wp_region_mixA (A := Aa) [([0, 1, 2], 3, false), ([], 4, false), ([], 5, true)] [] [5] (by kernel_rfl) (by kernel_rfl) (fun _ _ d _ _ h => by cases d <;> exact h) ?_
  dsimp only [mapL, List.map, opAt]
  refine wpMixA_stage ?_
  repeat (go_big_quiet_step (fail))
  refine wpQuiet_nil ?_
  go_wp2
  obtain ⟨w5a, hw5a, B5a, kNa⟩ : ∃ w5, w5 = (w4.alloc (.cells #[.bool true] 4)).drew ∧ Below w4.heap.size w4 w5 ∧ Blk w5 w4.heap.size #[.bool true] 4 :=
    ⟨_, rfl, (below_new _ _).drew, Blk.drew Blk.new⟩
  rw [← hw5a]
  clear hw5a
  have R5a := I4.growD B5a
  have I5a := I4.run R5a
  have F5a := F4.only R5a.only I4.cold
  refine ⟨.inr (Below.only B5a), ?_⟩
  refine wpMixA_stage ?_
  refine wpQuiet_nil ?_
  go_wp2_with (at_builtin; refine wpList_pushK (by rfl) (.tmp 45) (.tmp 46) 61 4 ib (.bool false) 1 (by rfl) Tryd.underlying61 J1.out J2.out J3.out J4.out (by rfl) base kv b.length (b.map Value.bool) w4.heap.size 1 (.bool true) (by rfl) (by rfl) I5a.ob (by rw [kNa.cell 0]; rfl) rfl (by omega) (by decide) I5a.bs ?_; intro kva w6a hO6a hg6a hp6a)
  have I6a := I5a.pushK hg6a hO6a hp6a
  have F6a := F5a.only (grownBy_only (A := hotG bl lv gv kv) hg6a fun y e => .inr (.inr (.inr e))) I5a.cold
  refine ⟨.inr ((Below.only B5a).trans (grownBy_only (A := Aa) hg6a fun y e => hAka y e) fun _ h => .inl h), ?_⟩
  refine wpMixA_stage ?_
  refine wpQuiet_nil ?_
  have CCa := IH1.out w6a _ lv _ kva F6a I6a (by omega)
  go_wp2_with (go_at_call 19; refine CCa.mono ?_; clear CCa; rintro e w7a ⟨rfl, D7a, lv7a, R7a⟩)
  have R8a := R5a.trans (I5a.popK hg6a hp6a R7a)
  have I8a := I4.run R8a
  have F8a := F4.only R8a.only I4.cold
  refine ⟨.inl trivial, ?_⟩
  refine wpMixA_last ?_
  refine wpQuiet_nil ?_
  clear R5a I5a F5a I6a F6a R7a hO6a hg6a hp6a B5a kNa cga lga hbga hAka hnxa Aa I4 F4
  go_wp2
  -- luck: false
  have cgb := F8a.bgo.cell 0
  have lgb := F8a.bgo.lt
  simp only [List.getElem?_toArray, List.getElem?_cons_zero] at cgb
  obtain ⟨Ab, hAb⟩ : ∃ A : Nat → Prop, A = fun x => kv.ownBlock = some x := ⟨_, rfl⟩
  have hbgb : ¬ Ab bg := by rw [hAb]; exact fun e => I8a.cold _ F8a.c4 (.inr (.inr (.inr e)))
  have hAkb : ∀ x, kv.ownBlock = some x → Ab x := fun x hx => by rw [hAb]; exact hx
  clear hAb
  have hnxb := onlyX_some Ab w7a
  refine wp_region_mixA (A := Ab) [([0, 1, 2], 3, false), ([], 4, false), ([], 5, true)] [] [5] (by kernel_rfl) (by kernel_rfl) (fun _ _ d _ _ h => by cases d <;> exact h) ?_
  dsimp only [mapL, List.map, opAt]
  refine wpMixA_stage ?_
  repeat (go_big_quiet_step (fail))
  refine wpQuiet_nil ?_
  go_wp2
  obtain ⟨w5b, hw5b, B5b, kNb⟩ : ∃ w5, w5 = (w7a.alloc (.cells #[.bool false] 4)).drew ∧ Below w7a.heap.size w7a w5 ∧ Blk w5 w7a.heap.size #[.bool false] 4 :=
    ⟨_, rfl, (below_new _ _).drew, Blk.drew Blk.new⟩
  rw [← hw5b]
  clear hw5b
  have R5b := I8a.growD B5b
  have I5b := I8a.run R5b
  have F5b := F8a.only R5b.only I8a.cold
  refine ⟨.inr (Below.only B5b), ?_⟩
  refine wpMixA_stage ?_
  refine wpQuiet_nil ?_
  go_wp2_with (at_builtin; refine wpList_pushK (by rfl) (.tmp 51) (.tmp 52) 61 4 ib (.bool false) 1 (by rfl) Tryd.underlying61 J1.out J2.out J3.out J4.out (by rfl) base kv b.length (b.map Value.bool) w7a.heap.size 1 (.bool false) (by rfl) (by rfl) I5b.ob (by rw [kNb.cell 0]; rfl) rfl (by omega) (by decide) I5b.bs ?_; intro kvb w6b hO6b hg6b hp6b)
  have I6b := I5b.pushK hg6b hO6b hp6b
  have F6b := F5b.only (grownBy_only (A := hotG bl lv7a gv kv) hg6b fun y e => .inr (.inr (.inr e))) I5b.cold
  refine ⟨.inr ((Below.only B5b).trans (grownBy_only (A := Ab) hg6b fun y e => hAkb y e) fun _ h => .inl h), ?_⟩
  refine wpMixA_stage ?_
  refine wpQuiet_nil ?_
  have CCb := IH2.out w6b _ lv7a _ kvb F6b I6b (by rw [List.length_append]; omega)
  go_wp2_with (go_at_call 19; refine CCb.mono ?_; clear CCb; rintro e w7b ⟨rfl, D7b, lv7b, R7b⟩)
  have R8b := R5b.trans (I5b.popK hg6b hp6b R7b)
  have I8b := I8a.run R8b
  have F8b := F8a.only R8b.only I8a.cold
  refine ⟨.inl trivial, ?_⟩
  refine wpMixA_last ?_
  refine wpQuiet_nil ?_
  clear R5b I5b F5b I6b F6b R7b hO6b hg6b hp6b B5b kNb cgb lgb hbgb hAkb hnxb Ab I8a F8a
  go_wp2
  go_returns
  refine ⟨rfl, D7b, lv7b, ?_⟩
  rw [← List.append_assoc]
  exact R4.trans (R8a.trans R8b)
end Go.Proofs.YtgaannoghefbbaaDoor
