/- The contract of vals' closure that calls itself, where a value is wanted. -/
import Derived.Test.YtgaannoghefbbaaDoorValsGather2
namespace Go.Proofs.YtgaannoghefbbaaDoor
open Go.RowKit
attribute [local go_sem] Ext.cell Ext.frozen OnlyX.cell

set_option maxRecDepth 20000 in
set_option maxHeartbeats 16000000 in
theorem gather_val (th : List Ins) (locs : Int) (l : List Int) (bt bo bl bv bg : Nat) (p : Option Addr) (c : Nat) (pl : Option Addr) (cl : Nat) (C : Nat → Prop) (base f : Nat) (ih : GatherOk th locs l bt bo bl bv bg p c pl cl C base f)
    (v : List Int) (b : List Bool) (W : World) (D : Nat → Prop) (lv : Value) (acc : List St) (gv kv : Value) (tk : Took th locs v b) (hf : v.length + b.length + (f + 1) = 8)
    (F : GaFix W th locs l bt bo bl bv bg p c pl cl C) (I : InvG base bl C W D lv acc gv v kv b) (hn : acc.length + (onT th locs l (f + 1) v b).length ≤ 100000) (h2 : (runT th locs v b).more = 1) (hl8 : l.length ≤ 8) :
    Calls Tryd.prog 19 #[gv, kv, .pointer (some ⟨bt, 0, none⟩), .pointer (some ⟨bo, 0, none⟩), .pointer (some ⟨bl, 0, none⟩), .pointer (some ⟨bv, 0, none⟩), .pointer (some ⟨bg, 0, none⟩)] W
      (GaPost base bl W D lv gv v kv b (acc ++ onT th locs l (f + 1) v b)) := by
  have hG : onT th locs l (f + 1) v b = l.flatMap fun x => onT th locs l f (v ++ [x]) b := by rw [onT, if_neg (by rw [h2]; decide), if_neg (by rw [h2]; decide)]
  have ih1 := fun (y : Int) W D lv acc gv1 => ih (v ++ [y]) b W D lv acc gv1 kv (tk.val h2 y) (by rw [List.length_append, List.length_singleton]; omega)
  have hgk := row_ints I.og
  have hkk := row_bools I.ob
  obtain ⟨pv, cv, hgv⟩ := hgk.len
  obtain ⟨pb, cb, hkv⟩ := hkk.len
  have hGs := hgk.sl.any
  have hKs := hkk.sl.any
  rw [hgv] at hGs
  rw [hkv] at hKs
  have hR := fun W' (hB : Below W.heap.size W W') => Run_own p pv pb c cv cb th locs v b W' (F.env.tab.below hB) (F.env.bar.below hB) (F.hth.any.keep hB) (hGs.keep hB) (hKs.keep hB) (by omega) (by omega)
  rw [← hgv, ← hkv] at hR
  have nv : v.length ≤ 8 := by omega
  clear hGs hKs hgk hkk ih tk hf pv cv hgv pb cb hkv
  rw [hG] at hn ⊢
  clear hG
  generalize runT th locs v b = R at *
  have HR : Hid _ := hR
  have IH1 : Hid _ := ih1
  have hm0 : (R.more == 0) = false := by simp [h2]
  have hm1 : (R.more == 1) = true := by simp [h2]
  have HN : Hid _ := hn
  clear hR h2 ih1 hn
  obtain ⟨ib, j1, j2, j3, j4⟩ := info_i64z
  have J1 : Hid _ := j1
  have J2 : Hid _ := j2
  have J3 : Hid _ := j3
  have J4 : Hid _ := j4
  clear j1 j2 j3 j4
  have t0 := F.bth.cell 0
  have t1 := F.blo.cell 0
  have lt0 := F.bth.lt
  have lt1 := F.blo.lt
  simp only [List.getElem?_toArray, List.getElem?_cons_zero] at t0 t1
  have F1 := trivial
  go_enter Tryd.func19, Tryd.ntmps19
  go_wp2_with (first
    | (go_at_call 20; clear F1; refine (HR.out _ (Below.refl _ _)).mono ?_; rintro e w2 ⟨r, rfl, hT, hb2⟩; have hz := hT.z; have F2 := trivial)
    | (clear F2; refine wpList_toldP (w := w2) (by kernel_rfl) (by rfl) (.tmp 9) (.tmp 16) (by rfl) hz (by rfl) (by rfl) ?_; intro w4 kL B24; simp only [Act.put]; have B4 := Below.thru hb2 B24 (Nat.le_refl _); obtain ⟨y1, y2, y3⟩ := kL.more; have lL := kL.lt; have I4' := I.run (I.growD B4); have F4' := F.only (I.growD B4).only I.cold; have tv := F4'.bva.cell 0; have ltv := F4'.bva.lt; simp only [List.getElem?_toArray, List.getElem?_cons_zero] at tv))
  have R4 := I.growD B4
  have I4 := I.run R4
  have F4 := F.only R4.only I.cold
  have hne : ∀ w, Nonempty (Ext w) := ext_some
  have hne2 : Nonempty AnyW := anyW_some
  clear I4' F4' tv ltv hT hz hb2 B24 kL y1 y2 y3 lL t0 t1 lt0 lt1 hm0 hm1 HR
  go_loopw [29] (fun i wr => ∃ (k : Nat) (D' : Nat → Prop) (lv' : Value), k ≤ l.length ∧ i = .int .i64 k ∧ RunG base bl W D lv gv v kv b wr D' lv' (acc ++ (l.take k).flatMap fun x => onT th locs l f (v ++ [x]) b)) (fun i _ => l.length - (intOf i).toNat)
  case atStart => exact ⟨0, _, lv, Nat.zero_le _, rfl, by unfold RunG; simpa using R4⟩
  case round =>
    clear R4 I4 F4 B4
    obtain ⟨k, Dk, lvk, hk, rfl, R4⟩ := hrel
    have I4 := I.run R4
    have F4 := F.only R4.only I.cold
    by_cases hlt : k < l.length
    · obtain ⟨bi, oi, rfl, g1⟩ := (ints_at F4.hl).2 k hlt
      have hd0 : l.take (k + 1) = l.take k ++ [l[k]] := by rw [List.take_add_one, List.getElem?_eq_getElem hlt]; rfl
      have hd1 : l = l.take k ++ l[k] :: l.drop (k + 1) := by rw [← drop_at hlt, List.take_append_drop]
      generalize l[k] = y at g1 hd0 hd1
      have HD0 : Hid _ := hd0
      have hbound : (acc ++ (l.take k).flatMap fun x => onT th locs l f (v ++ [x]) b).length + (onT th locs l f (v ++ [y]) b).length ≤ 100000 := by
        have h1 := HN.out
        have h2 := congrArg (fun q : List Int => (q.flatMap fun x => onT th locs l f (v ++ [x]) b).length) hd1
        simp only [List.flatMap_append, List.flatMap_cons, List.length_append] at h2
        rw [List.length_append]
        omega
      have HB : Hid _ := hbound
      clear hd0 hd1 hbound
      have lg1 := cell_lt g1
      have hlt' : (k : Int) < (l.length : Int) := by omega
      go_wp2
      clear g1 lg1
      -- luck: true
      have cga := F4.bgo.cell 0
      have lga := F4.bgo.lt
      simp only [List.getElem?_toArray, List.getElem?_cons_zero] at cga
      obtain ⟨Aa, hAa⟩ : ∃ A : Nat → Prop, A = fun x => gv.ownBlock = some x := ⟨_, rfl⟩
      have hbga : ¬ Aa bg := by rw [hAa]; exact fun e => I4.cold _ F4.c4 (.inr (.inr (.inl e)))
      have hAka : ∀ x, gv.ownBlock = some x → Aa x := fun x hx => by rw [hAa]; exact hx
      clear hAa
      have hnxa := onlyX_some Aa wr
      refine wp_region_mixA (A := Aa) [([0, 1, 2, 5], 3, false), ([], 4, false), ([], 6, true)] [] [6] (by kernel_rfl) (by kernel_rfl) (fun _ _ d _ _ h => by cases d <;> exact h) ?_
      dsimp only [mapL, List.map, opAt]
      refine wpMixA_stage ?_
      repeat (go_big_quiet_step (fail))
      refine wpQuiet_nil ?_
      go_wp2
      obtain ⟨w5a, hw5a, B5a, kNa⟩ : ∃ w5, w5 = (wr.alloc (.cells #[.int .i64 y] 2)).drew ∧ Below wr.heap.size wr w5 ∧ Blk w5 wr.heap.size #[.int .i64 y] 2 :=
        ⟨_, rfl, (below_new _ _).drew, Blk.drew Blk.new⟩
      rw [← hw5a]
      clear hw5a
      have R5a := I4.growD B5a
      have I5a := I4.run R5a
      have F5a := F4.only R5a.only I4.cold
      refine ⟨.inr (Below.only B5a), ?_⟩
      refine wpMixA_stage ?_
      refine wpQuiet_nil ?_
      go_wp2_with (at_builtin; refine wpList_pushK (by rfl) (.tmp 34) (.tmp 36) 23 2 ib (.int .i64 0) 8 (by rfl) Tryd.underlying23 J1.out J2.out J3.out J4.out (by rfl) base gv v.length (v.map (Value.int .i64)) wr.heap.size 1 (.int .i64 y) (by rfl) (by rfl) I5a.og (by rw [kNa.cell 0]; rfl) rfl (by omega) (by decide) I5a.bs ?_; intro gva w6a hO6a hg6a hp6a)
      have I6a := I5a.pushG hg6a hO6a hp6a
      have F6a := F5a.only (grownBy_only (A := hotG bl lvk gv kv) hg6a fun y e => .inr (.inr (.inl e))) I5a.cold
      refine ⟨.inr ((Below.only B5a).trans (grownBy_only (A := Aa) hg6a fun y e => hAka y e) fun _ h => .inl h), ?_⟩
      refine wpMixA_stage ?_
      refine wpQuiet_nil ?_
      have CCa := IH1.out y w6a _ lvk _ gva F6a I6a HB.out
      go_wp2_with (go_at_call 19; refine CCa.mono ?_; clear CCa; rintro e w7a ⟨rfl, D7a, lv7a, R7a⟩)
      have R8a := R5a.trans (I5a.popG hg6a hp6a R7a)
      have I8a := I4.run R8a
      have F8a := F4.only R8a.only I4.cold
      refine ⟨.inl trivial, ?_⟩
      refine wpMixA_last ?_
      refine wpQuiet_nil ?_
      clear R5a I5a F5a I6a F6a R7a hO6a hg6a hp6a B5a kNa cga lga hbga hAka hnxa Aa I4 F4
      go_wp2
      go_roundw
      case rel => exact ⟨k + 1, D7a, lv7a, by omega, by go_num, by
        rw [HD0.out, List.flatMap_append, ← List.append_assoc]
        unfold RunG; simpa using R4.trans R8a⟩
      case measure => simp [intOf]; omega
    · have hlt' : ¬ (k : Int) < (l.length : Int) := by omega
      have hk : l.take k = l := List.take_of_length_le (by omega)
      have HK : Hid _ := hk
      clear hk
      go_wp2
      go_returns
      exact ⟨rfl, Dk, lvk, by have h := R4; rw [HK.out] at h; exact h⟩
end Go.Proofs.YtgaannoghefbbaaDoor
