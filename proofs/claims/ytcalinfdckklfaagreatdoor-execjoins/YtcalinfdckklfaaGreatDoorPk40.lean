/- ValsRefT: ValsRefWrote, ValsRefOn, ValsRefOn2, ValsRefTraces, in one text. -/
import Derived.Test.YtcalinfdckklfaaGreatDoorPk9
import Derived.Test.YtcalinfdckklfaaGreatDoorPk39
import Derived.Test.YtcalinfdckklfaaGreatDoorPk23
import Derived.Test.YtcalinfdckklfaaGreatDoorPk21
namespace Go.Proofs.YtcalinfdckklfaaGreatDoor
open Go.RowKit
attribute [local go_sem] Ext.cell Ext.frozen

theorem wroteS_next {l : List Ev} {k : Nat} {e : Ev} {r : List Ev} (h : l.drop k = e :: r) (a : List Int) : putsN a ((((l.drop k).filter fun e => e.kd == 2)).map Ev.vl) = putsN (if e.kd = 2 then putN a e.vl else a) (((r.filter fun e => e.kd == 2)).map Ev.vl) := by
  rw [h, List.filter_cons]
  by_cases hk : e.kd = 2
  · rw [if_pos (by simpa using hk), if_pos hk, List.map_cons]; rfl
  · rw [if_neg (by simpa using hk), if_neg hk]
theorem wroteT_cons (s : St) (l : List St) : wroteT (s :: l) = wroteS s ++ wroteT l := rfl

set_option maxRecDepth 20000 in
set_option maxHeartbeats 4000000 in
theorem refWrote_any (q p : Option Addr) (d c : Nat) (out : List Int) (l : List St) (w : World) (ho : Sl IntE w (.slice q out.length d) out) (hl : Sl TrE w (.slice p l.length c) l) (hs : ∀ s ∈ l, s.evs.length ≤ 8) (hn : out.length + l.length * 8 ≤ 1000000) :
    Calls Tryz.prog 73 #[.slice q out.length d, .slice p l.length c] w fun e w' => ∃ v, e = .returned v ∧ Sl IntE w' v (putsN out (wroteT l)) ∧ Below w.heap.size w w' := by
  have HS : Hid _ := hs
  clear hs
  go_enter Tryz.func73, Tryz.ntmps73
  go_wp2
  go_loopw [0, 5] (fun a i wr => ∃ (k : Nat) (o : List Int), k ≤ l.length ∧ i = .int .i64 k ∧ Sl IntE wr a o ∧ o.length ≤ out.length + k * 8 ∧ putsN o (wroteT (l.drop k)) = putsN out (wroteT l) ∧ Below w.heap.size w wr) (fun _ i _ => l.length - (intOf i).toNat)
  case atStart => exact ⟨0, out, Nat.zero_le _, rfl, ho, Nat.le_refl _, rfl, Below.refl _ _⟩
  case round =>
    obtain ⟨k, o, hk, rfl, hO, hol, hF, hbr⟩ := hrel
    have HF : Hid _ := hF
    clear hF
    obtain ⟨po, co, rfl⟩ := hO.len
    by_cases hlt : k < l.length
    · obtain ⟨b, oo, r, rfl, -, hZ, hA⟩ := (tr_at (hl.keep hbr)).2 k hlt
      have hE := hZ.e0
      have h8 := HS.out _ (List.getElem_mem hlt)
      have ha0 := hA.c0
      generalize hy : l[k] = y at hE h8
      have HY : Hid (l.drop k = y :: l.drop (k + 1)) := by rw [← hy]; exact drop_at hlt
      clear hy hZ hA
      obtain ⟨pe, ce, he⟩ := hE.len
      rw [he] at hE ha0
      clear he
      have hb1 := cell_lt ha0
      have HB : Hid (putsN o ((((y.evs.drop 0).filter fun e => e.kd == 2)).map Ev.vl) = putsN o (wroteS y)) := rfl
      go_wp2
      obtain ⟨w1, rfl⟩ : ∃ x : World, x = wr := ⟨_, rfl⟩
      go_loopw [0, 6] (fun a i wr => ∃ (j : Nat) (u : List Int), j ≤ y.evs.length ∧ i = .int .i64 j ∧ Sl IntE wr a u ∧ u.length ≤ o.length + j ∧ putsN u ((((y.evs.drop j).filter fun e => e.kd == 2)).map Ev.vl) = putsN o (wroteS y) ∧ Below w1.heap.size w1 wr) (fun _ i _ => y.evs.length - (intOf i).toNat)
      case atStart => exact ⟨0, o, Nat.zero_le _, rfl, hO, Nat.le_refl _, HB.out, Below.refl _ _⟩
      case round =>
        obtain ⟨w2, rfl⟩ : ∃ x : World, x = wr := ⟨_, rfl⟩
        obtain ⟨j, u, hj, rfl, hU, hul, hG, hb2⟩ := hrel
        have HG : Hid _ := hG
        clear hG
        obtain ⟨pu, cu, rfl⟩ := hU.len
        have ha2 := cell_keep ha0 hb2
        have hE2 := hE.keep hb2
        have hbw : Below w.heap.size w w2 := Below.thru hbr hb2 (Nat.le_refl _)
        by_cases hjl : j < y.evs.length
        · obtain ⟨eb, eo, rfl, -, g1, -, g3, -, -, -⟩ := (ev_at hE2).2 j hjl
          generalize hx : y.evs[j] = x at g1 g3
          have HX : Hid (y.evs.drop j = x :: y.evs.drop (j + 1)) := by rw [← hx]; exact drop_at hjl
          clear hx
          have lt1 := cell_lt g1
          have hPut := fun W (hb : Below w2.heap.size w2 W) => refPutN_any pu cu u x.vl W (hU.keep hb) (by omega)
          have HP : Hid _ := hPut
          clear hPut
          by_cases hk2 : x.kd = 2
          · have hkb : (x.kd == 2) = true := by simp [hk2]
            have F1 := trivial
            go_wp2_with (go_at_call 71; clear F1; refine (HP.out _ (Below.refl _ _)).mono ?_; rintro e w3 ⟨v3, rfl, hV3, hb3⟩)
            go_roundw
            case rel => exact ⟨j + 1, _, by omega, by go_num, hV3, by have := putN_len (n := x.vl) (l := u); omega, by rw [← HG.out, wroteS_next HX.out, if_pos hk2], Below.thru hb2 hb3 (Nat.le_refl _)⟩
            case measure => simp [intOf]; omega
          · have hkb : (x.kd == 2) = false := by simp [hk2]
            go_wp2
            go_roundw
            case rel => exact ⟨j + 1, _, by omega, by go_num, hU, by omega, by rw [← HG.out, wroteS_next HX.out, if_neg hk2], hb2⟩
            case measure => simp [intOf]; omega
        · go_wp2
          go_roundw
          case rel => exact ⟨k + 1, u, by omega, by go_num, hU, by omega, by
            have h := HF.out
            rw [HY.out, wroteT_cons, putsN_app, ← HG.out, List.drop_of_length_le (by omega)] at h
            exact h, hbw⟩
          case measure => simp [intOf]; omega
    · have hlt' : ¬ (k : Int) < (l.length : Int) := by omega
      go_wp2
      go_ret
      exact ⟨_, rfl, by have e := HF.out; rw [List.drop_of_length_le (by omega)] at e; rw [← e]; exact hO, hbr⟩
end Go.Proofs.YtcalinfdckklfaaGreatDoor

namespace Go.Proofs.YtcalinfdckklfaaGreatDoor
open Go.RowKit
attribute [local go_sem] Ext.cell Ext.frozen

theorem TrA.z {A : Nat → Prop} {w : World} {r : Nat → Value} {s : St} (h : TrA A w r s) : TrZ A w r s := ⟨h.e0, h.e1, h.e2, h.e3, h.e4⟩
theorem info_boolV : ∃ i, Tryz.prog.info? 4 = some i ∧ i.zero = some (.bool false) ∧ i.size = 1 ∧ i.bytes = 1 := by
  have h : (Tryz.prog.info? 4).map (fun i => (i.zero, i.size, i.bytes)) = some (some (.bool false), 1, 1) := by kernel_rfl
  cases hi : Tryz.prog.info? 4 with
  | none => rw [hi] at h; cases h
  | some i =>
    rw [hi] at h
    simp only [Option.map_some, Option.some.injEq, Prod.mk.injEq] at h
    exact ⟨i, rfl, h.1, h.2.1, h.2.2⟩
theorem info_rtrV : ∃ i z, Tryz.prog.info? 34 = some i ∧ i.zero = some z ∧ z.cells.size = 16 ∧ i.size = 16 ∧ i.bytes = 192 := by
  have h : (Tryz.prog.info? 34).map (fun i => (i.zero.map (·.cells.size), i.size, i.bytes)) = some (some 16, 16, 192) := by kernel_rfl
  cases hi : Tryz.prog.info? 34 with
  | none => rw [hi] at h; cases h
  | some i =>
    rw [hi] at h
    simp only [Option.map_some, Option.some.injEq, Prod.mk.injEq] at h
    obtain ⟨h1, h2, h3⟩ := h
    cases hz : i.zero with
    | none => rw [hz] at h1; cases h1
    | some z =>
      rw [hz] at h1
      simp only [Option.map_some, Option.some.injEq] at h1
      exact ⟨i, z, rfl, hz, h1, h2, h3⟩
def zeroTrV : Array Value := #[.slice none 0 0, .slice none 0 0, .slice none 0 0, .slice none 0 0, .slice none 0 0, .int .i64 0, .int .i64 0, .int .i64 0, .int .i64 0, .int .u32 0, .int .u32 0, .int .u32 0, .int .u32 0, .int .i64 0, .int .i64 0, .int .i64 0]
section
variable {ops : Array Oper} {rest : List Oper} {o : Oper} {a : Act} {w : World} {Q : Exit → Act → World → Prop}
/-- A trace that comes out of a call is stored into a new block. -/
theorem wpList_toldR {T : TypeId} (hi : (Tryz.prog.info? T).map (·.size) = some 16) (hgd : o.guard = none) (x y : Operand) (ho : o.op = .store T x y) {r : Nat → Value} {D : St} {A : Nat → Prop} (hz : TrZ A w r D) (hx : a.eval x = .pointer (some ⟨w.heap.size, 0, none⟩)) (hy : a.eval y = .agg (trC r D))
    (h : ∀ w', TrB w' w.heap.size r D T → Below w.heap.size w w' → wpList Tryz.prog ops Q rest (a.put o.dst undef) w') : wpList Tryz.prog ops Q (o :: rest) a (w.alloc (.cells zeroTrV T (0, 0))) := by
  refine wpList_storeB hgd T x y ho w.heap.size (trC r D) zeroTrV T hx hy Blk.new hi (by rfl) hz.one ?_
  intro w4 kL oL zL
  exact h w4 kL ((below_new _ _).trans (oL.below (by simp) (fun k hk => by omega)))
end

set_option maxRecDepth 20000 in
set_option maxHeartbeats 8000000 in
theorem refOn_done (p pl pv pb : Option Addr) (c cl cv cb : Nat) (th : List Ins) (locs : Int) (l v : List Int) (b : List Bool) (w : World) (h0 : (runT th locs v b).more = 0) (nv : v.length ≤ 8) (nb : b.length ≤ 8)
    (ht : Sl InsE w (.slice p th.length c) th) (hv : Sl IntE w (.slice pv v.length cv) v) (hb : Sl BoolE w (.slice pb b.length cb) b) :
    Calls Tryz.prog 75 #[.slice p th.length c, .int .i64 locs, .slice pl l.length cl, .slice pv v.length cv, .slice pb b.length cb] w fun e w' => ∃ u, e = .returned u ∧ SlA (fun k => w.heap.size ≤ k) TrE w' u [runT th locs v b] ∧ Below w.heap.size w w' := by
  have hR := fun W (hB : Below w.heap.size w W) => rRun_own p pv pb c cv cb th locs v b W (ht.keep hB) (hv.keep hB) (hb.keep hB) (by omega) (by omega)
  generalize runT th locs v b = D at *
  have HR : Hid _ := hR
  have H0 : Hid _ := h0
  clear hR h0
  have F1 := trivial
  go_enter Tryz.func75, Tryz.ntmps75
  go_wp2_with (first
    | (go_at_call 87; clear F1; refine (HR.out _ (Below.refl _ _)).mono ?_; rintro e w2 ⟨r, rfl, hT, hb2⟩; have hz := hT.z; have F2 := trivial)
    | (clear F2; refine wpList_toldR (w := w2) (by kernel_rfl) (by rfl) (.tmp 11) (.tmp 18) (by rfl) hz (by rfl) (by rfl) ?_; intro w4 kL B24; simp only [Act.put]; have B4 := Below.thru hb2 B24 (Nat.le_refl _); obtain ⟨y1, y2, y3⟩ := kL.more; obtain ⟨x0, x1, x2, x3, x4⟩ := kL.rows; obtain ⟨⟨x5, x6, x7, x8⟩, x9, xa, xb, xc⟩ := kL.regs; rw [H0.out] at y3; have lL := kL.lt))
  go_ret
  refine ⟨_, rfl, tr_single (r := r) (s := D) (t := 34) (by have := B4.size; omega) ((hz.keep B24).keep (below_new _ _) |>.mono fun b hb => hb) ?_, B4.trans ((below_new _ _).mono (by have := B4.size; omega))⟩
  show Blk _ _ (trC r D) _
  unfold trC
  rw [H0.out]
  exact Blk.new
end Go.Proofs.YtcalinfdckklfaaGreatDoor

namespace Go.Proofs.YtcalinfdckklfaaGreatDoor
open Go.RowKit
attribute [local go_sem] Ext.cell Ext.frozen

set_option maxRecDepth 20000 in
set_option maxHeartbeats 16000000 in
theorem refOn_luck (p pl : Option Addr) (c cl : Nat) (th : List Ins) (locs : Int) (l : List Int) (hl8 : l.length ≤ 8) (h4 : loadsN th ≤ 4) (f : Nat)
    (ih : ∀ (v : List Int) (b : List Bool) (pv pb : Option Addr) (cv cb : Nat) (w : World), Took th locs v b → v.length + b.length + f = 8 → Sl InsE w (.slice p th.length c) th → Sl IntE w (.slice pl l.length cl) l → Sl IntE w (.slice pv v.length cv) v → Sl BoolE w (.slice pb b.length cb) b →
    Calls Tryz.prog 75 #[.slice p th.length c, .int .i64 locs, .slice pl l.length cl, .slice pv v.length cv, .slice pb b.length cb] w fun e w' => ∃ u, e = .returned u ∧ SlA (fun k => w.heap.size ≤ k) TrE w' u (onT th locs l f v b) ∧ Below w.heap.size w w')
    (v : List Int) (b : List Bool) (pv pb : Option Addr) (cv cb : Nat) (w : World) (tk : Took th locs v b) (hf : v.length + b.length + (f + 1) = 8) (ht : Sl InsE w (.slice p th.length c) th) (hl : Sl IntE w (.slice pl l.length cl) l) (hv : Sl IntE w (.slice pv v.length cv) v) (hb : Sl BoolE w (.slice pb b.length cb) b)
    (h2 : (runT th locs v b).more = 2) :
    Calls Tryz.prog 75 #[.slice p th.length c, .int .i64 locs, .slice pl l.length cl, .slice pv v.length cv, .slice pb b.length cb] w fun e w' => ∃ u, e = .returned u ∧ SlA (fun k => w.heap.size ≤ k) TrE w' u (onT th locs l (f + 1) v b) ∧ Below w.heap.size w w' := by
  have hG : onT th locs l (f + 1) v b = onT th locs l f v (b ++ [true]) ++ onT th locs l f v (b ++ [false]) := by rw [onT, if_neg (by rw [h2]; decide), if_pos h2]
  have hle : ∀ x, Took th locs v (b ++ [x]) → (onT th locs l f v (b ++ [x])).length ≤ 65536 := fun x hx => by
    have h := onT_len (th := th) (locs := locs) hl8 f v (b ++ [x]) hx
    have h1 : 8 ^ (loadsN th - v.length) ≤ 8 ^ 4 := Nat.pow_le_pow_right (by decide) (by omega)
    have h2 : 2 ^ (loadsN th - (b ++ [x]).length) ≤ 2 ^ 4 := Nat.pow_le_pow_right (by decide) (by omega)
    exact Nat.le_trans h (Nat.le_trans (Nat.mul_le_mul h1 h2) (by decide))
  have ih5 := fun (q : Option Addr) (d : Nat) (W : World) (B : Below w.heap.size w W) (hs : Sl BoolE W (.slice q (b.length + 1) d) (b ++ [true])) => ih v (b ++ [true]) pv q cv d W (tk.luck h2 true) (by rw [List.length_append, List.length_singleton]; omega) (ht.keep B) (hl.keep B) (hv.keep B) (by rw [List.length_append, List.length_singleton]; exact hs)
  have ih6 := fun (q : Option Addr) (d : Nat) (W : World) (B : Below w.heap.size w W) (hs : Sl BoolE W (.slice q (b.length + 1) d) (b ++ [false])) => ih v (b ++ [false]) pv q cv d W (tk.luck h2 false) (by rw [List.length_append, List.length_singleton]; omega) (ht.keep B) (hl.keep B) (hv.keep B) (by rw [List.length_append, List.length_singleton]; exact hs)
  have hl5 := hle true (tk.luck h2 true)
  have hl6 := hle false (tk.luck h2 false)
  have hR := fun W (hB : Below w.heap.size w W) => rRun_own p pv pb c cv cb th locs v b W (ht.keep hB) (hv.keep hB) (hb.keep hB) (by omega) (by omega)
  simp only [List.length_append, List.length_singleton] at ih5 ih6
  have nb : b.length ≤ 8 := by omega
  clear ih hle tk hf h4 hl8
  generalize onT th locs l f v (b ++ [true]) = L5 at *
  generalize onT th locs l f v (b ++ [false]) = L6 at *
  generalize runT th locs v b = D at *
  have IH5 : Hid _ := ih5
  have IH6 : Hid _ := ih6
  have HL5 : Hid _ := hl5
  have HL6 : Hid _ := hl6
  have HR : Hid _ := hR
  have H0 : Hid _ := h2
  have HG : Hid _ := hG
  clear hR h2 ih5 ih6 hl5 hl6 hG
  obtain ⟨ib, j1, j2, j3, j4⟩ := info_boolV
  have J1 : Hid _ := j1
  have J2 : Hid _ := j2
  have J3 : Hid _ := j3
  have J4 : Hid _ := j4
  clear j1 j2 j3 j4
  obtain ⟨it, zt, k1, k2, k3, k4, k5⟩ := info_rtrV
  have K1 : Hid _ := k1
  have K2 : Hid _ := k2
  have K3 : Hid _ := k3
  have K4 : Hid _ := k4
  have K5 : Hid _ := k5
  clear k1 k2 k3 k4 k5
  have F1 := trivial
  go_enter Tryz.func75, Tryz.ntmps75
  go_wp2_with (first
    | (go_at_call 87; clear F1; refine (HR.out _ (Below.refl _ _)).mono ?_; rintro e w2 ⟨r, rfl, hT, hb2⟩; have hz := hT.z; have F2 := trivial)
    | (clear F2; refine wpList_toldR (w := w2) (by kernel_rfl) (by rfl) (.tmp 11) (.tmp 18) (by rfl) hz (by rfl) (by rfl) ?_; intro w4 kL B24; simp only [Act.put]; have B4 := Below.thru hb2 B24 (Nat.le_refl _); obtain ⟨y1, y2, y3⟩ := kL.more; rw [H0.out] at y3; have lL := kL.lt; clear hz hT kL; have F3 := trivial)
    | (at_builtin; clear F3; have kE5 : Blk (w4.alloc (.cells #[] 4)) w4.heap.size #[] 4 := Blk.new; refine wpList_app (R := BoolE) (A := F0) (B := fun _ => True) (xs := []) (ys := b) (by rfl) (.tmp 32) (.tmp 33) 120 4 ib (.bool false) 1 (by rfl) Tryz.underlying120 J1.out J2.out J3.out J4.out (by rfl) w4.heap.size (.slice (some ⟨w4.heap.size, 0, none⟩) 0 0) (.slice pb b.length cb) (by rfl) (by rfl) (own_none (Nat.le_refl _) kE5) (hb.keep (B4.alloc B4.size _)) (fun _ _ _ h => h) (by simp only [List.length_nil]; omega) (by decide) (by simp) ?_; intro pw5 cw5 w5a hO5a hg5a _; simp only [List.nil_append] at hO5a ⊢; have b5a : Below w4.heap.size w4 w5a := (below_new _ _).grown hg5a (by simp) (fun k hk => by simp [Value.ownBlock] at hk; omega); have F4 := trivial)
    | (at_builtin; clear F4; refine wpList_push (R := BoolE) (xs := b) (x := true) (by rfl) (.tmp 34) (.tmp 35) 120 4 ib (.bool false) 1 (by rfl) Tryz.underlying120 J1.out J2.out J3.out J4.out (by rfl) w4.heap.size (.slice pw5 b.length cw5) w5a.heap.size (by rfl) (by rfl) (hO5a.keep (below_new _ _)) [.bool true] (fun _ _ => rfl) (fun _ _ _ _ _ h => h) (fun j u hu => by rw [Blk.cell Blk.new]; simpa using hu) (by omega) (by decide) (by have := b5a.size; simp; omega) ?_; intro qw5 dw5 w5b hO5b hg5b _; have b5b : Below w4.heap.size w4 w5b := (b5a.alloc b5a.size _).grown hg5b (by have := b5a.size; simp; omega) (fun k hk => (hO5a.lt k hk).1); have B5b := Below.thru B4 b5b (Nat.le_refl _); have hS5 := hO5b.sl.any; clear hO5a hO5b hg5a hg5b b5a kE5; have F5 := trivial)
    | (go_at_call 75; clear F5; refine (IH5.out _ _ _ B5b hS5).mono ?_; rintro e w5c ⟨u5, rfl, hU5, b5c⟩; obtain ⟨pu5, cu5, rfl⟩ := hU5.len; have B5c := Below.thru B5b b5c (Nat.le_refl _); have F6 := trivial)
    | (at_builtin; clear F6; have hV5 : Own (fun k => w.heap.size ≤ k) TrE w5c w.heap.size 34 (.slice none 0 0) [] := Own.nil; have hlt5 : ∀ k, (Value.slice none 0 0).ownBlock = some k → k < w5b.heap.size := (fun k h => by simp [Value.ownBlock] at h); refine wpList_app (R := TrE) (A := fun k => w.heap.size ≤ k) (B := fun k => w5b.heap.size ≤ k) (xs := []) (ys := L5) (by rfl) (.tmp 27) (.tmp 37) 22 34 it zt 192 (by rfl) Tryz.underlying22 K1.out K2.out K4.out K5.out K3.out w.heap.size _ (.slice pu5 L5.length cu5) (by rfl) (by rfl) hV5 hU5 (fun _ _ _ h => TrE.mono (fun k hk => ⟨Nat.le_trans B5b.size hk, fun e => by have := hlt5 k e.symm; omega⟩) h) (by have := HL5.out; simp only [List.length_nil]; omega) (by decide) B5c.size ?_; intro p5d c5d w5d hO5d hg5d _; simp only [List.nil_append] at hO5d ⊢; have B5d : Below w.heap.size w w5d := B5c.grown hg5d B5c.size (fun k hk => (hV5.lt k hk).1); have F7 := trivial)
    | (at_builtin; clear F7; have kE6 : Blk (w5d.alloc (.cells #[] 4)) w5d.heap.size #[] 4 := Blk.new; refine wpList_app (R := BoolE) (A := F0) (B := fun _ => True) (xs := []) (ys := b) (by rfl) (.tmp 44) (.tmp 45) 120 4 ib (.bool false) 1 (by rfl) Tryz.underlying120 J1.out J2.out J3.out J4.out (by rfl) w5d.heap.size (.slice (some ⟨w5d.heap.size, 0, none⟩) 0 0) (.slice pb b.length cb) (by rfl) (by rfl) (own_none (Nat.le_refl _) kE6) (hb.keep (B5d.alloc B5d.size _)) (fun _ _ _ h => h) (by simp only [List.length_nil]; omega) (by decide) (by simp) ?_; intro pw6 cw6 w6a hO6a hg6a _; simp only [List.nil_append] at hO6a ⊢; have b6a : Below w5d.heap.size w5d w6a := (below_new _ _).grown hg6a (by simp) (fun k hk => by simp [Value.ownBlock] at hk; omega); have F8 := trivial)
    | (at_builtin; clear F8; refine wpList_push (R := BoolE) (xs := b) (x := false) (by rfl) (.tmp 46) (.tmp 47) 120 4 ib (.bool false) 1 (by rfl) Tryz.underlying120 J1.out J2.out J3.out J4.out (by rfl) w5d.heap.size (.slice pw6 b.length cw6) w6a.heap.size (by rfl) (by rfl) (hO6a.keep (below_new _ _)) [.bool false] (fun _ _ => rfl) (fun _ _ _ _ _ h => h) (fun j u hu => by rw [Blk.cell Blk.new]; simpa using hu) (by omega) (by decide) (by have := b6a.size; simp; omega) ?_; intro qw6 dw6 w6b hO6b hg6b _; have b6b : Below w5d.heap.size w5d w6b := (b6a.alloc b6a.size _).grown hg6b (by have := b6a.size; simp; omega) (fun k hk => (hO6a.lt k hk).1); have B6b := Below.thru B5d b6b (Nat.le_refl _); have hS6 := hO6b.sl.any; clear hO6a hO6b hg6a hg6b b6a kE6; have F9 := trivial)
    | (go_at_call 75; clear F9; refine (IH6.out _ _ _ B6b hS6).mono ?_; rintro e w6c ⟨u6, rfl, hU6, b6c⟩; obtain ⟨pu6, cu6, rfl⟩ := hU6.len; have B6c := Below.thru B6b b6c (Nat.le_refl _); have F10 := trivial)
    | (at_builtin; clear F10; have hV6 := (hO5d.keep b6b).keep b6c; have hlt6 : ∀ k, (Value.slice p5d L5.length c5d).ownBlock = some k → k < w6b.heap.size := (fun k h => ((hO5d.keep b6b).lt k h).2); refine wpList_app (R := TrE) (A := fun k => w.heap.size ≤ k) (B := fun k => w6b.heap.size ≤ k) (xs := L5) (ys := L6) (by rfl) (.tmp 39) (.tmp 49) 22 34 it zt 192 (by rfl) Tryz.underlying22 K1.out K2.out K4.out K5.out K3.out w.heap.size _ (.slice pu6 L6.length cu6) (by rfl) (by rfl) hV6 hU6 (fun _ _ _ h => TrE.mono (fun k hk => ⟨Nat.le_trans B6b.size hk, fun e => by have := hlt6 k e.symm; omega⟩) h) (by have := HL6.out; have := HL5.out; omega) (by decide) B6c.size ?_; intro p6d c6d w6d hO6d hg6d _; have B6d : Below w.heap.size w w6d := B6c.grown hg6d B6c.size (fun k hk => (hV6.lt k hk).1); have F11 := trivial))
  go_ret
  refine ⟨.slice p6d (L5.length + L6.length) c6d, rfl, ?_, B6d⟩
  rw [HG.out]
  have hO7 := hO6d.sl
  rw [List.length_append] at hO7
  exact SlA.mono (fun k (hk : w.heap.size ≤ k ∨ w.heap.size ≤ k) => hk.elim id id) hO7

set_option maxRecDepth 20000 in
set_option maxHeartbeats 16000000 in
theorem refOn_val (p pl : Option Addr) (c cl : Nat) (th : List Ins) (locs : Int) (l : List Int) (hl8 : l.length ≤ 8) (h4 : loadsN th ≤ 4) (f : Nat)
    (ih : ∀ (v : List Int) (b : List Bool) (pv pb : Option Addr) (cv cb : Nat) (w : World), Took th locs v b → v.length + b.length + f = 8 → Sl InsE w (.slice p th.length c) th → Sl IntE w (.slice pl l.length cl) l → Sl IntE w (.slice pv v.length cv) v → Sl BoolE w (.slice pb b.length cb) b →
    Calls Tryz.prog 75 #[.slice p th.length c, .int .i64 locs, .slice pl l.length cl, .slice pv v.length cv, .slice pb b.length cb] w fun e w' => ∃ u, e = .returned u ∧ SlA (fun k => w.heap.size ≤ k) TrE w' u (onT th locs l f v b) ∧ Below w.heap.size w w')
    (v : List Int) (b : List Bool) (pv pb : Option Addr) (cv cb : Nat) (w : World) (tk : Took th locs v b) (hf : v.length + b.length + (f + 1) = 8) (ht : Sl InsE w (.slice p th.length c) th) (hl : Sl IntE w (.slice pl l.length cl) l) (hv : Sl IntE w (.slice pv v.length cv) v) (hb : Sl BoolE w (.slice pb b.length cb) b)
    (h1 : (runT th locs v b).more = 1) :
    Calls Tryz.prog 75 #[.slice p th.length c, .int .i64 locs, .slice pl l.length cl, .slice pv v.length cv, .slice pb b.length cb] w fun e w' => ∃ u, e = .returned u ∧ SlA (fun k => w.heap.size ≤ k) TrE w' u (onT th locs l (f + 1) v b) ∧ Below w.heap.size w w' := by
  have hG : onT th locs l (f + 1) v b = l.flatMap fun x => onT th locs l f (v ++ [x]) b := by rw [onT, if_neg (by rw [h1]; decide), if_neg (by rw [h1]; decide)]
  have hle : ∀ x ∈ l, (onT th locs l f (v ++ [x]) b).length ≤ 65536 := fun x _ => by
    have h := onT_len (th := th) (locs := locs) hl8 f (v ++ [x]) b (tk.val h1 x)
    have h1 : 8 ^ (loadsN th - (v ++ [x]).length) ≤ 8 ^ 4 := Nat.pow_le_pow_right (by decide) (by omega)
    have h2 : 2 ^ (loadsN th - b.length) ≤ 2 ^ 4 := Nat.pow_le_pow_right (by decide) (by omega)
    exact Nat.le_trans h (Nat.le_trans (Nat.mul_le_mul h1 h2) (by decide))
  have ih5 := fun (y : Int) (q : Option Addr) (d : Nat) (W : World) (_ : y ∈ l) (B : Below w.heap.size w W) (hs : Sl IntE W (.slice q (v.length + 1) d) (v ++ [y])) => ih (v ++ [y]) b q pb d cb W (tk.val h1 y) (by rw [List.length_append, List.length_singleton]; omega) (ht.keep B) (hl.keep B) (by rw [List.length_append, List.length_singleton]; exact hs) (hb.keep B)
  have hR := fun W (hB : Below w.heap.size w W) => rRun_own p pv pb c cv cb th locs v b W (ht.keep hB) (hv.keep hB) (hb.keep hB) (by omega) (by omega)
  simp only [List.length_append, List.length_singleton] at ih5
  have nv : v.length ≤ 8 := by omega
  clear ih tk hf h4
  generalize runT th locs v b = D at *
  have IH : Hid _ := ih5
  have HLE : Hid _ := hle
  have HR : Hid _ := hR
  have H0 : Hid _ := h1
  have HG : Hid _ := hG
  clear hR h1 ih5 hle hG
  obtain ⟨ii, j1, j2, j3, j4⟩ := info_i64z
  have J1 : Hid _ := j1
  have J2 : Hid _ := j2
  have J3 : Hid _ := j3
  have J4 : Hid _ := j4
  clear j1 j2 j3 j4
  obtain ⟨it, zt, k1, k2, k3, k4, k5⟩ := info_rtrV
  have K1 : Hid _ := k1
  have K2 : Hid _ := k2
  have K3 : Hid _ := k3
  have K4 : Hid _ := k4
  have K5 : Hid _ := k5
  clear k1 k2 k3 k4 k5
  have hne : ∀ w, Nonempty (Ext w) := ext_some
  have F1 := trivial
  go_enter Tryz.func75, Tryz.ntmps75
  go_wp2_with (first
    | (go_at_call 87; clear F1; refine (HR.out _ (Below.refl _ _)).mono ?_; rintro e w2 ⟨r, rfl, hT, hb2⟩; have hz := hT.z; have F2 := trivial)
    | (clear F2; refine wpList_toldR (w := w2) (by kernel_rfl) (by rfl) (.tmp 11) (.tmp 18) (by rfl) hz (by rfl) (by rfl) ?_; intro w4 kL B24; simp only [Act.put]; have B4 := Below.thru hb2 B24 (Nat.le_refl _); obtain ⟨y1, y2, y3⟩ := kL.more; rw [H0.out] at y3; have lL := kL.lt; clear hz hT kL; have F3 := trivial))
  go_loopw [12, 13] (fun a i wr => ∃ (k : Nat) (acc : List St), k ≤ l.length ∧ i = .int .i64 k ∧ Own (fun k => w.heap.size ≤ k) TrE wr w.heap.size 34 a acc ∧ acc.length ≤ k * 65536 ∧ acc = (l.take k).flatMap (fun x => onT th locs l f (v ++ [x]) b) ∧ Below w.heap.size w wr) (fun _ i _ => l.length - (intOf i).toNat)
  case atStart => exact ⟨0, [], Nat.zero_le _, rfl, Own.nil, Nat.zero_le _, rfl, B4⟩
  case round =>
    obtain ⟨k, acc, hk, rfl, hA, hal, hacc, hbr⟩ := hrel
    have HACC : Hid _ := hacc
    clear hacc
    obtain ⟨po, co, rfl⟩ := hA.len
    by_cases hlt : k < l.length
    · obtain ⟨bl, ol, rfl, g1⟩ := (ints_at (hl.keep hbr)).2 k hlt
      have hy0 : l[k] ∈ l := List.getElem_mem hlt
      have hd0 : l.take (k + 1) = l.take k ++ [l[k]] := by rw [List.take_add_one, List.getElem?_eq_getElem hlt]; rfl
      generalize l[k] = y at g1 hy0 hd0
      have HY : Hid _ := hy0
      have HD : Hid _ := hd0
      clear hy0 hd0
      have lg := cell_lt g1
      have hal' : acc.length ≤ 524288 := by omega
      have hlt' : (k : Int) < (l.length : Int) := by omega
      go_wp2
      refine wp_region_tree [15] 17 (by kernel_rfl) (by rfl) ?_
      refine MT.seg0 (by kernel_rfl) (fun _ _ d _ _ h => by cases d <;> exact h) [0, 1, 2, 3, 5, 7, 8, 9, 10, 13] 7 (by kernel_rfl) ?_
      dsimp only [List.map, opAt]
      repeat (go_big_quiet_step (fail))
      refine wpQuiet_nil ?_
      refine MT.two 4 11 false false (by kernel_rfl) ?_ ?_
      · dsimp only [opAt]
        go_wp2
        have b1 : Below wr.heap.size wr (wr.alloc (.cells #[] 2)).drew := ((Below.refl _ _).alloc (Nat.le_refl _) _).drew
        have kg : Blk (wr.alloc (.cells #[] 2)).drew wr.heap.size #[] 2 := Blk.drew Blk.new
        refine ⟨.inr b1, ?_⟩
        generalize (wr.alloc (.cells #[] 2)).drew = w1 at *
        refine MT.two 6 11 false false (by kernel_rfl) ?_ ?_
        · dsimp only [opAt]
          go_wp2_with (at_builtin; refine wpList_app (R := IntE) (A := F0) (B := fun _ => True) (xs := []) (ys := v) (by rfl) (.tmp 61) (.tmp 62) 60 2 ii (.int .i64 0) 8 (by rfl) Tryz.underlying60 J1.out J2.out J3.out J4.out (by rfl) wr.heap.size (.slice (some ⟨wr.heap.size, 0, none⟩) 0 0) (.slice pv v.length cv) (by rfl) (by rfl) (own_none (Nat.le_refl _) kg) ((hv.keep hbr).keep b1) (fun _ _ _ h => h) (by simp only [List.length_nil]; omega) (by decide) (by have := b1.size; omega) ?_; intro p6 c6 wA hO hg _; simp only [List.nil_append] at hO ⊢)
          have bA : Below wr.heap.size wr wA := b1.grown hg b1.size (fun k hk => by simp [Value.ownBlock] at hk; omega)
          refine ⟨.inr bA, ?_⟩
          refine MT.one 11 false (by kernel_rfl) ?_
          dsimp only [opAt]
          go_wp2
          have kx : Blk (wA.alloc (.cells #[.int .i64 y] 2)) wA.heap.size #[.int .i64 y] 2 := Blk.new
          have bL : Below wr.heap.size wr (wA.alloc (.cells #[.int .i64 y] 2)) := bA.alloc bA.size _
          replace hO := hO.keep (below_new wA (.cells #[.int .i64 y] 2))
          generalize (wA.alloc (.cells #[.int .i64 y] 2)) = wL at *
          generalize wA.heap.size = gx at *
          refine ⟨.inr bL, ?_⟩
          refine MT.one 12 false (by kernel_rfl) ?_
          dsimp only [opAt]
          go_wp2_with (at_builtin; refine wpList_push (R := IntE) (xs := v) (x := y) (by rfl) (.tmp 63) (.tmp 68) 60 2 ii (.int .i64 0) 8 (by rfl) Tryz.underlying60 J1.out J2.out J3.out J4.out (by rfl) wr.heap.size (.slice p6 v.length c6) gx (by rfl) (by rfl) hO [.int .i64 y] (fun _ _ => rfl) (fun _ _ _ _ _ h => h) (fun j u hu => by rw [Blk.cell kx]; simpa using hu) (by omega) (by decide) bL.size ?_; intro p7 c7 w7 hO7 hg7 _)
          have b7 : Below wr.heap.size wr w7 := bL.grown hg7 bL.size (fun k hk => (hO.lt k hk).1)
          refine ⟨.inr b7, ?_⟩
          have B7 := Below.thru hbr b7 (Nat.le_refl _)
          have hS := hO7.sl.any
          clear hO7 hg7 hO kx
          refine MT.one 14 false (by kernel_rfl) ?_
          dsimp only [opAt]
          go_wp2_with (go_at_call 75; refine (IH.out _ _ _ _ HY.out B7 hS).mono ?_; rintro e w8 ⟨u, rfl, hU, b8⟩; obtain ⟨pu, cu, rfl⟩ := hU.len)
          have b8' : Below wr.heap.size wr w8 := Below.thru b7 b8 (Nat.le_refl _)
          have B8 := Below.thru B7 b8 (Nat.le_refl _)
          refine ⟨.inr b8', ?_⟩
          refine MT.one 15 true (by kernel_rfl) ?_
          dsimp only [opAt]
          have hV := (hA.keep b7).keep b8
          have hlt8 : ∀ k, (Value.slice po acc.length co).ownBlock = some k → k < w7.heap.size := fun k h => ((hA.keep b7).lt k h).2
          have hLy := HLE.out y HY.out
          generalize hLL : onT th locs l f (v ++ [y]) b = LL at hU hLy
          have HLL : Hid _ := hLL
          clear hLL
          go_wp2_with (at_builtin; refine wpList_app (R := TrE) (A := fun k => w.heap.size ≤ k) (B := fun k => w7.heap.size ≤ k) (xs := acc) (ys := LL) (by rfl) (.tmp 57) (.tmp 71) 22 34 it zt 192 (by rfl) Tryz.underlying22 K1.out K2.out K4.out K5.out K3.out w.heap.size _ (.slice pu LL.length cu) (by rfl) (by rfl) hV hU (fun _ _ _ h => TrE.mono (fun k hk => ⟨Nat.le_trans B7.size hk, fun e => by have := hlt8 k e.symm; omega⟩) h) (by omega) (by decide) B8.size ?_; intro p9 c9 w9 hO9 hg9 _)
          have B9 : Below w.heap.size w w9 := B8.grown hg9 B8.size (fun k hk => (hV.lt k hk).1)
          refine ⟨.inl (by trivial), ?_⟩
          refine MT.one 16 true (by kernel_rfl) ?_
          dsimp only [opAt]
          go_wp2
          refine ⟨.inl (by trivial), ?_⟩
          refine MT.fin (by kernel_rfl) ?_
          go_wp2
          go_roundw
          case rel => exact ⟨k + 1, acc ++ LL, by omega, by go_num, by rw [List.length_append] at hO9; exact hO9, by rw [List.length_append]; omega, by rw [HD.out, List.flatMap_append, ← HACC.out, ← HLL.out, List.flatMap_singleton], B9⟩
          case measure => simp [intOf]; omega
        · dsimp only [opAt]
          go_wp2
          have kx0 : Blk (w1.alloc (.cells #[.int .i64 y] 2)) w1.heap.size #[.int .i64 y] 2 := Blk.new
          have bx : Below wr.heap.size wr (w1.alloc (.cells #[.int .i64 y] 2)) := b1.alloc b1.size _
          have kg1 := kg.alloc (.cells #[.int .i64 y] 2)
          generalize (w1.alloc (.cells #[.int .i64 y] 2)) = wx at *
          generalize hgx : w1.heap.size = gx at *
          have hgx0 : wr.heap.size < gx := by rw [← hgx]; exact kg.lt
          clear hgx
          refine ⟨.inr bx, ?_⟩
          refine MT.one 6 false (by kernel_rfl) ?_
          dsimp only [opAt]
          go_wp2_with (at_builtin; refine wpList_app (R := IntE) (A := F0) (B := fun _ => True) (xs := []) (ys := v) (by rfl) (.tmp 61) (.tmp 62) 60 2 ii (.int .i64 0) 8 (by rfl) Tryz.underlying60 J1.out J2.out J3.out J4.out (by rfl) wr.heap.size (.slice (some ⟨wr.heap.size, 0, none⟩) 0 0) (.slice pv v.length cv) (by rfl) (by rfl) (own_none (Nat.le_refl _) kg1) ((hv.keep hbr).keep bx) (fun _ _ _ h => h) (by simp only [List.length_nil]; omega) (by decide) (by have := bx.size; omega) ?_; intro p6 c6 wA hO hg _; simp only [List.nil_append] at hO ⊢)
          have bA : Below wr.heap.size wr wA := bx.grown hg bx.size (fun k hk => by simp [Value.ownBlock] at hk; omega)
          have kx : Blk wA gx #[.int .i64 y] 2 := kx0.grown hg (by simp [Value.ownBlock]; omega)
          have bL := bA
          generalize wA = wL at *
          refine ⟨.inr bL, ?_⟩
          refine MT.one 12 false (by kernel_rfl) ?_
          dsimp only [opAt]
          go_wp2_with (at_builtin; refine wpList_push (R := IntE) (xs := v) (x := y) (by rfl) (.tmp 63) (.tmp 68) 60 2 ii (.int .i64 0) 8 (by rfl) Tryz.underlying60 J1.out J2.out J3.out J4.out (by rfl) wr.heap.size (.slice p6 v.length c6) gx (by rfl) (by rfl) hO [.int .i64 y] (fun _ _ => rfl) (fun _ _ _ _ _ h => h) (fun j u hu => by rw [Blk.cell kx]; simpa using hu) (by omega) (by decide) bL.size ?_; intro p7 c7 w7 hO7 hg7 _)
          have b7 : Below wr.heap.size wr w7 := bL.grown hg7 bL.size (fun k hk => (hO.lt k hk).1)
          refine ⟨.inr b7, ?_⟩
          have B7 := Below.thru hbr b7 (Nat.le_refl _)
          have hS := hO7.sl.any
          clear hO7 hg7 hO kx
          refine MT.one 14 false (by kernel_rfl) ?_
          dsimp only [opAt]
          go_wp2_with (go_at_call 75; refine (IH.out _ _ _ _ HY.out B7 hS).mono ?_; rintro e w8 ⟨u, rfl, hU, b8⟩; obtain ⟨pu, cu, rfl⟩ := hU.len)
          have b8' : Below wr.heap.size wr w8 := Below.thru b7 b8 (Nat.le_refl _)
          have B8 := Below.thru B7 b8 (Nat.le_refl _)
          refine ⟨.inr b8', ?_⟩
          refine MT.one 15 true (by kernel_rfl) ?_
          dsimp only [opAt]
          have hV := (hA.keep b7).keep b8
          have hlt8 : ∀ k, (Value.slice po acc.length co).ownBlock = some k → k < w7.heap.size := fun k h => ((hA.keep b7).lt k h).2
          have hLy := HLE.out y HY.out
          generalize hLL : onT th locs l f (v ++ [y]) b = LL at hU hLy
          have HLL : Hid _ := hLL
          clear hLL
          go_wp2_with (at_builtin; refine wpList_app (R := TrE) (A := fun k => w.heap.size ≤ k) (B := fun k => w7.heap.size ≤ k) (xs := acc) (ys := LL) (by rfl) (.tmp 57) (.tmp 71) 22 34 it zt 192 (by rfl) Tryz.underlying22 K1.out K2.out K4.out K5.out K3.out w.heap.size _ (.slice pu LL.length cu) (by rfl) (by rfl) hV hU (fun _ _ _ h => TrE.mono (fun k hk => ⟨Nat.le_trans B7.size hk, fun e => by have := hlt8 k e.symm; omega⟩) h) (by omega) (by decide) B8.size ?_; intro p9 c9 w9 hO9 hg9 _)
          have B9 : Below w.heap.size w w9 := B8.grown hg9 B8.size (fun k hk => (hV.lt k hk).1)
          refine ⟨.inl (by trivial), ?_⟩
          refine MT.one 16 true (by kernel_rfl) ?_
          dsimp only [opAt]
          go_wp2
          refine ⟨.inl (by trivial), ?_⟩
          refine MT.fin (by kernel_rfl) ?_
          go_wp2
          go_roundw
          case rel => exact ⟨k + 1, acc ++ LL, by omega, by go_num, by rw [List.length_append] at hO9; exact hO9, by rw [List.length_append]; omega, by rw [HD.out, List.flatMap_append, ← HACC.out, ← HLL.out, List.flatMap_singleton], B9⟩
          case measure => simp [intOf]; omega
      · dsimp only [opAt]
        go_wp2
        have bx : Below wr.heap.size wr (wr.alloc (.cells #[.int .i64 y] 2)).drew := ((Below.refl _ _).alloc (Nat.le_refl _) _).drew
        have kx0 : Blk (wr.alloc (.cells #[.int .i64 y] 2)).drew wr.heap.size #[.int .i64 y] 2 := Blk.drew Blk.new
        refine ⟨.inr bx, ?_⟩
        generalize (wr.alloc (.cells #[.int .i64 y] 2)).drew = wx at *
        refine MT.one 4 false (by kernel_rfl) ?_
        dsimp only [opAt]
        go_wp2
        have b1 : Below wr.heap.size wr (wx.alloc (.cells #[] 2)) := bx.alloc bx.size _
        have kg : Blk (wx.alloc (.cells #[] 2)) wx.heap.size #[] 2 := Blk.new
        have kx1 := kx0.alloc (.cells #[] 2)
        generalize hge : wx.heap.size = ge at *
        have hge0 : wr.heap.size < ge := by rw [← hge]; exact kx0.lt
        generalize (wx.alloc (.cells #[] 2)) = w1 at *
        clear hge
        refine ⟨.inr b1, ?_⟩
        refine MT.one 6 false (by kernel_rfl) ?_
        dsimp only [opAt]
        go_wp2_with (at_builtin; refine wpList_app (R := IntE) (A := F0) (B := fun _ => True) (xs := []) (ys := v) (by rfl) (.tmp 61) (.tmp 62) 60 2 ii (.int .i64 0) 8 (by rfl) Tryz.underlying60 J1.out J2.out J3.out J4.out (by rfl) wr.heap.size (.slice (some ⟨ge, 0, none⟩) 0 0) (.slice pv v.length cv) (by rfl) (by rfl) (own_none (by omega) kg) ((hv.keep hbr).keep b1) (fun _ _ _ h => h) (by simp only [List.length_nil]; omega) (by decide) (by have := b1.size; omega) ?_; intro p6 c6 wA hO hg _; simp only [List.nil_append] at hO ⊢)
        have bA : Below wr.heap.size wr wA := b1.grown hg b1.size (fun k hk => by simp [Value.ownBlock] at hk; omega)
        have kx : Blk wA wr.heap.size #[.int .i64 y] 2 := kx1.grown hg (by simp [Value.ownBlock]; omega)
        have bL := bA
        generalize wA = wL at *
        obtain ⟨gx, hgx⟩ : ∃ gx, wr.heap.size = gx := ⟨_, rfl⟩
        have kx : Blk wL gx #[.int .i64 y] 2 := hgx ▸ kx
        refine ⟨.inr bL, ?_⟩
        refine MT.one 12 false (by kernel_rfl) ?_
        dsimp only [opAt]
        go_wp2_with (at_builtin; refine wpList_push (R := IntE) (xs := v) (x := y) (by rfl) (.tmp 63) (.tmp 68) 60 2 ii (.int .i64 0) 8 (by rfl) Tryz.underlying60 J1.out J2.out J3.out J4.out (by rfl) wr.heap.size (.slice p6 v.length c6) wr.heap.size (by rfl) (by rfl) hO [.int .i64 y] (fun _ _ => rfl) (fun _ _ _ _ _ h => h) (fun j u hu => by rw [hgx, Blk.cell kx]; simpa using hu) (by omega) (by decide) bL.size ?_; intro p7 c7 w7 hO7 hg7 _)
        have b7 : Below wr.heap.size wr w7 := bL.grown hg7 bL.size (fun k hk => (hO.lt k hk).1)
        refine ⟨.inr b7, ?_⟩
        have B7 := Below.thru hbr b7 (Nat.le_refl _)
        have hS := hO7.sl.any
        clear hO7 hg7 hO kx
        refine MT.one 14 false (by kernel_rfl) ?_
        dsimp only [opAt]
        go_wp2_with (go_at_call 75; refine (IH.out _ _ _ _ HY.out B7 hS).mono ?_; rintro e w8 ⟨u, rfl, hU, b8⟩; obtain ⟨pu, cu, rfl⟩ := hU.len)
        have b8' : Below wr.heap.size wr w8 := Below.thru b7 b8 (Nat.le_refl _)
        have B8 := Below.thru B7 b8 (Nat.le_refl _)
        refine ⟨.inr b8', ?_⟩
        refine MT.one 15 true (by kernel_rfl) ?_
        dsimp only [opAt]
        have hV := (hA.keep b7).keep b8
        have hlt8 : ∀ k, (Value.slice po acc.length co).ownBlock = some k → k < w7.heap.size := fun k h => ((hA.keep b7).lt k h).2
        have hLy := HLE.out y HY.out
        generalize hLL : onT th locs l f (v ++ [y]) b = LL at hU hLy
        have HLL : Hid _ := hLL
        clear hLL
        go_wp2_with (at_builtin; refine wpList_app (R := TrE) (A := fun k => w.heap.size ≤ k) (B := fun k => w7.heap.size ≤ k) (xs := acc) (ys := LL) (by rfl) (.tmp 57) (.tmp 71) 22 34 it zt 192 (by rfl) Tryz.underlying22 K1.out K2.out K4.out K5.out K3.out w.heap.size _ (.slice pu LL.length cu) (by rfl) (by rfl) hV hU (fun _ _ _ h => TrE.mono (fun k hk => ⟨Nat.le_trans B7.size hk, fun e => by have := hlt8 k e.symm; omega⟩) h) (by omega) (by decide) B8.size ?_; intro p9 c9 w9 hO9 hg9 _)
        have B9 : Below w.heap.size w w9 := B8.grown hg9 B8.size (fun k hk => (hV.lt k hk).1)
        refine ⟨.inl (by trivial), ?_⟩
        refine MT.one 16 true (by kernel_rfl) ?_
        dsimp only [opAt]
        go_wp2
        refine ⟨.inl (by trivial), ?_⟩
        refine MT.fin (by kernel_rfl) ?_
        go_wp2
        go_roundw
        case rel => exact ⟨k + 1, acc ++ LL, by omega, by go_num, by rw [List.length_append] at hO9; exact hO9, by rw [List.length_append]; omega, by rw [HD.out, List.flatMap_append, ← HACC.out, ← HLL.out, List.flatMap_singleton], B9⟩
        case measure => simp [intOf]; omega
    · go_wp2
      go_ret
      refine ⟨_, rfl, ?_, hbr⟩
      have e : l.take k = l := List.take_of_length_le (by omega)
      rw [HG.out]
      have h := HACC.out
      rw [e] at h
      rw [← h]
      exact SlA.mono (fun k (hk : w.heap.size ≤ k ∨ w.heap.size ≤ k) => hk.elim id id) hA.sl

theorem refOn_any (p pl : Option Addr) (c cl : Nat) (th : List Ins) (locs : Int) (l : List Int) (hl8 : l.length ≤ 8) (h4 : loadsN th ≤ 4) : ∀ f, ∀ (v : List Int) (b : List Bool) (pv pb : Option Addr) (cv cb : Nat) (w : World), Took th locs v b → v.length + b.length + f = 8 → Sl InsE w (.slice p th.length c) th → Sl IntE w (.slice pl l.length cl) l → Sl IntE w (.slice pv v.length cv) v → Sl BoolE w (.slice pb b.length cb) b →
    Calls Tryz.prog 75 #[.slice p th.length c, .int .i64 locs, .slice pl l.length cl, .slice pv v.length cv, .slice pb b.length cb] w fun e w' => ∃ u, e = .returned u ∧ SlA (fun k => w.heap.size ≤ k) TrE w' u (onT th locs l f v b) ∧ Below w.heap.size w w' := by
  intro f
  induction f with
  | zero =>
    intro v b pv pb cv cb w tk hf ht hl hv hb
    have h0 : (runT th locs v b).more = 0 := by
      have hr := room tk
      rcases more_cases th locs v b with h | h | h
      · exact h
      · have := room_val tk h; omega
      · have := room_luck tk h; omega
    exact refOn_done p pl pv pb c cl cv cb th locs l v b w h0 (by omega) (by omega) ht hv hb
  | succ f ih =>
    intro v b pv pb cv cb w tk hf ht hl hv hb
    rcases more_cases th locs v b with h | h | h
    · have e : onT th locs l (f + 1) v b = [runT th locs v b] := by rw [onT, if_pos h]
      rw [e]
      exact refOn_done p pl pv pb c cl cv cb th locs l v b w h (by omega) (by omega) ht hv hb
    · exact refOn_val p pl c cl th locs l hl8 h4 f ih v b pv pb cv cb w tk hf ht hl hv hb h
    · exact refOn_luck p pl c cl th locs l hl8 h4 f ih v b pv pb cv cb w tk hf ht hl hv hb h
end Go.Proofs.YtcalinfdckklfaaGreatDoor

namespace Go.Proofs.YtcalinfdckklfaaGreatDoor
open Go.RowKit
attribute [local go_sem] Ext.cell Ext.frozen

set_option maxRecDepth 20000 in
set_option maxHeartbeats 4000000 in
theorem refTraces_any (p pl : Option Addr) (c cl : Nat) (th : List Ins) (locs : Int) (l : List Int) (w : World) (hl8 : l.length ≤ 8) (hth : th.length ≤ 1000000)
    (ht : Sl InsE w (.slice p th.length c) th) (hl : Sl IntE w (.slice pl l.length cl) l) :
    Calls Tryz.prog 48 #[.slice p th.length c, .int .i64 locs, .slice pl l.length cl] w fun e w' => ∃ u, e = .returned u ∧ SlA (fun k => w.heap.size ≤ k) TrE w' u (tracesT th locs l) ∧ Below w.heap.size w w' := by
  go_enter Tryz.func48, Tryz.ntmps48
  go_wp2
  go_loopw [7, 8] (fun n i wr => ∃ k : Nat, k ≤ th.length ∧ i = .int .i64 k ∧ n = .int .i64 (loadsN (th.take k) : Nat) ∧ Below w.heap.size w wr) (fun _ i _ => th.length - (intOf i).toNat)
  case atStart => exact ⟨0, Nat.zero_le _, rfl, rfl, Below.refl _ _⟩
  case round =>
    obtain ⟨k, hk, rfl, rfl, hbr⟩ := hrel
    have hle : loadsN (th.take k) ≤ th.length := Nat.le_trans loads_all (loadsN_le th)
    by_cases hlt : k < th.length
    · obtain ⟨tb, to, rfl, e0, e1, e2, e3, e4, e5⟩ := (ins_at (ht.keep hbr)).2 k hlt
      have hn := loads_take (th := th) (k := k) (x := th[k]) (List.getElem?_eq_getElem hlt)
      generalize hx : th[k] = x at e0 e1 e2 e3 e4 e5 hn
      clear hx
      by_cases hld : ldB x = true
      · rw [if_pos hld] at hn
        have HK : Hid (kindZ x.op = 1) := kind_ld.2 hld
        have HN : Hid _ := hn
        clear hn hld
        go_wp2_with (go_at_call 74; refine (refKind_any _ _ _ _ _ _ _).mono ?_; rintro e w3 ⟨rfl, hb3⟩; rw [HK.out])
        go_roundw
        case rel => exact ⟨k + 1, by omega, by go_num, by rw [HN.out]; go_num, Below.thru hbr hb3 (Nat.le_refl _)⟩
        case measure => simp [intOf]; omega
      · rw [if_neg hld] at hn
        have hkb : (kindZ x.op == 1) = false := by rw [beq_eq_false_iff_ne]; exact fun h => hld (kind_ld.1 h)
        have HN : Hid _ := hn
        clear hn hld
        go_wp2_with (go_at_call 74; refine (refKind_any _ _ _ _ _ _ _).mono ?_; rintro e w3 ⟨rfl, hb3⟩)
        go_roundw
        case rel => exact ⟨k + 1, by omega, by go_num, by rw [HN.out]; rfl, Below.thru hbr hb3 (Nat.le_refl _)⟩
        case measure => simp [intOf]; omega
    · have hkk : k = th.length := by omega
      subst hkk
      have HE : Hid (loadsN (th.take th.length) = loadsN th) := by rw [List.take_length]; exact rfl
      by_cases h4 : loadsN th ≤ 4
      · have h4' : ¬ (4 : Int) < ((loadsN (th.take th.length) : Nat) : Int) := by rw [HE.out]; omega
        have hT : tracesT th locs l = onT th locs l 8 [] [] := if_pos h4
        have HT : Hid _ := hT
        clear hT
        have hOn := fun W (hB : Below wr.heap.size wr W) => refOn_any p pl c cl th locs l hl8 h4 8 [] [] none none 0 0 W (took_nil _ _) rfl ((ht.keep hbr).keep hB) ((hl.keep hbr).keep hB) SlA.nil SlA.nil
        have HO : Hid _ := hOn
        clear hOn
        go_wp2_with (go_at_call 75; refine (HO.out _ (Below.refl _ _)).mono ?_; rintro e w3 ⟨u, rfl, hU, hb3⟩)
        go_ret
        exact ⟨u, rfl, by rw [HT.out]; exact hU.mono (fun b hb => Nat.le_trans hbr.size hb), Below.thru hbr hb3 (Nat.le_refl _)⟩
      · have h4' : (4 : Int) < ((loadsN (th.take th.length) : Nat) : Int) := by rw [HE.out]; omega
        have hT : tracesT th locs l = [] := if_neg h4
        have HT : Hid _ := hT
        clear hT
        go_wp2
        go_ret
        exact ⟨_, rfl, by rw [HT.out]; exact SlA.nil, hbr⟩
end Go.Proofs.YtcalinfdckklfaaGreatDoor
