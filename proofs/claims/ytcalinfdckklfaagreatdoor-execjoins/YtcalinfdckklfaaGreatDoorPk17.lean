/- ExecD: ExecOwn2, ExecOwn3, in one text. -/
import Derived.Test.YtcalinfdckklfaaGreatDoorPk15
import Derived.Test.YtcalinfdckklfaaGreatDoorPk12
import Derived.Test.YtcalinfdckklfaaGreatDoorPk16
namespace Go.Proofs.YtcalinfdckklfaaGreatDoor
open Go.RowKit
attribute [local go_sem] Ext.cell Ext.frozen

section
variable {ops : Array Oper} {rest : List Oper} {o : Oper} {a : Act} {w : World} {Q : Exit → Act → World → Prop}
/-- A trace is stored into a new block. -/
theorem wpList_toldT {T : TypeId} (hi : (Tryz.prog.info? T).map (·.size) = some 16) (hgd : o.guard = none) (x y : Operand) (ho : o.op = .store T x y) {r : Nat → Value} {t : Tr} {A : Nat → Prop} (hz : TgZ A w r t) (hx : a.eval x = .pointer (some ⟨w.heap.size, 0, none⟩)) (hy : a.eval y = .agg (tgC r t))
    (h : ∀ w', Blk w' w.heap.size (tgC r t) T → Below w.heap.size w w' → wpList Tryz.prog ops Q rest (a.put o.dst undef) w') : wpList Tryz.prog ops Q (o :: rest) a (w.alloc (.cells zeroTrP T (0, 0))) := by
  refine wpList_storeB hgd T x y ho w.heap.size (tgC r t) zeroTrP T hx hy Blk.new hi (by rfl) hz.one ?_
  intro w4 kL oL zL
  exact h w4 kL ((below_new _ _).trans (oL.below (by simp) (fun k hk => by omega)))
end
theorem map_takeE {l : List Ev} {j k : Nat} {e : Ev} (h : l[j]? = some e) : (l.take (j + 1)).map (thrEv k) = (l.take j).map (thrEv k) ++ [thrEv k e] := by
  rw [List.take_add_one, h, Option.toList_some, List.map_append]
  rfl
theorem evsJ_next {l : List Tr} {k : Nat} {t : Tr} (h : l[k]? = some t) (hk : k ≤ l.length) : evsJ (l.take (k + 1)) 0 = evsJ (l.take k) 0 ++ t.evs.map (thrEv k) := by
  rw [List.take_add_one, h, Option.toList_some, evsJ_snoc, List.length_take, Nat.min_eq_left hk, Nat.zero_add]

set_option maxRecDepth 20000 in
set_option maxHeartbeats 8000000 in
theorem events_any (p : Option Addr) (c : Nat) (l : List Tr) (w : World) (hl : Sl TgE w (.slice p l.length c) l) (hn : totN l ≤ 1000) (hnl : l.length ≤ 1000000) :
    Calls Tryz.prog 22 #[.slice p l.length c] w fun e w' => ∃ v, e = .returned v ∧ SlA (fun k => w.heap.size ≤ k) EvE w' v (evsJ l 0) ∧ Below w.heap.size w w' := by
  obtain ⟨i0, z0, j1, j2, j3, j4, j5⟩ := cl_get (show ((Tryz.prog.info? 52).map fun i => (i.zero.map (·.cells.size), i.size, i.bytes)) = some (some 7, 7, 40) by kernel_rfl)
  have J1 : Hid _ := j1
  have J2 : Hid _ := j2
  have J3 : Hid _ := j3
  have J4 : Hid _ := j4
  have J5 : Hid _ := j5
  clear j1 j2 j3 j4 j5
  go_enter Tryz.func22, Tryz.ntmps22
  go_wp2
  go_loopw [3, 10] (fun a i wr => ∃ k : Nat, k ≤ l.length ∧ i = .int .i64 k ∧ Own F0 EvE wr w.heap.size 52 a (evsJ (l.take k) 0) ∧ Below w.heap.size w wr) (fun _ i _ => l.length - (Go.RowKit.intOf i).toNat)
  case atStart => exact ⟨0, Nat.zero_le _, rfl, Own.nil, Below.refl _ _⟩
  case round =>
    obtain ⟨k, hk, rfl, hO, hbr⟩ := hrel
    by_cases hlt : k < l.length
    · obtain ⟨b, oo, r, rfl, -, hZ0, hA0⟩ := (tg_at hl).2 k hlt
      have hnx := evsJ_next (List.getElem?_eq_getElem hlt) hk
      have htk : totN (l.take k) + l[k].evs.length ≤ totN l := by
        have h1 := totN_take l (k + 1)
        rw [List.take_add_one, List.getElem?_eq_getElem hlt, Option.toList_some, totN_snoc] at h1
        exact h1
      have hel : (evsJ (l.take k) 0).length = totN (l.take k) := evsJ_len _ _
      generalize l[k] = t at hZ0 hA0 hnx htk
      generalize evsJ (l.take k) 0 = E at *
      have HNX : Hid _ := hnx
      have hE6 : E.length + t.evs.length ≤ 1000 := by omega
      clear hnx htk hel
      have hZ := hZ0.keep hbr
      have a0 := cell_keep hA0.c0 hbr
      have a1 := cell_keep hA0.c1 hbr
      have a2 := cell_keep hA0.c2 hbr
      have a3 := cell_keep hA0.c3 hbr
      have a4 := cell_keep hA0.c4 hbr
      have a5 := cell_keep hA0.v0 hbr
      have a6 := cell_keep hA0.v1 hbr
      have a7 := cell_keep hA0.v2 hbr
      have a8 := cell_keep hA0.v3 hbr
      have a9 := cell_keep hA0.d0 hbr
      have aa := cell_keep hA0.d1 hbr
      have ab := cell_keep hA0.d2 hbr
      have ac := cell_keep hA0.d3 hbr
      have ad := cell_keep hA0.vs hbr
      have ae := cell_keep hA0.ls hbr
      have af := cell_keep hA0.mo hbr
      have la := cell_lt a0
      obtain ⟨pe, ce, he⟩ := hZ.e0.len
      have hE0 := hZ0.e0
      rw [he] at hE0
      have HE : Hid _ := he
      clear he hA0 hZ0
      have hlt' : (k : Int) < (l.length : Int) := by omega
      have F1 := trivial
      go_wp2_with (clear F1; refine wpList_toldT (w := wr) (by kernel_rfl) (by rfl) (.tmp 5) (.tmp 14) (by rfl) hZ (by rfl) (by rfl) ?_; intro w4 kL B24; simp only [Act.put]; have x0 : w4.cell? ⟨wr.heap.size, 0, none⟩ = some (r 0) := kL.cell 0; rw [HE.out] at x0; have lL := kL.lt)
      have B4 := Below.thru hbr B24 (Nat.le_refl _)
      have hO4 := hO.keep B24
      clear hZ a0 a1 a2 a3 a4 a5 a6 a7 a8 a9 aa ab ac ad ae af la kL x0 lL HE
      go_loopw [3, 18] (fun a i wr => ∃ j : Nat, j ≤ t.evs.length ∧ i = .int .i64 j ∧ Own F0 EvE wr w.heap.size 52 a (E ++ (t.evs.take j).map (thrEv k)) ∧ Below w.heap.size w wr) (fun _ i _ => t.evs.length - (Go.RowKit.intOf i).toNat)
      case atStart => exact ⟨0, Nat.zero_le _, rfl, by simpa using hO4, B4⟩
      case round =>
        clear hO4 B4 B24 hO hbr
        obtain ⟨j, hj, rfl, hV, hbr⟩ := hrel
        obtain ⟨pv, cv, rfl⟩ := hV.len
        by_cases hjl : j < t.evs.length
        · obtain ⟨eb, eo, rfl, g0, g1, g2, g3, g4, g5, g6⟩ := (ev_at (hE0.keep hbr)).2 j hjl
          have hmt := map_takeE (k := k) (List.getElem?_eq_getElem hjl)
          generalize t.evs[j] = x at g0 g1 g2 g3 g4 g5 g6 hmt
          have HMT : Hid _ := hmt
          have lt1 := cell_lt g1
          have hvl : (E ++ (t.evs.take j).map (thrEv k)).length ≤ 1000000 := by rw [List.length_append, List.length_map, List.length_take]; omega
          clear hmt
          have HV : Hid _ := (rfl : E ++ (t.evs.take j).map (thrEv k) = E ++ (t.evs.take j).map (thrEv k))
          obtain ⟨V, hVe⟩ : ∃ V, E ++ (t.evs.take j).map (thrEv k) = V := ⟨_, rfl⟩
          rw [hVe] at hV hvl
          rw [hVe]
          have HVE : Hid _ := hVe
          clear hVe HV
          have hj6 : j ≤ 100000 := by omega
          have F2 := trivial
          go_wp2_with (first
            | (clear F2; refine wpList_toldE (w := wr) (by rfl) (.tmp 7) (.tmp 21) (by rfl) x (by rfl) (by rfl) ?_; intro w5 kE b5; simp only [Act.put]; have e0 : w5.cell? ⟨wr.heap.size, 0, none⟩ = some (.int .i64 x.th) := kE.cell 0; have f0 : w5.frozen? ⟨wr.heap.size, 0, none⟩ = false := kE.frozen 0; have lE := kE.lt; have F3 := trivial)
            | (clear F3; obtain ⟨w6, hS⟩ : ∃ q, w5.setCell ⟨wr.heap.size, 0, none⟩ (.int .i64 (k : Int)) = q := ⟨_, rfl⟩; rw [hS]; have hsz5 := b5.size; have hbz := hbr.size; have kS : Blk w6 wr.heap.size (thrEv k x).cells.toArray 52 := (by rw [← hS]; exact Blk.set (i := 0) kE _); have gS : w5.grownBy w6 (some wr.heap.size) := (by rw [← hS]; exact grownBy_set _ _ _); have B6 : Below w.heap.size w w6 := (Below.thru hbr b5 (Nat.le_refl _)).grown gS (by omega) (fun q hq => by cases hq; exact hbz); have V6 := (hV.keep b5).agree gS (fun q hq => ⟨fun h => h.elim, fun e => by cases hq; have := (hV.lt _ e).2; omega⟩); clear e0 f0 hS; have s0 := kS.cell 0; have s1 := kS.cell 1; have s2 := kS.cell 2; have s3 := kS.cell 3; have s4 := kS.cell 4; have s5 := kS.cell 5; have s6 := kS.cell 6; simp only [thrEv, Ev.cells, List.getElem?_toArray, List.getElem?_cons_zero, List.getElem?_cons_succ] at s0 s1 s2 s3 s4 s5 s6; have lS := kS.lt; have F4 := trivial)
            | (at_builtin; clear F4; have kN : Blk (w6.alloc (.cells (thrEv k x).cells.toArray 52)) w6.heap.size (thrEv k x).cells.toArray 52 := Blk.new; refine wpList_push (R := EvE) (xs := V) (x := thrEv k x) (by rfl) (.tmp 24) (.tmp 26) 25 52 i0 z0 40 (by rfl) Tryz.underlying25 J1.out J2.out J4.out J5.out J3.out w.heap.size (.slice pv V.length cv) w6.heap.size (by rfl) (by rfl) (V6.keep (below_new _ _)) (thrEv k x).cells (fun _ _ => rfl) (fun _ _ _ _ _ h => h) (fun j u hu => (kN.cell j).trans (by simpa using hu)) hvl (by decide) (by have := B6.size; simp; omega) ?_; intro pb cb wb hOb hgb _; have bb : Below w.heap.size w wb := (B6.alloc B6.size _).grown hgb (by have := B6.size; simp; omega) (fun q hq => (hV.lt q hq).1); have F5 := trivial))
          go_roundw
          case rel => exact ⟨j + 1, by omega, by go_num, by rw [HMT.out, ← List.append_assoc, HVE.out]; exact hOb, bb⟩
          case measure => simp [Go.RowKit.intOf]; omega
        · have hjl' : ¬ (j : Int) < (t.evs.length : Int) := by omega
          have e : t.evs.take j = t.evs := List.take_of_length_le (by omega)
          rw [e] at hV ⊢
          clear e
          go_wp2
          go_roundw
          case rel => exact ⟨k + 1, by omega, by go_num, by rw [HNX.out]; exact hV, hbr⟩
          case measure => simp [Go.RowKit.intOf]; omega
    · have hlt' : ¬ (k : Int) < (l.length : Int) := by omega
      go_wp2
      go_ret
      rw [List.take_of_length_le (by omega)] at hO
      exact ⟨_, rfl, hO.sl.mono fun b hb => hb.elim id False.elim, hbr⟩
end Go.Proofs.YtcalinfdckklfaaGreatDoor

namespace Go.Proofs.YtcalinfdckklfaaGreatDoor
open Go.RowKit
attribute [local go_sem] Ext.cell Ext.frozen

theorem regsJ_next {l : List Tr} {k : Nat} {t : Tr} (h : l[k]? = some t) : regsJ (l.take (k + 1)) = regsJ (l.take k) ++ [[t.v 0, t.v 1, t.v 2, t.v 3]] := by
  unfold regsJ
  rw [List.take_add_one, h, Option.toList_some, List.map_append]
  rfl
theorem regsJ_len (l : List Tr) : (regsJ l).length = l.length := by simp [regsJ]
theorem sl_regs {w : World} {b : Nat} {r : Nat → Value} {t : Tr} {T : TypeId} (h : Blk w b (tgC r t) T) : Sl IntE w (.slice (some ⟨b, 5, none⟩) [t.v 0, t.v 1, t.v 2, t.v 3].length 4) [t.v 0, t.v 1, t.v 2, t.v 3] := by
  refine ⟨_, 4, rfl, ⟨(fun e => by cases e), by simp⟩, fun _ => ⟨b, 5, rfl, trivial, fun i hi => ⟨_, rfl, fun j u hu => ?_⟩⟩⟩
  have hi' : i < 4 := by simpa using hi
  rw [Blk.cell h]
  match j, hu with
  | 0, hu =>
    simp only [List.getElem?_cons_zero, Option.some.injEq] at hu
    subst hu
    match i, hi' with
    | 0, _ | 1, _ | 2, _ | 3, _ => rfl
  | j + 1, hu => simp at hu

set_option maxRecDepth 20000 in
set_option maxHeartbeats 8000000 in
theorem registers_any (p : Option Addr) (c : Nat) (l : List Tr) (w : World) (hl : Sl TgE w (.slice p l.length c) l) (hnl : l.length ≤ 1000000) :
    Calls Tryz.prog 30 #[.slice p l.length c] w fun e w' => ∃ v, e = .returned v ∧ SlA (fun k => w.heap.size ≤ k) (SlE IntE) w' v (regsJ l) ∧ Below w.heap.size w w' := by
  obtain ⟨i0, z0, j1, j2, j3, j4, j5⟩ := cl_get (show ((Tryz.prog.info? 60).map fun i => (i.zero.map (·.cells.size), i.size, i.bytes)) = some (some 1, 1, 24) by kernel_rfl)
  have J1 : Hid _ := j1
  have J2 : Hid _ := j2
  have J3 : Hid _ := j3
  have J4 : Hid _ := j4
  have J5 : Hid _ := j5
  clear j1 j2 j3 j4 j5
  go_enter Tryz.func30, Tryz.ntmps30
  go_wp2
  go_loopw [3, 8] (fun a i wr => ∃ k : Nat, k ≤ l.length ∧ i = .int .i64 k ∧ Own (fun k => w.heap.size ≤ k) (SlE IntE) wr w.heap.size 60 a (regsJ (l.take k)) ∧ Below w.heap.size w wr) (fun _ i _ => l.length - (Go.RowKit.intOf i).toNat)
  case atStart => exact ⟨0, Nat.zero_le _, rfl, Own.nil, Below.refl _ _⟩
  case round =>
    obtain ⟨k, hk, rfl, hO, hbr⟩ := hrel
    by_cases hlt : k < l.length
    · obtain ⟨b, oo, r, rfl, -, hZ0, hA0⟩ := (tg_at hl).2 k hlt
      have hnx := regsJ_next (List.getElem?_eq_getElem hlt)
      have hel : (regsJ (l.take k)).length = k := by rw [regsJ_len, List.length_take, Nat.min_eq_left hk]
      generalize l[k] = t at hZ0 hA0 hnx
      generalize regsJ (l.take k) = E at *
      have HNX : Hid _ := hnx
      have HEL : Hid _ := hel
      clear hnx hel
      have hZ := hZ0.keep hbr
      have a0 := cell_keep hA0.c0 hbr
      have a1 := cell_keep hA0.c1 hbr
      have a2 := cell_keep hA0.c2 hbr
      have a3 := cell_keep hA0.c3 hbr
      have a4 := cell_keep hA0.c4 hbr
      have a5 := cell_keep hA0.v0 hbr
      have a6 := cell_keep hA0.v1 hbr
      have a7 := cell_keep hA0.v2 hbr
      have a8 := cell_keep hA0.v3 hbr
      have a9 := cell_keep hA0.d0 hbr
      have aa := cell_keep hA0.d1 hbr
      have ab := cell_keep hA0.d2 hbr
      have ac := cell_keep hA0.d3 hbr
      have ad := cell_keep hA0.vs hbr
      have ae := cell_keep hA0.ls hbr
      have af := cell_keep hA0.mo hbr
      have la := cell_lt a0
      obtain ⟨pE, cE, rfl⟩ := hO.len
      clear hA0 hZ0
      have hlt' : (k : Int) < (l.length : Int) := by omega
      have hE6 : E.length ≤ 1000000 := by rw [HEL.out]; omega
      have hk6 : k ≤ 1000000 := by omega
      have hcl := fun W h => cloneI_any (some ⟨wr.heap.size, 5, none⟩) 4 [t.v 0, t.v 1, t.v 2, t.v 3] W h (by simp)
      generalize hRR : [t.v 0, t.v 1, t.v 2, t.v 3] = RR at *
      have h4 : RR.length = 4 := by rw [← hRR]; rfl
      rw [h4] at hcl
      have HCL : Hid _ := hcl
      have HRR : Hid _ := hRR
      have H4 : Hid _ := h4
      clear hcl hRR h4
      have F1 := trivial
      go_wp2_with (first
        | (clear F1; refine wpList_toldT (w := wr) (by kernel_rfl) (by rfl) (.tmp 5) (.tmp 11) (by rfl) hZ (by rfl) (by rfl) ?_; intro w4 kL B24; simp only [Act.put]; have lL := kL.lt; have B4 := Below.thru hbr B24 (Nat.le_refl _); have hR4 := sl_regs kL; rw [HRR.out, H4.out] at hR4; have F2 := trivial)
        | (go_at_call 53; clear F2; refine (HCL.out _ hR4).mono ?_; rintro e w5 ⟨v5, rfl, hV5, hb5⟩; obtain ⟨p5, c5, rfl⟩ := hV5.len; have B5 := Below.thru B4 hb5 (Nat.le_refl _); have B25 := Below.thru B24 hb5 (Nat.le_refl _); have F3 := trivial)
        | (at_builtin; clear F3; have hb6 := below_new w5 (.cells #[.slice p5 RR.length c5] 60); have B6 := Below.thru B25 hb6 (Nat.le_refl _); have kN : SlA (fun x => wr.heap.size ≤ x) (SlE IntE) (w5.alloc (.cells #[.slice p5 RR.length c5] 60)) (.slice (some ⟨w5.heap.size, 0, none⟩) 1 1) [RR] := sl_one B25.size (by rw [Blk.cell Blk.new]; rfl) (SlA.mono (fun x hx => Nat.le_trans B24.size hx) (hV5.keep hb6)) (Nat.le_refl _); have hsz := hbr.size; refine wpList_app (R := SlE IntE) (A := fun x => w.heap.size ≤ x) (B := fun x => wr.heap.size ≤ x) (xs := E) (ys := [RR]) (by rfl) (.tmp 12) (.tmp 17) 40 60 i0 z0 24 (by rfl) Tryz.underlying40 J1.out J2.out J4.out J5.out J3.out w.heap.size (.slice pE E.length cE) (.slice (some ⟨w5.heap.size, 0, none⟩) 1 1) (by rfl) (by rfl) (hO.keep B6) kN (fun _ _ _ h => (SlE IntE).mono (fun x hx => ⟨by omega, fun e => by have := (hO.lt x e.symm).2; omega⟩) h) (by simp only [List.length_cons, List.length_nil]; omega) (by decide) (by have := B6.size; omega) ?_; intro p7 c7 w7 hO7 hg7 _; have B7 : Below w.heap.size w w7 := (Below.thru hbr B6 (Nat.le_refl _)).grown hg7 (by have := B6.size; omega) (fun q hq => (hO.lt q hq).1); have F4 := trivial))
      go_roundw
      case rel => exact ⟨k + 1, by omega, by go_num, by rw [HNX.out]; rw [show (E ++ [RR]).length = E.length + 1 by simp] at hO7; exact hO7, B7⟩
      case measure => simp [Go.RowKit.intOf]; omega
    · have hlt' : ¬ (k : Int) < (l.length : Int) := by omega
      have e : l.take k = l := List.take_of_length_le (by omega)
      rw [e] at hO
      clear e
      go_wp2
      go_ret
      exact ⟨_, rfl, hO.sl.mono fun b hb => hb.elim id id, hbr⟩

theorem totN_nxt {l : List Tr} {k : Nat} (h : k < l.length) : totN (l.take (k + 1)) = totN (l.take k) + l[k].evs.length := by
  rw [List.take_add_one, List.getElem?_eq_getElem h]
  exact totN_snoc _ _
theorem tuJ_next {ah : Tr → Nat → Nat} {l : List Tr} {k : Nat} {t : Tr} (h : l[k]? = some t) : tuJ ah (l.take (k + 1)) 0 = tuJ ah (l.take k) 0 ++ (List.range t.evs.length).map fun j => ah t j * 2 ^ totN (l.take k) := by
  rw [List.take_add_one, h, Option.toList_some, tuJ_snoc, Nat.zero_add]
/-- A row whose numbers are a list, and 0 behind it. -/
theorem row_more {L : List Nat} {x n i : Nat} (h : i = L.length) : ∀ k, k < n → updN (fun i => L.getD i 0) i x k = (L ++ [x]).getD k 0 := by
  intro k _
  unfold updN
  by_cases e : k = i
  · rw [if_pos e, e, h]; simp
  · rw [if_neg e]
    show L.getD k 0 = _
    rw [List.getD_eq_getElem?_getD, List.getD_eq_getElem?_getD]
    by_cases hk : k < L.length
    · rw [List.getElem?_append_left hk]
    · rw [List.getElem?_eq_none (by omega), List.getElem?_eq_none (by simp; omega)]
theorem range_getD {L : List Nat} {n : Nat} (h : L.length = n) : (List.range n).map (fun i => L.getD i 0) = L := by
  refine List.ext_getElem (by simp [h]) fun i h1 h2 => ?_
  simp [h2]

set_option maxRecDepth 20000 in
set_option maxHeartbeats 8000000 in
theorem relation_any (fno : FuncId) (S : Sel) (ah : Tr → Nat → Nat) (p : Option Addr) (c : Nat) (l : List Tr) (w : World) (hl : Sl TgE w (.slice p l.length c) l) (h24 : totN l ≤ 24) (hnl : l.length ≤ 1000000)
    (hok : ∀ t ∈ l, AhOk S ah t) (hcf : ∀ args w, (callFunc fno args).run Tryz.prog w = .ok (.enter fno args) w)
    (hA : ∀ t ∈ l, ∀ k, k < t.evs.length → ∀ r W, TgZ (fun _ => True) W r t → Calls Tryz.prog fno #[.agg (tgC r t), .int .i64 (k : Int)] W fun e w' => e = .returned (.int .u32 (ah t k : Nat)) ∧ Below W.heap.size W w') :
    Calls Tryz.prog 23 #[.slice p l.length c, .int .i64 (totN l : Nat), .func (.func fno) #[] #[]] w fun e w' => ∃ v, e = .returned v ∧ SlA (fun k => w.heap.size ≤ k) U32E w' v (mkR (totN l) (relJ S l 0)) ∧ Below w.heap.size w w' := by
  obtain ⟨n, hn⟩ : ∃ n, totN l = n := ⟨_, rfl⟩
  have hinv := tuJ_inv hok (by omega)
  have hlen := tuJ_len (ah := ah) (l := l) (f := 0)
  have hlt := tuJ_lt (f := 0) hok (by omega)
  rw [hn] at hinv hlen h24 ⊢
  have hNew := New_any (n : Int) w
  have e1 : newN (n : Int) = n := by unfold newN; rw [if_neg (by omega)]; rfl
  rw [e1] at hNew
  have HINV : Hid _ := hinv
  have HLEN : Hid _ := hlen
  have HLT : Hid _ := hlt
  have HNEW : Hid (Calls _ _ _ _ _) := hNew
  have HOK : Hid _ := hok
  have HA : Hid _ := hA
  have HN : Hid _ := hn
  clear hinv hlen hlt hNew e1 hok hA hn
  go_enter Tryz.func23, Tryz.ntmps23
  go_wp2_with (go_at_call 51; refine HNEW.out.mono ?_; rintro e w1 ⟨b, rfl, hR, hbb, hb1⟩)
  go_loopw [8, 16] (fun f i wr => ∃ k : Nat, k ≤ l.length ∧ i = .int .i64 k ∧ f = .int .i64 (totN (l.take k) : Nat) ∧ Row wr b 29 n (fun i => (tuJ ah (l.take k) 0).getD i 0) ∧ Below w.heap.size w wr) (fun _ i _ => l.length - (Go.RowKit.intOf i).toNat)
  case atStart => exact ⟨0, Nat.zero_le _, rfl, rfl, hR.congr fun i _ => by simp [tuJ], hb1⟩
  case round =>
    clear hR hb1
    obtain ⟨k, hk, rfl, rfl, hR, hbr⟩ := hrel
    by_cases hlt : k < l.length
    · obtain ⟨xb, oo, r, rfl, -, hZ0, hA0⟩ := (tg_at hl).2 k hlt
      have hnx := tuJ_next (ah := ah) (List.getElem?_eq_getElem hlt)
      have htx := totN_nxt hlt
      have htk := totN_take l (k + 1)
      have hel : (tuJ ah (l.take k) 0).length = totN (l.take k) := tuJ_len
      have hah := HA.out _ (List.getElem_mem hlt)
      have hsh := fun j hj h => ah_shift (f := totN (l.take k)) (HOK.out _ (List.getElem_mem hlt)) (k := j) hj h
      rw [HN.out] at htk
      generalize l[k] = t at hZ0 hA0 hnx htx hah hsh
      generalize hF : totN (l.take k) = F at *
      generalize tuJ ah (l.take k) 0 = E at *
      have HNX : Hid _ := hnx
      have HTX : Hid _ := htx
      have HEL : Hid _ := hel
      have HAH : Hid _ := hah
      have HSH : Hid _ := hsh
      have hFn : F + t.evs.length ≤ n := by omega
      clear hnx htx hel hah hsh htk hF
      have hZ := hZ0.keep hbr
      have a0 := cell_keep hA0.c0 hbr
      have a1 := cell_keep hA0.c1 hbr
      have a2 := cell_keep hA0.c2 hbr
      have a3 := cell_keep hA0.c3 hbr
      have a4 := cell_keep hA0.c4 hbr
      have a5 := cell_keep hA0.v0 hbr
      have a6 := cell_keep hA0.v1 hbr
      have a7 := cell_keep hA0.v2 hbr
      have a8 := cell_keep hA0.v3 hbr
      have a9 := cell_keep hA0.d0 hbr
      have aa := cell_keep hA0.d1 hbr
      have ab := cell_keep hA0.d2 hbr
      have ac := cell_keep hA0.d3 hbr
      have ad := cell_keep hA0.vs hbr
      have ae := cell_keep hA0.ls hbr
      have af := cell_keep hA0.mo hbr
      have la := cell_lt a0
      obtain ⟨pe, ce, he⟩ := hZ.e0.len
      have HE : Hid _ := he
      clear he hA0
      have hlt' : (k : Int) < (l.length : Int) := by omega
      have hF6 : F ≤ 24 := by omega
      have F1 := trivial
      go_wp2_with (clear F1; refine wpList_toldT (w := wr) (by kernel_rfl) (by rfl) (.tmp 10) (.tmp 19) (by rfl) hZ (by rfl) (by rfl) ?_; intro w4 kL B24; simp only [Act.put]; have x0 : w4.cell? ⟨wr.heap.size, 0, none⟩ = some (r 0) := kL.cell 0; rw [HE.out] at x0; have lL := kL.lt)
      have B4 := Below.thru hbr B24 (Nat.le_refl _)
      have hbl := hR.lt
      have hR4 := hR.keep B24
      have hws := hbr.size
      obtain ⟨bt, hbt⟩ : ∃ bt, wr.heap.size = bt := ⟨_, rfl⟩
      rw [hbt] at kL hbl hws lL x0 ⊢
      clear hZ a0 a1 a2 a3 a4 a5 a6 a7 a8 a9 aa ab ac ad ae af la lL x0
      go_loopw [23] (fun i wr => ∃ j : Nat, j ≤ t.evs.length ∧ i = .int .i64 j ∧ Row wr b 29 n (fun i => (E ++ (List.range j).map fun j => ah t j * 2 ^ F).getD i 0) ∧ Blk wr bt (tgC r t) 37 ∧ Below w.heap.size w wr) (fun i _ => t.evs.length - (Go.RowKit.intOf i).toNat)
      case atStart => exact ⟨0, Nat.zero_le _, rfl, hR4.congr fun i _ => by simp, kL, B4⟩
      case round =>
        clear hR4 B4 B24 hR hbr kL hbt
        obtain ⟨j, hj, rfl, hR, kL, hbr⟩ := hrel
        have x0 : wr.cell? ⟨bt, 0, none⟩ = some (r 0) := kL.cell 0
        rw [HE.out] at x0
        have lx := cell_lt x0
        by_cases hjl : j < t.evs.length
        · have hjl' : (j : Int) < (t.evs.length : Int) := by omega
          have hcall := HAH.out j hjl r wr (hZ0.keep hbr)
          have hsh := HSH.out j hjl (by omega)
          unfold tgC at hcall
          rw [HE.out] at hcall
          have HC : Hid (Calls _ _ _ _ _) := hcall
          have HSHj : Hid _ := hsh
          clear hcall hsh
          have c0 : wr.cell? ⟨bt, 0, none⟩ = some (r 0) := kL.cell 0
          have c1 : wr.cell? ⟨bt, 1, none⟩ = some (r 1) := kL.cell 1
          have c2 : wr.cell? ⟨bt, 2, none⟩ = some (r 2) := kL.cell 2
          have c3 : wr.cell? ⟨bt, 3, none⟩ = some (r 3) := kL.cell 3
          have c4 : wr.cell? ⟨bt, 4, none⟩ = some (r 4) := kL.cell 4
          have c5 : wr.cell? ⟨bt, 5, none⟩ = some (.int .i64 (t.v 0)) := kL.cell 5
          have c6 : wr.cell? ⟨bt, 6, none⟩ = some (.int .i64 (t.v 1)) := kL.cell 6
          have c7 : wr.cell? ⟨bt, 7, none⟩ = some (.int .i64 (t.v 2)) := kL.cell 7
          have c8 : wr.cell? ⟨bt, 8, none⟩ = some (.int .i64 (t.v 3)) := kL.cell 8
          have c9 : wr.cell? ⟨bt, 9, none⟩ = some (.int .u32 (t.d 0)) := kL.cell 9
          have c10 : wr.cell? ⟨bt, 10, none⟩ = some (.int .u32 (t.d 1)) := kL.cell 10
          have c11 : wr.cell? ⟨bt, 11, none⟩ = some (.int .u32 (t.d 2)) := kL.cell 11
          have c12 : wr.cell? ⟨bt, 12, none⟩ = some (.int .u32 (t.d 3)) := kL.cell 12
          have c13 : wr.cell? ⟨bt, 13, none⟩ = some (.int .i64 t.vs) := kL.cell 13
          have c14 : wr.cell? ⟨bt, 14, none⟩ = some (.int .i64 t.ls) := kL.cell 14
          have c15 : wr.cell? ⟨bt, 15, none⟩ = some (.int .i64 t.mo) := kL.cell 15
          go_wp2_with fail
          refine HC.out.mono ?_
          rintro e w5 ⟨rfl, hb5⟩
          have hR5 := hR.keep hb5
          have kL5 := kL.keep hb5
          have f5 := hR5.frozen (F + j)
          have l5 := hR5.lt
          have g5 := hR5.cell (i := F + j) (by omega)
          clear c0 c1 c2 c3 c4 c5 c6 c7 c8 c9 c10 c11 c12 c13 c14 c15 x0 lx
          go_wp2
          have hz : ((ah t j : Nat) : Int) * 2 ^ F % 4294967296 = ((ah t j * 2 ^ F : Nat) : Int) := by
            have h1 := HSHj.out
            have h2 : ((ah t j : Nat) : Int) * 2 ^ F = ((ah t j * 2 ^ F : Nat) : Int) := by simp
            rw [h2]
            omega
          have hLj : F + j = (E ++ (List.range j).map fun j => ah t j * 2 ^ F).length := by rw [List.length_append, HEL.out]; simp
          have hS5 := (hR5.setI (i := F + j) (by omega) hz).congr (row_more (n := n) hLj)
          have kS5 := kL5.grown (grownBy_set w5 ⟨b, F + j, none⟩ (.int .u32 (((ah t j : Nat) : Int) * 2 ^ F % 4294967296))) (by simp; omega)
          have bS5 := below_set (i := F + j) (Below.thru hbr hb5 (Nat.le_refl _)) hbb (.int .u32 (((ah t j : Nat) : Int) * 2 ^ F % 4294967296))
          go_roundw
          case rel => exact ⟨j + 1, by omega, by go_num, by rw [List.range_succ, List.map_append, ← List.append_assoc]; exact hS5, kS5, bS5⟩
          case measure => simp [Go.RowKit.intOf]; omega
        · have hjl' : ¬ (j : Int) < (t.evs.length : Int) := by omega
          have e : j = t.evs.length := by omega
          subst e
          go_wp2
          go_roundw
          case rel => exact ⟨k + 1, by omega, by go_num, by rw [HTX.out]; go_num, by rw [HNX.out]; exact hR, hbr⟩
          case measure => simp [Go.RowKit.intOf]; omega
    · have hlt' : ¬ (k : Int) < (l.length : Int) := by omega
      have e : l.take k = l := List.take_of_length_le (by omega)
      rw [e] at hR
      clear e
      have hsl := hR.slA (A := fun k => w.heap.size ≤ k) hbb (fun i hi => by rw [List.getD_eq_getElem?_getD, List.getElem?_eq_getElem (by rw [HLEN.out]; exact hi)]; exact HLT.out _ (List.getElem_mem _))
      rw [range_getD HLEN.out] at hsl
      have hI := Inv_any (some ⟨b, 0, none⟩) n (tuJ ah l 0) wr (by rw [HLEN.out]; exact hsl.any)
      rw [HLEN.out] at hI
      have HI : Hid (Calls _ _ _ _ _) := hI
      clear hI hsl
      go_wp2_with (go_at_call 52; refine HI.out.mono ?_; rintro e w5 ⟨b5, rfl, hR5, hbb5, hb5⟩)
      go_ret
      refine ⟨_, rfl, ?_, Below.thru hbr hb5 (Nat.le_refl _)⟩
      rw [← HINV.out]
      have hsz := hbr.size
      have hs5 : szR (tuJ ah l 0) = n := by unfold szR; rw [HLEN.out, if_neg (by omega)]
      rw [hs5] at hR5 ⊢
      exact hR5.mk (by omega) (by omega)
end Go.Proofs.YtcalinfdckklfaaGreatDoor
