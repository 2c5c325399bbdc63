/- ExecE: AppFull, ExecWaysP, ExecAll, ExecShown, in one text. -/
import Derived.Test.YtcalinfdckklfaaGreatDoorPk1
import Derived.Test.YtcalinfdckklfaaGreatDoorPk11
import Derived.Test.YtcalinfdckklfaaGreatDoorPk12
import Derived.Test.YtcalinfdckklfaaGreatDoorPk18
import Derived.Test.YtcalinfdckklfaaGreatDoorPk28
import Derived.Test.YtcalinfdckklfaaGreatDoorPk13
namespace Go.Proofs.YtcalinfdckklfaaGreatDoor
open Go.RowKit

section
variable {P : Program} {w : World} {α : Type} {R : Elem α} {A : Nat → Prop} {xs ys : List α}
theorem flat_len {α : Type} {R : Elem α} {A : Nat → Prop} {w : World} {xs : List α} {cc : List (List Value)} (h : ∀ i (h : i < xs.length) (h' : i < cc.length), R.cs A w xs[i] cc[i]) (hl : cc.length = xs.length) : cc.flatten.length = xs.length * R.size := by
  have hlen := Own.lens h hl
  rw [← hl]
  clear h hl
  induction cc with
  | nil => simp
  | cons c cc ih => simp only [List.flatten_cons, List.length_append, List.length_cons]; rw [hlen c (by simp), ih (fun c hc => hlen c (by simp [hc])), Nat.add_mul]; omega
theorem run_appFull (t ty e : TypeId) (i : TypeInfo) (z : Value) (bytes : Nat) (ht : P.underlying t = some (.slice e)) (hi : P.info? e = some i) (hz : i.zero = some z) (hsize : i.size = R.size) (hby : i.bytes = bytes) (hzs : z.cells.size = R.size)
    (p : Option Addr) (u : Value) (hxs : SlA A R w (.slice p xs.length xs.length) xs) (hu : SlA A R w u ys) (hne : 0 < ys.length)
    (h63 : xs.length + ys.length ≤ 100000000) (hbytes : bytes ≤ 1000000) :
    ∃ q cap w', (Builtin.append_ #[t, t] ty #[.slice p xs.length xs.length, u]).run P w = .ok (.slice q (xs ++ ys).length cap) w' ∧ Own A R w' w.heap.size e (.slice q (xs ++ ys).length cap) (xs ++ ys) ∧ w.grownBy w' none := by
  cases p with
  | none =>
    have e0 : xs = [] := by
      obtain ⟨p, cap, e, h0, h⟩ := hxs
      simp only [Value.slice.injEq] at e
      obtain ⟨e1, -, -⟩ := e
      by_cases hx : xs = []
      · exact hx
      · obtain ⟨b, o, e, _⟩ := h hx
        rw [e] at e1; cases e1
    subst e0
    obtain ⟨q, cap, w', hr, ho, hg, -⟩ := run_app (P := P) (R := R) (A := A) (B := fun b => A b ∧ b < w.heap.size) (xs := []) (ys := ys) t ty e i z bytes ht hi hz hsize hby hzs w.heap.size (.slice none 0 0) u Own.nil hu.lt (fun y _ c hc => R.mono (fun b hb => ⟨hb.1, fun e => by simp [Value.ownBlock] at e⟩) hc) (by simpa using h63) hbytes (Nat.le_refl _)
    exact ⟨q, cap, w', hr, ho, hg⟩
  | some ad =>
    obtain ⟨p1, c1, dd, e1, hn1, hl1, hd1, hc1⟩ := hxs.cells
    obtain ⟨p2, c2, ff, rfl, hn2, hl2, hd2, hc2⟩ := hu.cells
    simp only [Value.slice.injEq] at e1
    obtain ⟨rfl, -, -⟩ := e1
    cases p2 with
    | none =>
      have := (hn2 rfl).2
      rw [this] at hne
      exact absurd hne (Nat.lt_irrefl _)
    | some bd =>
      have hbb : (xs.length + ys.length) * bytes ≤ 140737488355328 := Nat.le_trans (Nat.mul_le_mul h63 hbytes) (by decide)
      obtain ⟨v', w', hr, h4, h5⟩ := run_append_arg_grows (P := P) (w := w) t ty e i z R.size bytes ht hi hz hsize hby hzs R.pos ad xs.length xs.length dd.flatten (flat_len hd1 hl1) (hc1 ad rfl) bd ys.length c2 ff.flatten (flat_len hd2 hl2) (hc2 bd rfl) (by omega) (by unfold maxLen; omega) hbb
      have h4' : w'.ownsRow w.heap.size e R.size v' (xs ++ ys).length (dd ++ ff).flatten := by rw [List.length_append, List.flatten_append]; exact h4
      have hown : Own A R w' w.heap.size e v' (xs ++ ys) := by
        refine ⟨dd ++ ff, h4', by simp [hl1, hl2], fun k hk hk' => ?_⟩
        have hlt := h4'.lt
        have hfix : ∀ x c, R.cs A w x c → R.cs (fun b => A b ∧ some b ≠ v'.ownBlock) w' x c := fun x c hx => by
          have a1 := R.keep (R.lt hx) (grownBy_agree h5 fun b hb => (by simp))
          refine R.mono (fun b hb => ⟨hb.1, fun e => ?_⟩) a1
          have := (hlt b e.symm).1
          omega
        by_cases hx : k < xs.length
        · rw [List.getElem_append_left hx, List.getElem_append_left (by omega)]
          exact hfix _ _ (hd1 k hx (by omega))
        · rw [List.getElem_append_right (by omega), List.getElem_append_right (by omega)]
          have e : k - dd.length = k - xs.length := by omega
          simp only [e]
          have hy : k - xs.length < ys.length := by simp at hk; omega
          exact hfix _ _ (hd2 _ hy (by omega))
      obtain ⟨q, cap, rfl⟩ := hown.len
      exact ⟨q, cap, w', hr, hown, h5⟩
/-- At an operation of a region. -/
theorem wpList_appFull {ops : Array Oper} {rest : List Oper} {o : Oper} {a : Act} {Q : Exit → Act → World → Prop} (hgd : o.guard = none) (s x : Operand) (t e : TypeId) (i : TypeInfo) (z : Value) (bytes : Nat)
    (ho : o.op = .call { callee := .builtin .append, args := #[s, x], argTypes := #[t, t] })
    (ht : P.underlying t = some (.slice e)) (hi : P.info? e = some i) (hz : i.zero = some z) (hsize : i.size = R.size) (hby : i.bytes = bytes) (hzs : z.cells.size = R.size)
    (p : Option Addr) (u : Value) (hs : a.eval s = .slice p xs.length xs.length) (hx : a.eval x = u) (hxs : SlA A R w (.slice p xs.length xs.length) xs) (hu : SlA A R w u ys) (hne : 0 < ys.length)
    (h63 : xs.length + ys.length ≤ 100000000) (hbytes : bytes ≤ 1000000)
    (h : ∀ q cap w', Own A R w' w.heap.size e (.slice q (xs ++ ys).length cap) (xs ++ ys) → w.grownBy w' none → wpList P ops Q rest (a.put o.dst (.slice q (xs ++ ys).length cap)) w') : wpList P ops Q (o :: rest) a w := by
  refine wpList_plain hgd fun K hK => ?_
  obtain ⟨q, cap, w', hr, h2, h3⟩ := run_appFull (P := P) t o.type e i z bytes ht hi hz hsize hby hzs p u hxs hu hne h63 hbytes
  unfold Oper.wp execOp
  simp only [ho, resolve, invoke, builtin, Sem.run_bind, Sem.run_pure, Result.andThen_ok, List.map_toArray, List.map_cons, List.map_nil, hs, hx, hr]
  exact hK _ _ (h q cap w' h2 h3)
end
end Go.Proofs.YtcalinfdckklfaaGreatDoor

namespace Go.Proofs.YtcalinfdckklfaaGreatDoor
open Go.RowKit
attribute [local go_sem] Ext.cell Ext.frozen

theorem info_ftr : ∃ i z, Tryz.prog.info? 37 = some i ∧ i.zero = some z ∧ z.cells.size = 16 ∧ i.size = 16 ∧ i.bytes = 192 := by
  have h : (Tryz.prog.info? 37).map (fun i => (i.zero.map (·.cells.size), i.size, i.bytes)) = some (some 16, 16, 192) := by kernel_rfl
  cases hi : Tryz.prog.info? 37 with
  | none => rw [hi] at h; cases h
  | some i =>
    rw [hi] at h
    simp only [Option.map_some, Option.some.injEq, Prod.mk.injEq] at h
    obtain ⟨h1, h2, h3⟩ := h
    cases hz : i.zero with
    | none => rw [hz] at h1; cases h1
    | some z =>
      rw [hz] at h1
      simp only [Option.map_some, Option.some.injEq] at h1
      exact ⟨i, z, rfl, hz, h1, h2, h3⟩
theorem info_ftrs : ∃ i, Tryz.prog.info? 24 = some i ∧ i.zero = some (.slice none 0 0) ∧ i.size = 1 ∧ i.bytes = 24 := by
  have h : (Tryz.prog.info? 24).map (fun i => (i.zero, i.size, i.bytes)) = some (some (.slice none 0 0), 1, 24) := by kernel_rfl
  cases hi : Tryz.prog.info? 24 with
  | none => rw [hi] at h; cases h
  | some i =>
    rw [hi] at h
    simp only [Option.map_some, Option.some.injEq, Prod.mk.injEq] at h
    exact ⟨i, rfl, h.1, h.2.1, h.2.2⟩

set_option maxRecDepth 20000 in
set_option maxHeartbeats 2000000 in
theorem count_any (p : Option Addr) (c : Nat) (LL : List (List St)) (w : World) (hl : Sl (SlE TrE) w (.slice p LL.length c) LL) (hn : LL.length ≤ 1000) (h6 : ∀ k, prodL (LL.take k) ≤ 65536) (hL : ∀ L ∈ LL, L.length ≤ 65536) :
    Calls Tryz.prog 68 #[.slice p LL.length c] w fun e w' => e = .returned (.int .i64 (prodL LL : Nat)) ∧ Below w.heap.size w w' := by
  have H6 : Hid _ := h6
  have HL : Hid _ := hL
  clear h6 hL
  go_enter Tryz.func68, Tryz.ntmps68
  go_wp2
  go_loopw [3, 8] (fun n i wr => ∃ k : Nat, k ≤ LL.length ∧ i = .int .i64 k ∧ n = .int .i64 (prodL (LL.take k) : Nat) ∧ Below w.heap.size w wr) (fun _ i _ => LL.length - (Go.RowKit.intOf i).toNat)
  case atStart => exact ⟨0, Nat.zero_le _, rfl, rfl, Below.refl _ _⟩
  case round =>
    obtain ⟨k, hk, rfl, rfl, hbr⟩ := hrel
    by_cases hlt : k < LL.length
    · have hlt' : (k : Int) < (LL.length : Int) := by omega
      obtain ⟨b, o, rfl, v, g0, hv⟩ := (sl_at (hl.keep hbr)).2 k hlt
      have hnx := prodL_next (List.getElem?_eq_getElem hlt)
      have hLk := HL.out _ (List.getElem_mem hlt)
      have h6k := H6.out k
      have h6n := H6.out (k + 1)
      generalize LL[k] = L at hv hnx hLk
      generalize prodL (LL.take k) = F at *
      obtain ⟨pv, cv, rfl⟩ := hv.len
      have lg := cell_lt g0
      obtain ⟨M, hM⟩ : ∃ M, F * L.length = M := ⟨_, rfl⟩
      have hMI : (F : Int) * (L.length : Int) = (M : Int) := by rw [← hM]; simp
      have hMb : M ≤ 65536 := by rw [← hM, ← hnx]; exact h6n
      have HNX : Hid _ := hnx.trans hM
      clear hnx hM h6n hv
      go_wp2
      go_roundw
      case rel => exact ⟨k + 1, by omega, by go_num, by rw [HNX.out], hbr⟩
      case measure => simp [Go.RowKit.intOf]; omega
    · have hlt' : ¬ (k : Int) < (LL.length : Int) := by omega
      have e : LL.take k = LL := List.take_of_length_le (by omega)
      rw [e]
      clear e
      go_wp2
      go_ret
      exact ⟨rfl, hbr⟩

set_option maxRecDepth 20000 in
set_option maxHeartbeats 16000000 in
theorem ways_any (p : Option Addr) (c : Nat) (LL : List (List St)) (w : World) (hl : Sl (SlE TrE) w (.slice p LL.length c) LL) (hn : LL.length ≤ 1000) (h6 : ∀ k, prodL (LL.take k) ≤ 65536) :
    Calls Tryz.prog 69 #[.slice p LL.length c] w fun e w' => ∃ v, e = .returned v ∧ Sl (SlE TrE) w' v (wayL LL) ∧ Below w.heap.size w w' := by
  have H6 : Hid _ := h6
  clear h6
  obtain ⟨it, zt, a1, a2, a3, a4, a5⟩ := info_ftr
  have K1 : Hid _ := a1
  have K2 : Hid _ := a2
  have K3 : Hid _ := a3
  have K4 : Hid _ := a4
  have K5 : Hid _ := a5
  clear a1 a2 a3 a4 a5
  obtain ⟨ir, j1, j2, j3, j4⟩ := info_ftrs
  have J1 : Hid _ := j1
  have J2 : Hid _ := j2
  have J3 : Hid _ := j3
  have J4 : Hid _ := j4
  clear j1 j2 j3 j4
  have hb1 := below_new w (.cells #[.slice none 0 0] 24)
  have hW1 : Sl (SlE TrE) (w.alloc (.cells #[.slice none 0 0] 24)) (.slice (some ⟨w.heap.size, 0, none⟩) 1 1) [[]] := sl_one trivial (by rw [Blk.cell Blk.new]; rfl) SlA.nil (Nat.le_refl _)
  go_enter Tryz.func69, Tryz.ntmps69
  go_wp2
  generalize w.alloc (.cells #[.slice none 0 0] 24) = w1 at *
  go_loopw [3, 15] (fun a i wr => ∃ (k : Nat) (W : List (List St)), k ≤ LL.length ∧ i = .int .i64 k ∧ Sl (SlE TrE) wr a W ∧ W = wayL (LL.take k) ∧ (∀ q ∈ W, q.length ≤ k) ∧ Below w.heap.size w wr) (fun _ i _ => LL.length - (Go.RowKit.intOf i).toNat)
  case atStart => exact ⟨0, [[]], Nat.zero_le _, rfl, hW1, rfl, fun q hq => by rw [List.mem_singleton.1 hq]; exact Nat.le_refl _, hb1⟩
  case round =>
    clear hW1 hb1
    obtain ⟨k, W, hk, rfl, hW, hWE, hWq, hbr⟩ := hrel
    have HQ : Hid _ := hWq
    have hWl : W.length ≤ 65536 := by rw [hWE, wayL_len]; exact H6.out k
    have HWE : Hid _ := hWE
    clear hWq hWE
    obtain ⟨pW, cW, rfl⟩ := hW.len
    by_cases hlt : k < LL.length
    · have hlt' : (k : Int) < (LL.length : Int) := by omega
      obtain ⟨b, o, rfl, v, g0, hv⟩ := (sl_at (hl.keep hbr)).2 k hlt
      have hnx := wayL_next (List.getElem?_eq_getElem hlt)
      rw [← HWE.out] at hnx
      have h6n := H6.out (k + 1)
      rw [← wayL_len, hnx, stepW_len] at h6n
      generalize LL[k] = L at hv hnx h6n
      obtain ⟨pL, cL, rfl⟩ := hv.len
      have lg := cell_lt g0
      have hW4 : SlA (fun b => b < wr.heap.size) (SlE TrE) wr (.slice pW W.length cW) W := SlA.mono (fun b hb => hb.2) (SlA.lt hW)
      have hL4 : SlA (fun b => b < wr.heap.size) TrE wr (.slice pL L.length cL) L := SlA.mono (fun b hb => hb.2) (SlA.lt hv.any)
      have HNX : Hid _ := hnx
      have HML : Hid _ := h6n
      have hLl : 0 < W.length → L.length ≤ 65536 := fun h => by
        have h1 : 1 * L.length ≤ W.length * L.length := Nat.mul_le_mul_right _ h
        omega
      clear hnx h6n hv
      go_wp2
      obtain ⟨w4, hw4⟩ : ∃ x : World, x = wr := ⟨_, rfl⟩
      subst hw4
      go_loopw [6, 21] (fun a i wr => ∃ (m : Nat) (N : List (List St)), m ≤ W.length ∧ i = .int .i64 m ∧ Own (fun _ => True) (SlE TrE) wr w4.heap.size 24 a N ∧ N = stepW (W.take m) L ∧ Below w4.heap.size w4 wr) (fun _ i _ => W.length - (Go.RowKit.intOf i).toNat)
      case atStart => exact ⟨0, [], Nat.zero_le _, rfl, Own.nil, rfl, Below.refl _ _⟩
      case round =>
        obtain ⟨m, N0, hm, rfl, hN0, hNE0, hbr2⟩ := hrel
        have HN0 : Hid _ := hNE0
        clear hNE0
        by_cases hml : m < W.length
        · have hml' : (m : Int) < (W.length : Int) := by omega
          have hL6 := hLl (by omega)
          have hQm := HQ.out _ (List.getElem_mem hml)
          have hsw := stepW_take (W := W) (L := L) (List.getElem?_eq_getElem hml)
          obtain ⟨bq, oq, rfl, vq, g1, hq⟩ := (sl_at hW4).2 m hml
          generalize W[m] = q at hQm hsw hq
          obtain ⟨pq, cq, rfl⟩ := hq.len
          have hqc := cap_len hq
          have HSW : Hid _ := hsw
          have hml1 : (m + 1) * L.length ≤ W.length * L.length := Nat.mul_le_mul_right _ hml
          have hstl : (stepW (W.take m) L).length = m * L.length := by rw [stepW_len, List.length_take, Nat.min_eq_left hm]
          have HSTL : Hid _ := hstl
          have HML1 : Hid _ := hml1
          clear hsw hstl hml1
          obtain ⟨p0, c0, rfl⟩ := hN0.len
          have g2 := cell_keep g1 hbr2
          have lg2 := cell_lt g2
          have hcq := hq.cap
          clear hq
          go_wp2
          go_loopw [6, 33] (fun a i wr => ∃ (j : Nat) (N : List (List St)), j ≤ L.length ∧ i = .int .i64 j ∧ Own (fun _ => True) (SlE TrE) wr w4.heap.size 24 a N ∧ N = stepW (W.take m) L ++ (L.take j).map (fun x => q ++ [x]) ∧ Below w4.heap.size w4 wr) (fun _ i _ => L.length - (Go.RowKit.intOf i).toNat)
          case atStart => exact ⟨0, N0, Nat.zero_le _, rfl, hN0, by rw [HN0.out]; simp, hbr2⟩
          case round =>
            clear hN0 hbr2 g2 lg2
            obtain ⟨j, N, hj, rfl, hN, hNE, hbr2⟩ := hrel
            have HNE : Hid _ := hNE
            clear hNE
            obtain ⟨pN, cN, rfl⟩ := hN.len
            by_cases hjl : j < L.length
            · have hNl : N.length ≤ 65536 := by
                have h1 := HSTL.out
                have h2 := HML1.out
                have h3 := congrArg List.length HNE.out
                have h4 := HML.out
                rw [List.length_append, List.length_map, List.length_take, Nat.min_eq_left hj, h1] at h3
                rw [Nat.succ_mul] at h2
                omega
              have hmt := map_take (f := fun x => q ++ [x]) (List.getElem?_eq_getElem hjl)
              obtain ⟨bs, os, r, rfl, -, hz, hat⟩ := (tr_at hL4).2 j hjl
              generalize L[j] = s at hmt hz hat
              have HMT : Hid _ := hmt
              clear hmt
              have hzr := hz.keep hbr2
              obtain ⟨a0, a1, a2, a3, a4, a5, a6, a7, a8, a9, aa, ab, ac, ad, ae, af⟩ := hat.keep hbr2
              have la := cell_lt a0
              have hs4 := hbr2.size
              have hjl' : (j : Int) < (L.length : Int) := by omega
              have F1 := trivial
              go_wp2_with (first
                | (clear F1; refine wpList_toldP (w := wr) (by kernel_rfl) (by rfl) (.tmp 11) (.tmp 36) (by rfl) hzr (by rfl) (by rfl) ?_; intro w5 kL B5; simp only [Act.put]; obtain ⟨y1, y2, y3⟩ := kL.more; obtain ⟨x0, x1, x2, x3, x4⟩ := kL.rows; obtain ⟨⟨x5, x6, x7, x8⟩, x9, xa, xb, xc⟩ := kL.regs; have lL := kL.lt; have F2 := trivial)
                | (at_builtin; clear F2; have B6 : Below wr.heap.size wr (w5.alloc (.cells (trC r s) 37)) := B5.alloc B5.size _; have hs5 := B5.size; have hq6 : SlA (fun b => b < w4.heap.size ∨ wr.heap.size ≤ b) TrE (w5.alloc (.cells (trC r s) 37)) (.slice pq q.length q.length) q := SlA.mono (fun b hb => .inl hb) ((hqc.keep hbr2).keep B6); have hu6 : SlA (fun b => b < w4.heap.size ∨ wr.heap.size ≤ b) TrE (w5.alloc (.cells (trC r s) 37)) (.slice (some ⟨w5.heap.size, 0, none⟩) 1 1) [s] := tr_single (t := 37) (.inr hs5) ((hzr.keep B6).mono fun b hb => .inl hb) Blk.new; refine wpList_appFull (R := TrE) (A := fun b => b < w4.heap.size ∨ wr.heap.size ≤ b) (xs := q) (ys := [s]) (by rfl) (.tmp 38) (.tmp 40) 24 37 it zt 192 (by rfl) Tryz.underlying24 K1.out K2.out K4.out K5.out K3.out pq (.slice (some ⟨w5.heap.size, 0, none⟩) 1 1) (by rfl) (by rfl) hq6 hu6 (by simp) (by simp only [List.length_cons, List.length_nil]; omega) (by decide) ?_; intro p7 c7 w7 hO7 hg7; have B7 : Below wr.heap.size wr w7 := B6.grown hg7 B6.size (fun k hk => by cases hk); rw [show (q ++ [s]).length = q.length + 1 by simp] at hO7 ⊢; have F3 := trivial)
                | (at_builtin; clear F3; have hs6 := B6.size; have hs7 := B7.size; have b8 := below_new w7 (.cells #[.slice p7 (q.length + 1) c7] 24); have B8 := Below.thru B7 b8 (Nat.le_refl _); have kN : SlA (fun b => b < w4.heap.size ∨ wr.heap.size ≤ b) (SlE TrE) (w7.alloc (.cells #[.slice p7 (q.length + 1) c7] 24)) (.slice (some ⟨w7.heap.size, 0, none⟩) 1 1) [q ++ [s]] := sl_one (.inr hs7) (by rw [Blk.cell Blk.new]; rfl) (SlA.mono (fun b hb => hb.elim (fun hb => .inr (Nat.le_trans hs6 hb)) id) (hO7.keep b8).sl) (Nat.le_refl _); refine wpList_app (R := SlE TrE) (A := fun _ => True) (B := fun b => b < w4.heap.size ∨ wr.heap.size ≤ b) (xs := N) (ys := [q ++ [s]]) (by rfl) (.tmp 37) (.tmp 42) 96 24 ir (.slice none 0 0) 24 (by rfl) Tryz.underlying96 J1.out J2.out J3.out J4.out (by rfl) w4.heap.size (.slice pN N.length cN) (.slice (some ⟨w7.heap.size, 0, none⟩) 1 1) (by rfl) (by rfl) (hN.keep B8) kN (fun _ _ _ h => (SlE TrE).mono (fun x hx => ⟨trivial, fun e => by have := hN.lt x e.symm; omega⟩) h) (by simp only [List.length_cons, List.length_nil]; omega) (by decide) (by have := B8.size; omega) ?_; intro p9 c9 w9 hO9 hg9 _; have B9 : Below w4.heap.size w4 w9 := (Below.thru hbr2 B8 (Nat.le_refl _)).grown hg9 (by have := B8.size; omega) (fun k hk => (hN.lt k hk).1); rw [show (N ++ [q ++ [s]]).length = N.length + 1 by simp] at hO9 ⊢; have F4 := trivial))
              go_roundw
              case rel => exact ⟨j + 1, N ++ [q ++ [s]], by omega, by go_num, hO9, by rw [HMT.out, ← List.append_assoc, ← HNE.out], B9⟩
              case measure => simp [Go.RowKit.intOf]; omega
            · have hjl' : ¬ (j : Int) < (L.length : Int) := by omega
              have e : L.take j = L := List.take_of_length_le (by omega)
              have HE : Hid _ := e
              clear e
              go_wp2
              go_roundw
              case rel => exact ⟨m + 1, N, by omega, by go_num, hN, by rw [HSW.out, HNE.out, HE.out], hbr2⟩
              case measure => simp [Go.RowKit.intOf]; omega
        · have hml' : ¬ (m : Int) < (W.length : Int) := by omega
          have e : W.take m = W := List.take_of_length_le (by omega)
          have he0 : N0 = wayL (LL.take (k + 1)) := by have h := HN0.out; rw [e] at h; rw [h, HNX.out]
          have HE : Hid _ := he0
          clear he0
          have hqs : ∀ q ∈ N0, q.length ≤ k + 1 := fun q hq => by
            have h := HN0.out
            rw [h] at hq
            unfold stepW at hq
            obtain ⟨u, hu, hq⟩ := List.mem_flatMap.1 hq
            obtain ⟨x, _, rfl⟩ := List.mem_map.1 hq
            have := HQ.out u (List.mem_of_mem_take hu)
            simp
            omega
          have HQS : Hid _ := hqs
          clear hqs e
          go_wp2
          go_roundw
          case rel => exact ⟨k + 1, N0, by omega, by go_num, hN0.sl.any, HE.out, HQS.out, Below.thru hbr hbr2 (Nat.le_refl _)⟩
          case measure => simp [Go.RowKit.intOf]; omega
    · have hlt' : ¬ (k : Int) < (LL.length : Int) := by omega
      have e : LL.take k = LL := List.take_of_length_le (by omega)
      have HE : Hid (W = wayL LL) := by have h := HWE.out; rw [e] at h; exact h
      clear e
      go_wp2
      go_ret
      exact ⟨_, rfl, by rw [← HE.out]; exact hW, hbr⟩
end Go.Proofs.YtcalinfdckklfaaGreatDoor

namespace Go.Proofs.YtcalinfdckklfaaGreatDoor
open Go.RowKit
attribute [local go_sem] Ext.cell Ext.frozen

theorem info_exP : ∃ i z, Tryz.prog.info? 42 = some i ∧ i.zero = some z ∧ z.cells.size = 7 ∧ i.size = 7 ∧ i.bytes = 168 := by
  have h : (Tryz.prog.info? 42).map (fun i => (i.zero.map (·.cells.size), i.size, i.bytes)) = some (some 7, 7, 168) := by kernel_rfl
  cases hi : Tryz.prog.info? 42 with
  | none => rw [hi] at h; cases h
  | some i =>
    rw [hi] at h
    simp only [Option.map_some, Option.some.injEq, Prod.mk.injEq] at h
    obtain ⟨h1, h2, h3⟩ := h
    cases hz : i.zero with
    | none => rw [hz] at h1; cases h1
    | some z =>
      rw [hz] at h1
      simp only [Option.map_some, Option.some.injEq] at h1
      exact ⟨i, z, rfl, hz, h1, h2, h3⟩
/-- A way that may be joined. -/
structure MayJoin (q : List St) : Prop where
  rng : ∀ t ∈ q.map St.tr, Rng t
  few : ∀ t ∈ q.map St.tr, t.evs.length ≤ 1000000
  len : q.length ≤ 1000
  ok : (joinZ (q.map St.tr)).2 = 0
theorem may_join {ts : List (List Ins)} {locs : Int} {v : List Int} {q : List St} (h : WayOk ts locs v q) (h3 : ts.length ≤ 3) : MayJoin q := by
  refine ⟨fun t ht => ?_, fun t ht => ?_, by rw [h.len]; omega, by rw [way_join h h3]⟩
  · obtain ⟨th, a, b, rfl⟩ := way_runs h t ht
    exact run_sets th locs a b
  · have := tot_in ht
    have := way_tot h h3
    omega

set_option maxRecDepth 20000 in
set_option maxHeartbeats 16000000 in
theorem together_any (p : Option Addr) (c : Nat) (LL : List (List St)) (w : World) (hl : Sl (SlE TrE) w (.slice p LL.length c) LL) (hn : LL.length ≤ 1000) (h6 : ∀ k, prodL (LL.take k) ≤ 65536) (hL : ∀ L ∈ LL, L.length ≤ 65536) (hJ : prodL LL ≤ 20000 → ∀ q ∈ wayL LL, MayJoin q) :
    Calls Tryz.prog 46 #[.slice p LL.length c] w fun e w' => ∃ u, e = .returned (.tuple #[u, .int .i64 (if 20000 < prodL LL then 3 else 0)]) ∧ SlA (fun k => w.heap.size ≤ k) ExE w' u (if 20000 < prodL LL then [] else (wayL LL).map fun q => (joinZ (q.map St.tr)).1) ∧ Below w.heap.size w w' := by
  have hC := count_any p c LL w hl hn h6 hL
  have HC : Hid (Calls _ _ _ _ _) := hC
  have hW := fun W (hB : Below w.heap.size w W) => ways_any p c LL W (hl.keep hB) hn h6
  have HW : Hid _ := hW
  have hp6 : prodL LL ≤ 65536 := by have := h6 LL.length; rwa [List.take_length] at this
  have hwl := wayL_len LL
  clear hC hW h6 hL
  by_cases hbig : 20000 < prodL LL
  · rw [if_pos hbig, if_pos hbig]
    clear hJ
    generalize prodL LL = M at *
    have hbig' : (20000 : Int) < (M : Int) := by omega
    go_enter Tryz.func46, Tryz.ntmps46
    go_wp2_with (go_at_call 68; refine HC.out.mono ?_; rintro e w2 ⟨rfl, hb2⟩)
    go_ret2
    exact ⟨.slice none 0 0, rfl, SlA.nil, hb2⟩
  · rw [if_neg hbig, if_neg hbig]
    have hJJ := hJ (by omega)
    obtain ⟨ix, zx, a1, a2, a3, a4, a5⟩ := info_exP
    have X1 : Hid _ := a1
    have X2 : Hid _ := a2
    have X3 : Hid _ := a3
    have X4 : Hid _ := a4
    have X5 : Hid _ := a5
    clear a1 a2 a3 a4 a5 hJ
    generalize prodL LL = M at *
    generalize wayL LL = W at *
    have HJ : Hid _ := hJJ
    clear hJJ
    have hbig' : ¬ (20000 : Int) < (M : Int) := by omega
    have hWl : W.length ≤ 20000 := by omega
    clear hwl
    go_enter Tryz.func46, Tryz.ntmps46
    have F1 := trivial
    go_wp2_with (first
      | (go_at_call 68; clear F1; refine HC.out.mono ?_; rintro e w2 ⟨rfl, hb2⟩; have F2 := trivial)
      | (go_at_call 69; clear F2; refine (HW.out _ hb2).mono ?_; rintro e w3 ⟨v3, rfl, hV3, hb3⟩; obtain ⟨p3, c3, rfl⟩ := hV3.len; have B3 := Below.thru hb2 hb3 (Nat.le_refl _)))
    clear HC HW hb2 hb3
    go_loopw [4, 15] (fun a i wr => ∃ (m : Nat) (O : List Ex), m ≤ W.length ∧ i = .int .i64 m ∧ Own (fun k => w.heap.size ≤ k) ExE wr w3.heap.size 42 a O ∧ O = (W.take m).map (fun u => (joinZ (u.map St.tr)).1) ∧ Below w3.heap.size w3 wr) (fun _ i _ => W.length - (Go.RowKit.intOf i).toNat)
    case atStart => exact ⟨0, [], Nat.zero_le _, rfl, Own.nil, rfl, Below.refl _ _⟩
    case round =>
      obtain ⟨m, O, hm, rfl, hO, hOE, hb6⟩ := hrel
      have HOE : Hid _ := hOE
      clear hOE
      obtain ⟨pO, cO, rfl⟩ := hO.len
      by_cases hml : m < W.length
      · have hol : O.length ≤ 20000 := by rw [HOE.out, List.length_map, List.length_take]; omega
        have hqm := HJ.out _ (List.getElem_mem hml)
        have hmt := map_take (f := fun u : List St => (joinZ (u.map St.tr)).1) (List.getElem?_eq_getElem hml)
        obtain ⟨bq, oq, rfl, vq, g0, hq⟩ := (sl_at hV3).2 m hml
        generalize W[m] = q at hqm hmt hq
        obtain ⟨pq, cq, rfl⟩ := hq.len
        have hql : (q.map St.tr).length = q.length := by simp
        have hC := fun Z (hB : Below w3.heap.size w3 Z) => Join_any pq cq (q.map St.tr) Z (by rw [hql]; exact sl_tg (hq.any.keep hB)) hqm.rng hqm.few (by rw [hql]; have := hqm.len; omega)
        rw [hqm.ok, hql] at hC
        generalize (joinZ (q.map St.tr)).1 = x at *
        have HMT : Hid _ := hmt
        have HC : Hid _ := hC
        clear hmt hC hqm hql
        have g1 := cell_keep g0 hb6
        have lg := cell_lt g1
        have hml' : (m : Int) < (W.length : Int) := by omega
        have hs3 := B3.size
        have F5 := trivial
        go_wp2_with (first
          | (go_at_call 7; clear F5; refine (HC.out _ hb6).mono ?_; rintro e w7 ⟨r, rfl, hX, hb7⟩; have F6 := trivial)
          | (clear F6; refine wpList_storeB (by rfl) 42 (.tmp 7) (.tmp 22) (by rfl) w7.heap.size (exC r) _ 42 (by rfl) (by rfl) Blk.new (by kernel_rfl) (by rfl) hX.one ?_; intro w8 k8 o8 z8; simp only [Act.put]; have b8 : Below w7.heap.size w7 w8 := (below_new _ _).trans (o8.below (by simp) (fun k hk => by omega)); have y0 := k8.cell 0; have y1 := k8.cell 1; have y2 := k8.cell 2; have y3 := k8.cell 3; have y4 := k8.cell 4; have y5 := k8.cell 5; have y6 := k8.cell 6; have l8 := k8.lt; simp only [exC, List.getElem?_toArray, List.getElem?_cons_zero, List.getElem?_cons_succ] at y0 y1 y2 y3 y4 y5 y6; clear z8 o8; have F7 := trivial)
          | (at_builtin; clear F7; have hs6 := hb6.size; have b9 : Below wr.heap.size wr (w8.alloc (.cells (exC r) 42)) := (Below.thru hb7 b8 (Nat.le_refl _)).alloc (by have := hb7.size; have := b8.size; omega) _; refine wpList_appO (R := ExE) (A := fun k => w.heap.size ≤ k) (xs := O) (ys := [x]) (by rfl) (.tmp 27) (.tmp 29) 65 42 ix zx 168 (by rfl) Tryz.underlying65 X1.out X2.out X4.out X5.out X3.out w3.heap.size (.slice pO O.length cO) (.slice (some ⟨w8.heap.size, 0, none⟩) 1 1) (by rfl) (by rfl) (hO.keep b9) (slO_single (cs := (exC r).toList) ⟨r, rfl, ((hX.keep b8).keep (below_new _ _)).mono fun k hk => ⟨by omega, fun e => by have := (hO.lt k e.symm).2; omega⟩⟩ (fun j u hu => by rw [Blk.cell Blk.new]; simpa [exC] using hu) (Nat.le_refl _)) (by simp only [List.length_cons, List.length_nil]; omega) (by decide) (Nat.le_trans hb6.size b9.size) ?_; intro p9 c9 w9 hO9 hg9 _; have B9 : Below w3.heap.size w3 w9 := (Below.thru hb6 b9 (Nat.le_refl _)).grown hg9 (Nat.le_trans hb6.size b9.size) (fun k hk => (hO.lt k hk).1); rw [show (O ++ [x]).length = O.length + 1 by simp] at hO9 ⊢; have F8 := trivial))
        go_roundw
        case rel => exact ⟨m + 1, O ++ [x], by omega, by go_num, hO9, by rw [HMT.out, ← HOE.out], B9⟩
        case measure => simp [Go.RowKit.intOf]; omega
      · have e : W.take m = W := List.take_of_length_le (by omega)
        have HE : Hid _ := e
        clear e
        have hml' : ¬ (m : Int) < (W.length : Int) := by omega
        have hs3 := B3.size
        go_wp2
        go_ret2
        have hoe := HOE.out
        rw [HE.out] at hoe
        refine ⟨.slice pO O.length cO, rfl, ?_, Below.thru B3 hb6 (Nat.le_refl _)⟩
        rw [← hoe]
        exact hO.sl.mono fun b hb => hb.elim (fun hb => by omega) id

/-- What is told, by how many ways there are. -/
theorem allZ_of {xs : List Int} {ts : List (List Ins)} (h0 : (ofZ xs ts).2 = 0) :
    (20000 < prodL (ts.map fun th => tracesT th xs.length (ofZ xs ts).1) ∧ allZ xs ts = ([], 3)) ∨
    (prodL (ts.map fun th => tracesT th xs.length (ofZ xs ts).1) ≤ 20000 ∧ allZ xs ts = ((wayL (ts.map fun th => tracesT th xs.length (ofZ xs ts).1)).map fun q => (joinZ (q.map St.tr)).1, 0) ∧ ∀ q ∈ wayL (ts.map fun th => tracesT th xs.length (ofZ xs ts).1), WayOk ts xs.length (ofZ xs ts).1 q) := by
  obtain ⟨hv, hne⟩ := of_vals h0
  by_cases hb : 20000 < prodL (ts.map fun th => tracesT th xs.length (ofZ xs ts).1)
  · refine .inl ⟨hb, ?_⟩
    cases hw : waysZ xs.length (ofZ xs ts).1 ts [[]] with
    | none => exact allZ_none h0 hw
    | some W =>
      have h1 := waysZ_len hw
      have h2 := waysZ_le hw (by simp)
      rw [prod_many] at hb
      simp only [List.length_cons, List.length_nil] at h1
      omega
  · refine .inr ⟨by omega, ?_⟩
    obtain ⟨W, hW⟩ := waysZ_some (locs := xs.length) (v := (ofZ xs ts).1) (ts := ts) (ways := [[]]) hne (by rw [prod_many] at hb; simp only [List.length_cons, List.length_nil]; omega)
    have e : W = wayL (ts.map fun th => tracesT th xs.length (ofZ xs ts).1) := waysZ_is hW
    rw [← e]
    exact ⟨allZ_some h0 hW, fun q hq => waysZ_ok hW hq⟩

set_option maxRecDepth 20000 in
set_option maxHeartbeats 16000000 in
theorem All_any (pi pt : Option Addr) (ci ct : Nat) (xs : List Int) (ts : List (List Ins)) (w : World) (T : FEnv w) (hi : Sl IntE w (.slice pi xs.length ci) xs) (ht : Sl ThrE w (.slice pt ts.length ct) ts) (hM : sizeTs ts ≤ 1000000) (hz : ∀ x ∈ xs, InZ x) :
    Calls Tryz.prog 18 #[.agg #[.slice pi xs.length ci, .slice pt ts.length ct]] w fun e w' => ∃ u, e = .returned (.tuple #[u, .int .i64 (allZ xs ts).2]) ∧ SlA (fun k => w.heap.size ≤ k) ExE w' u (allZ xs ts).1 ∧ Below w.heap.size w w' := by
  have hb1 := below_new w (.cells #[.slice pi xs.length ci, .slice pt ts.length ct] 63)
  have k1 : Blk (w.alloc (.cells #[.slice pi xs.length ci, .slice pt ts.length ct] 63)) w.heap.size #[.slice pi xs.length ci, .slice pt ts.length ct] 63 := Blk.new
  have hO := fun W (hB : Below w.heap.size w W) => Of_any pi pt ci ct xs ts W (T.below hB) (hi.keep hB) (ht.keep hB) hM hz
  by_cases h0 : (ofZ xs ts).2 = 0
  · obtain ⟨f1, f2, f3, f4, f5, f6, f7, f8⟩ := check_facts (of_check h0).1
    have hv8 : (ofZ xs ts).1.length ≤ 8 := by
      obtain ⟨-, hcl⟩ := of_check h0
      exact closeN_len (by have h1 : (putsN [] xs).length ≤ _ := putsN_len; simp only [List.length_nil] at h1; omega) hcl
    have hof := allZ_of h0
    rw [show ofZ xs ts = ((ofZ xs ts).1, 0) by rw [← h0]] at hO
    generalize hvv : (ofZ xs ts).1 = v at *
    have h6 := fun k => prod_take (locs := xs.length) hv8 f5 k
    have hLL : ∀ L ∈ ts.map fun th => tracesT th xs.length v, L.length ≤ 65536 := fun L hL => by
      obtain ⟨th, _, rfl⟩ := List.mem_map.1 hL
      exact tracesT_len4 hv8
    have hmay : prodL (ts.map fun th => tracesT th xs.length v) ≤ 20000 → ∀ q ∈ wayL (ts.map fun th => tracesT th xs.length v), MayJoin q := fun hp q hq => by
      rcases hof with ⟨h, _⟩ | ⟨_, _, h⟩
      · omega
      · exact may_join (h q hq) f4
    have hTg := fun p c W (hB : Sl (SlE TrE) W (.slice p (ts.map fun th => tracesT th xs.length v).length c) (ts.map fun th => tracesT th xs.length v)) => together_any p c _ W hB (by rw [List.length_map]; omega) h6 hLL hmay
    have hE : allZ xs ts = (if 20000 < prodL (ts.map fun th => tracesT th xs.length v) then [] else (wayL (ts.map fun th => tracesT th xs.length v)).map fun q => (joinZ (q.map St.tr)).1, if 20000 < prodL (ts.map fun th => tracesT th xs.length v) then 3 else 0) := by
      rcases hof with ⟨h, e⟩ | ⟨h, e, _⟩
      · rw [e, if_pos h, if_pos h]
      · rw [e, if_neg (by omega), if_neg (by omega)]
    rw [hE]
    clear hE hmay hLL h6 hof hvv h0
    generalize (if 20000 < prodL (ts.map fun th => tracesT th xs.length v) then [] else (wayL (ts.map fun th => tracesT th xs.length v)).map fun q => (joinZ (q.map St.tr)).1) = RL at *
    generalize (if 20000 < prodL (ts.map fun th => tracesT th xs.length v) then (3 : Int) else 0) = RE at *
    have HO : Hid _ := hO
    have HTG : Hid _ := hTg
    have H7 : Hid _ := f7
    clear hO hTg f7 f1 f5 f6 f8
    obtain ⟨ir, j1, j2, j3, j4⟩ := info_ftrs
    have J1 : Hid _ := j1
    have J2 : Hid _ := j2
    have J3 : Hid _ := j3
    have J4 : Hid _ := j4
    clear j1 j2 j3 j4
    have y0 := k1.cell 0
    have y1 := k1.cell 1
    have ly := k1.lt
    simp only [List.getElem?_toArray, List.getElem?_cons_zero, List.getElem?_cons_succ] at y0 y1
    have F1 := trivial
    go_enter Tryz.func18, Tryz.ntmps18
    go_wp2_with (first
      | (go_at_call 44; clear F1; refine (HO.out _ hb1).mono ?_; rintro e w2 ⟨u2, rfl, hU2, hb2⟩; obtain ⟨pv, cv, rfl⟩ := hU2.len; have B2 := Below.thru hb1 hb2 (Nat.le_refl _); have k2 := k1.keep hb2; replace y0 := cell_keep y0 hb2; replace y1 := cell_keep y1 hb2; replace ly := cell_lt y0; have F2 := trivial))
    clear y0 y1 ly hb2 k1 hb1
    go_loopw [6, 20] (fun a i wr => ∃ k : Nat, k ≤ ts.length ∧ i = .int .i64 k ∧ Own (fun _ => True) (SlE TrE) wr w2.heap.size 24 a ((ts.take k).map fun th => tracesT th xs.length v) ∧ Below w2.heap.size w2 wr) (fun _ i _ => ts.length - (Go.RowKit.intOf i).toNat)
    case atStart => exact ⟨0, Nat.zero_le _, rfl, Own.nil, Below.refl _ _⟩
    case round =>
      obtain ⟨k, hk, rfl, hN, hbr⟩ := hrel
      have Br := Below.thru B2 hbr (Nat.le_refl _)
      have y0 := (k2.keep hbr).cell 0
      have y1 := (k2.keep hbr).cell 1
      have ly := (k2.keep hbr).lt
      simp only [List.getElem?_toArray, List.getElem?_cons_zero, List.getElem?_cons_succ] at y0 y1
      by_cases hlt : k < ts.length
      · obtain ⟨tb, to, rfl, t0, ht0, hT0⟩ := (thr_at (ht.keep Br)).2 k hlt
        have h8t := H7.out _ (List.getElem_mem hlt)
        have hmt := map_take (f := fun th => tracesT th xs.length v) (List.getElem?_eq_getElem hlt)
        have hel : ((ts.take k).map fun th => tracesT th xs.length v).length = k := by rw [List.length_map, List.length_take, Nat.min_eq_left hk]
        generalize ts[k] = th at ht0 hT0 h8t hmt
        generalize ((ts.take k).map fun th => tracesT th xs.length v) = N at *
        obtain ⟨pN, cN, rfl⟩ := hN.len
        obtain ⟨pth, cth, rfl⟩ := hT0.len
        have lt0 := cell_lt ht0
        have hlt' : (k : Int) < (ts.length : Int) := by omega
        have hTr := fun Z (hB : Below wr.heap.size wr Z) => Traces_new pth pv cth cv th xs.length v Z ((T.below Br).below hB) hv8 (by omega) (hT0.any.keep hB) ((hU2.keep hbr).keep hB)
        generalize tracesT th xs.length v = L at *
        have HTR : Hid _ := hTr
        have HMT : Hid _ := hmt
        have HEL : Hid _ := hel
        have hN6 : N.length ≤ 1000 := by omega
        have hs := Br.size
        clear hTr hmt hel
        have F3 := trivial
        go_wp2_with (first
          | (go_at_call 45; clear F3; refine (HTR.out _ (Below.refl _ _)).mono ?_; rintro e w5 ⟨v5, rfl, hV5, hb5⟩; obtain ⟨p5, c5, rfl⟩ := hV5.len; have F4 := trivial)
          | (at_builtin; clear F4; have b6 := below_new w5 (.cells #[.slice p5 L.length c5] 24); have B6 := Below.thru hb5 b6 (Nat.le_refl _); have hs5 := hb5.size; have kN : SlA (fun b => wr.heap.size ≤ b) (SlE TrE) (w5.alloc (.cells #[.slice p5 L.length c5] 24)) (.slice (some ⟨w5.heap.size, 0, none⟩) 1 1) [L] := sl_one hs5 (by rw [Blk.cell Blk.new]; rfl) (hV5.keep b6) (Nat.le_refl _); refine wpList_app (R := SlE TrE) (A := fun _ => True) (B := fun b => wr.heap.size ≤ b) (xs := N) (ys := [L]) (by rfl) (.tmp 24) (.tmp 31) 96 24 ir (.slice none 0 0) 24 (by rfl) Tryz.underlying96 J1.out J2.out J3.out J4.out (by rfl) w2.heap.size (.slice pN N.length cN) (.slice (some ⟨w5.heap.size, 0, none⟩) 1 1) (by rfl) (by rfl) (hN.keep B6) kN (fun _ _ _ h => (SlE TrE).mono (fun x hx => ⟨trivial, fun e => by have := hN.lt x e.symm; omega⟩) h) (by simp only [List.length_cons, List.length_nil]; omega) (by decide) (by have := B6.size; have := hbr.size; omega) ?_; intro p9 c9 w9 hO9 hg9 hv9; have hs6 := B6.size; have hs2 := hbr.size; have B9 : Below w2.heap.size w2 w9 := (Below.thru hbr B6 (Nat.le_refl _)).grown hg9 (by omega) (fun q hq => (hN.lt q hq).1); have F5 := trivial))
        go_roundw
        case rel => exact ⟨k + 1, by omega, by go_num, by rw [HMT.out]; rw [show (N ++ [L]).length = N.length + 1 by simp] at hO9; exact hO9, B9⟩
        case measure => simp [Go.RowKit.intOf]; omega
      · have hlt' : ¬ (k : Int) < (ts.length : Int) := by omega
        have e : ts.take k = ts := List.take_of_length_le (by omega)
        rw [e] at hN
        obtain ⟨pN, cN, rfl⟩ := hN.len
        have hTT := HTG.out pN cN wr hN.sl.any
        have HTT : Hid (Calls _ _ _ _ _) := hTT
        clear e hTT HTG
        generalize (ts.map fun th => tracesT th xs.length v) = LL at *
        go_wp2_with (go_at_call 46; refine HTT.out.mono ?_; rintro e w6 ⟨u6, rfl, hU6, hb6⟩)
        go_ret2
        exact ⟨u6, rfl, hU6.mono (fun b hb => by have := Br.size; omega), Below.thru Br hb6 (Nat.le_refl _)⟩
  · have hz0 := allZ_bad h0
    have hzb : ((ofZ xs ts).2 != 0) = true := by simp [h0]
    generalize ofZ xs ts = z at *
    have HZ : Hid _ := hz0
    have HO : Hid _ := hO
    clear hz0 hO h0
    go_enter Tryz.func18, Tryz.ntmps18
    go_wp2_with (go_at_call 44; refine (HO.out _ hb1).mono ?_; rintro e w2 ⟨u, rfl, hU, hb2⟩; obtain ⟨pu, cu, rfl⟩ := hU.len)
    go_ret2
    exact ⟨.slice none 0 0, by rw [HZ.out]; rfl, by rw [HZ.out]; exact SlA.nil, Below.thru hb1 hb2 (Nat.le_refl _)⟩
end Go.Proofs.YtcalinfdckklfaaGreatDoor

namespace Go.Proofs.YtcalinfdckklfaaGreatDoor
open Go.RowKit
attribute [local go_sem] Ext.cell Ext.frozen

def demo10 : List Ins := [⟨6, 0, -1, 0, 0, 0⟩]
theorem demo10_is : ((allZ [0] [demo10, demo10]).1.map fun x => (x.evs.length, (pairsL x.po).length), (allZ [0] [demo10, demo10]).2) = ([(2, 0)], 0) := by decide +kernel
theorem demo10_one : ∃ x, allZ [0] [demo10, demo10] = ([x], 0) ∧ x.evs.length = 2 ∧ (pairsL x.po).length = 0 := by
  have h := demo10_is
  generalize allZ [0] [demo10, demo10] = z at h
  obtain ⟨l, e⟩ := z
  simp only [Prod.mk.injEq] at h
  match l, h with
  | [], h => simp at h
  | [x], h =>
    simp only [List.map_cons, List.map_nil, List.cons.injEq, Prod.mk.injEq, and_true] at h
    exact ⟨x, by rw [h.2], h.1.1, h.1.2⟩
  | x :: y :: l, h => simp at h

theorem sl_demo10 {w : World} {b : Nat} {t : TypeId} (h : Blk w b #[.int .i64 6, .int .i64 0, .int .i64 (-1), .int .i64 0, .int .i64 0, .int .i64 0] t) : Sl InsE w (.slice (some ⟨b, 0, none⟩) 1 1) demo10 := by
  refine ⟨_, 1, rfl, ⟨(fun e => by cases e), by decide⟩, fun _ => ⟨b, 0, rfl, trivial, fun i hi => ?_⟩⟩
  have hi' : i < 1 := hi
  match i, hi' with
  | 0, _ =>
    refine ⟨_, rfl, fun j u hu => ?_⟩
    rw [Blk.cell h]
    match j, hu with
    | 0, hu | 1, hu | 2, hu | 3, hu | 4, hu | 5, hu => exact hu
    | j + 6, hu => simp [Ins.cells] at hu
theorem sl_one0 {w : World} {b : Nat} {t : TypeId} {x : Int} (h : Blk w b #[.int .i64 x] t) : Sl IntE w (.slice (some ⟨b, 0, none⟩) 1 1) [x] := by
  refine ⟨_, 1, rfl, ⟨(fun e => by cases e), Nat.le_refl _⟩, fun _ => ⟨b, 0, rfl, trivial, fun i hi => ?_⟩⟩
  have hi' : i < 1 := hi
  match i, hi' with
  | 0, _ =>
    refine ⟨_, rfl, fun j u hu => ?_⟩
    rw [Blk.cell h]
    match j, hu with
    | 0, hu => exact hu
    | j + 1, hu => simp at hu
theorem sl_two {w : World} {b : Nat} {v : Value} {l : List Ins} {t : TypeId} (h : Blk w b #[v, v] t) (hv : Sl InsE w v l) : Sl ThrE w (.slice (some ⟨b, 0, none⟩) 2 2) [l, l] := by
  refine ⟨_, 2, rfl, ⟨(fun e => by cases e), Nat.le_refl _⟩, fun _ => ⟨b, 0, rfl, trivial, fun i hi => ?_⟩⟩
  have hi' : i < 2 := hi
  match i, hi' with
  | 0, _ | 1, _ =>
    refine ⟨[v], ⟨v, rfl, hv⟩, fun j u hu => ?_⟩
    rw [Blk.cell h]
    match j, hu with
    | 0, hu => exact hu
    | j + 1, hu => simp at hu

set_option maxRecDepth 20000 in
set_option maxHeartbeats 8000000 in
theorem shown10_any (w : World) (T : FEnv w) : Calls Tryz.prog 5 #[] w fun e w' => e = .returned (.bool true) ∧ Below w.heap.size w w' := by
  obtain ⟨x, hx, hx1, hx2⟩ := demo10_one
  have hA := fun W pi pt ci ct (T : FEnv W) hi ht => All_any pi pt ci ct [0] [demo10, demo10] W T hi ht (by decide) (fun x hx => by rw [List.mem_singleton.1 hx]; exact inZ0)
  rw [hx] at hA
  have HA : Hid _ := hA
  have HX1 : Hid _ := hx1
  have HX2 : Hid _ := hx2
  clear hA hx hx1 hx2
  obtain ⟨w1, hw1⟩ : ∃ w1, w1 = w.alloc (.cells #[.int .i64 6, .int .i64 0, .int .i64 (-1), .int .i64 0, .int .i64 0, .int .i64 0] 72) := ⟨_, rfl⟩
  have k1 : Blk w1 w.heap.size #[.int .i64 6, .int .i64 0, .int .i64 (-1), .int .i64 0, .int .i64 0, .int .i64 0] 72 := by rw [hw1]; exact Blk.new
  have b1 : Below w.heap.size w w1 := by rw [hw1]; exact below_new _ _
  have s1 : w1.heap.size = w.heap.size + 1 := by rw [hw1]; simp
  obtain ⟨w2, hw2⟩ : ∃ w2, w2 = w1.alloc (.cells #[.int .i64 0] 2) := ⟨_, rfl⟩
  have k2 : Blk w2 (w.heap.size + 1) #[.int .i64 0] 2 := by rw [hw2]; exact Blk.newAt s1
  have b2 : Below w1.heap.size w1 w2 := by rw [hw2]; exact below_new _ _
  have s2 : w2.heap.size = w.heap.size + 1 + 1 := by rw [hw2]; simp [s1]
  obtain ⟨w3, hw3⟩ : ∃ w3, w3 = w2.alloc (.cells #[.slice (some ⟨w.heap.size, 0, none⟩) 1 1, .slice (some ⟨w.heap.size, 0, none⟩) 1 1] 73) := ⟨_, rfl⟩
  have k3 : Blk w3 (w.heap.size + 1 + 1) #[.slice (some ⟨w.heap.size, 0, none⟩) 1 1, .slice (some ⟨w.heap.size, 0, none⟩) 1 1] 73 := by rw [hw3]; exact Blk.newAt s2
  have b3 : Below w2.heap.size w2 w3 := by rw [hw3]; exact below_new _ _
  have B3 : Below w.heap.size w w3 := Below.thru (Below.thru b1 b2 (Nat.le_refl _)) b3 (Nat.le_refl _)
  have hD3 : Sl InsE w3 (.slice (some ⟨w.heap.size, 0, none⟩) 1 1) demo10 := sl_demo10 ((k1.keep b2).keep b3)
  have hI3 : Sl IntE w3 (.slice (some ⟨w.heap.size + 1, 0, none⟩) 1 1) [0] := sl_one0 (k2.keep b3)
  have hT3 : Sl ThrE w3 (.slice (some ⟨w.heap.size + 1 + 1, 0, none⟩) 2 2) [demo10, demo10] := sl_two k3 hD3
  have F1 := trivial
  have HW1 : Hid _ := hw1
  have HW2 : Hid _ := hw2
  have HW3 : Hid _ := hw3
  clear hw1 hw2 hw3 k1 k2 k3 b1 b2 b3 s1 s2
  go_enter Tryz.func5, Tryz.ntmps5
  go_wp2_with (first
    | (go_at_call 18; clear F1; rw [← HW1.out, ← HW2.out, ← HW3.out]; refine (HA.out _ _ _ _ _ (T.below B3) hI3 hT3).mono ?_; rintro e w4 ⟨u, rfl, hU, hb4⟩; obtain ⟨pu, cu, rfl⟩ := hU.len; obtain ⟨xb, xo, r, rfl, -, hX, hat⟩ := (ex_at hU).2 0 (by simp); have a0 := hat.c0; have a1 := hat.c1; simp only [Nat.zero_mul, Nat.add_zero] at a0 a1; have hX1 := hX.e1; obtain ⟨p0, c0, h0⟩ := hX.e0.len; obtain ⟨p1, c1, h1⟩ := hX1.len; rw [h0] at a0; rw [h1] at a1 hX1; simp only [List.getElem_cons_zero] at a0 a1 hX1; rw [HX1.out] at a0; have la := cell_lt a0; have B4 := Below.thru B3 hb4 (Nat.le_refl _); have HPR : Hid (Calls _ _ _ _ _) := Pairs_l p1 c1 x.po w4 hX1.any; clear h0 h1 hX; have F2 := trivial)
    | (go_at_call 20; clear F2; refine HPR.out.mono ?_; rintro e w5 ⟨p5, c5, rfl, hS5, hb5⟩; rw [HX2.out]; have B5 := Below.thru B4 hb5 (Nat.le_refl _)))
  go_ret
  exact ⟨rfl, B5⟩
end Go.Proofs.YtcalinfdckklfaaGreatDoor
