/- Contracts of the document's Choices. Printed by tools/gen/src_ref_all.py. -/
import Derived.Test.YtgffeihfcmbobaaSrcRefMay
import Derived.Test.YtgffeihfcmbobaaSrcG
import Derived.Test.YtgffeihfcmbobaaCloneI
namespace Go.Proofs.Ytgffeihfcmbobaa
open Go.RowKit
attribute [local go_sem] Ext.cell Ext.frozen

theorem info_intsS : ∃ i, Try.prog.info? 24 = some i ∧ i.zero = some (.slice none 0 0) ∧ i.size = 1 ∧ i.bytes = 24 := by
  have h : (Try.prog.info? 24).map (fun i => (i.zero, i.size, i.bytes)) = some (some (.slice none 0 0), 1, 24) := by kernel_rfl
  cases hi : Try.prog.info? 24 with
  | none => rw [hi] at h; cases h
  | some i =>
    rw [hi] at h
    simp only [Option.map_some, Option.some.injEq, Prod.mk.injEq] at h
    exact ⟨i, rfl, h.1, h.2.1, h.2.2⟩
theorem map_takeS {α β : Type} {f : α → β} {l : List α} {k : Nat} {x : α} (h : l[k]? = some x) : (l.take (k + 1)).map f = (l.take k).map f ++ [f x] := by
  rw [List.take_add_one, h, Option.toList_some, List.map_append]
  rfl
theorem chs_next {l : List Ev} {init : List Int} {k : Nat} {x : Ev} (h : l[k]? = some x) : (choZ l init).take (k + 1) = (choZ l init).take k ++ [choE l init x] := by
  rw [List.take_add_one, choZ_at h]
  rfl

set_option maxRecDepth 20000 in
set_option maxHeartbeats 8000000 in
theorem refChoices_any (v : Value) (r : Nat → Value) (q pi : Option Addr) (c ci : Nat) (l : List Ev) (init : List Int) (w : World) (hv : v = .slice q l.length c) (hl : Sl EvE w (.slice q l.length c) l) (hi : Sl IntE w (.slice pi init.length ci) init) (hn : l.length ≤ 1000) :
    Calls Try.prog 29 #[exV v r, .slice pi init.length ci] w fun e w' => ∃ v, e = .returned v ∧ SlA (fun k => w.heap.size ≤ k) (SlE IntE) w' v (choZ l init) ∧ Below w.heap.size w w' := by
  subst hv
  obtain ⟨w1, hw1⟩ : ∃ w1, w.alloc (.cells #[.slice q l.length c, r 1, r 2, r 3, r 4, r 5, r 6] 33) = w1 := ⟨_, rfl⟩
  have k1 : Blk w1 w.heap.size #[.slice q l.length c, r 1, r 2, r 3, r 4, r 5, r 6] 33 := by rw [← hw1]; exact Blk.new
  have b1 : Below w.heap.size w w1 := by rw [← hw1]; exact below_new _ _
  have hz1 := b1.size
  obtain ⟨ir, j1, j2, j3, j4⟩ := info_intsS
  have J1 : Hid _ := j1
  have J2 : Hid _ := j2
  have J3 : Hid _ := j3
  have J4 : Hid _ := j4
  clear j1 j2 j3 j4
  unfold exV
  go_enter Try.func29, Try.ntmps29
  go_wp2
  go_loopw [5, 6] (fun a i wr => ∃ k : Nat, k ≤ l.length ∧ i = .int .i64 k ∧ Own (fun b => w1.heap.size ≤ b) (SlE IntE) wr w1.heap.size 24 a ((choZ l init).take k) ∧ Below w1.heap.size w1 wr) (fun _ i _ => l.length - (Go.RowKit.intOf i).toNat)
  case atStart => exact ⟨0, Nat.zero_le _, rfl, Own.nil, Below.refl _ _⟩
  case round =>
    obtain ⟨k, hk, rfl, hO, hbr⟩ := hrel
    have Br := Below.thru b1 hbr (Nat.le_refl _)
    obtain ⟨q0, q1, q2, q3, q4, q5, q6⟩ := ex_cells (k1.keep hbr)
    have lq := cell_lt q0
    by_cases hlt : k < l.length
    · have hlt' : (k : Int) < (l.length : Int) := by omega
      have hcx := chs_next (init := init) (List.getElem?_eq_getElem hlt)
      have hcl : ((choZ l init).take k).length ≤ 1000 := by rw [List.length_take, choZ_len]; omega
      have hmz := mayZ_at (init := init) (List.getElem?_eq_getElem hlt)
      obtain ⟨eb, eo, rfl, g0, g1, g2, g3, g4, g5, g6⟩ := (ev_at (hl.keep Br)).2 k hlt
      have hMay := refMay_any (.slice (some ⟨eb, eo, none⟩) l.length c) r (some ⟨eb, eo, none⟩) pi c ci l init (k : Int) wr rfl (hl.keep Br) (hi.keep Br) hn
      rw [hmz] at hMay
      generalize l[k] = x at *
      generalize (choZ l init).take k = V at *
      obtain ⟨pV, cV, rfl⟩ := hO.len
      have lg := cell_lt g0
      have hzr := hbr.size
      have hOo := fun b hb => (hO.lt b hb).2
      by_cases hx : x.kd = 1
      · have hx1 : (x.kd == 1) = true := by simp [hx]
        have hce : choE l init x = mayE l init x := by unfold choE; rw [if_pos hx1]
        rw [if_pos hx1] at hMay
        rw [hce] at hcx
        generalize mayE l init x = may at *
        unfold exV at hMay
        have HMAY : Hid (Calls _ _ _ _ _) := hMay
        have HCX : Hid _ := hcx
        clear hx hce hMay hcx hmz
        have F1 := trivial
        go_wp2_with (first
          | (go_at_call 14; clear F1; refine HMAY.out.mono ?_; rintro e w6 ⟨vm, rfl, hV, hb6⟩; obtain ⟨pm, cm, rfl⟩ := hV.len; have F2 := trivial)
          | (at_builtin; clear F2; have b7 := below_new w6 (.cells #[.slice pm may.length cm] 24); have kN : Blk (w6.alloc (.cells #[.slice pm may.length cm] 24)) w6.heap.size #[.slice pm may.length cm] 24 := Blk.new; have B7 := Below.thru hb6 b7 (Nat.le_refl _); have hO7 := hO.keep B7; have hz6 := hb6.size; have hz7 := B7.size; refine wpList_app (R := SlE IntE) (A := fun b => w1.heap.size ≤ b) (B := fun b => wr.heap.size ≤ b) (xs := V) (ys := [may]) (by rfl) (.tmp 21) (.tmp 26) 39 24 ir (.slice none 0 0) 24 (by rfl) Try.underlying39 J1.out J2.out J3.out J4.out (by rfl) w1.heap.size (.slice pV V.length cV) (.slice (some ⟨w6.heap.size, 0, none⟩) 1 1) (by rfl) (by rfl) hO7 (sl_one hz6 (by rw [kN.cell 0]; rfl) (hV.keep b7) (Nat.le_refl _)) (fun _ _ _ h => (SlE IntE).mono (fun z hz => ⟨Nat.le_trans hzr hz, fun e => absurd (hOo z e.symm) (Nat.not_lt.2 hz)⟩) h) (by simp only [List.length_cons, List.length_nil]; omega) (by decide) (Nat.le_trans hzr hz7) ?_; intro p9 c9 w9 hO9 hg9 _; have B9 : Below w1.heap.size w1 w9 := (Below.thru hbr B7 (Nat.le_refl _)).grown hg9 (Nat.le_trans hzr hz7) (fun b hb => (hO7.lt b hb).1); have F3 := trivial))
        go_roundw
        case rel => exact ⟨k + 1, by omega, by go_num, by rw [HCX.out]; rw [show (V ++ [may]).length = V.length + 1 by simp] at hO9; exact hO9, B9⟩
        case measure => simp [Go.RowKit.intOf]; omega
      · have hx1 : (x.kd == 1) = false := by simp [hx]
        have hce : choE l init x = [-2] := by unfold choE; rw [if_neg (by simp [hx])]
        rw [hce] at hcx
        have HCX : Hid _ := hcx
        clear hx hce hMay hcx hmz
        go_wp2_with (at_builtin; have b6 := below_new wr (.cells #[.int .i64 (-2)] 3); have k6 : Blk (wr.alloc (.cells #[.int .i64 (-2)] 3)) wr.heap.size #[.int .i64 (-2)] 3 := Blk.new; have s6 : (wr.alloc (.cells #[.int .i64 (-2)] 3)).heap.size = wr.heap.size + 1 := (by simp); have l6 : SlA (fun b => wr.heap.size ≤ b) IntE (wr.alloc (.cells #[.int .i64 (-2)] 3)) (.slice (some ⟨wr.heap.size, 0, none⟩) 1 1) [-2] := sl_single (Nat.le_refl _) rfl (fun j u hj => (k6.cell j).trans (by simpa using hj)) (Nat.le_refl _); generalize wr.alloc (.cells #[.int .i64 (-2)] 3) = w6 at *; have b7 := below_new w6 (.cells #[.slice (some ⟨wr.heap.size, 0, none⟩) 1 1] 24); have kN : Blk (w6.alloc (.cells #[.slice (some ⟨wr.heap.size, 0, none⟩) 1 1] 24)) (wr.heap.size + 1) #[.slice (some ⟨wr.heap.size, 0, none⟩) 1 1] 24 := Blk.newAt s6; have B7 := Below.thru b6 b7 (Nat.le_refl _); have hO7 := hO.keep B7; have hz6 := b6.size; have hz7 := B7.size; refine wpList_app (R := SlE IntE) (A := fun b => w1.heap.size ≤ b) (B := fun b => wr.heap.size ≤ b) (xs := V) (ys := [[-2]]) (by rfl) (.tmp 28) (.tmp 30) 39 24 ir (.slice none 0 0) 24 (by rfl) Try.underlying39 J1.out J2.out J3.out J4.out (by rfl) w1.heap.size (.slice pV V.length cV) (.slice (some ⟨wr.heap.size + 1, 0, none⟩) 1 1) (by rfl) (by rfl) hO7 (sl_one (Nat.le_succ _) (by rw [kN.cell 0]; rfl) (l6.keep b7) (Nat.le_refl _)) (fun _ _ _ h => (SlE IntE).mono (fun z hz => ⟨Nat.le_trans hzr hz, fun e => absurd (hOo z e.symm) (Nat.not_lt.2 hz)⟩) h) (by simp only [List.length_cons, List.length_nil]; omega) (by decide) (Nat.le_trans hzr hz7) ?_; intro p9 c9 w9 hO9 hg9 _; have B9 : Below w1.heap.size w1 w9 := (Below.thru hbr B7 (Nat.le_refl _)).grown hg9 (Nat.le_trans hzr hz7) (fun b hb => (hO7.lt b hb).1))
        go_roundw
        case rel => exact ⟨k + 1, by omega, by go_num, by rw [HCX.out]; rw [show (V ++ [[(-2 : Int)]]).length = V.length + 1 by simp] at hO9; exact hO9, B9⟩
        case measure => simp [Go.RowKit.intOf]; omega
    · have hlt' : ¬ (k : Int) < (l.length : Int) := by omega
      have e : (choZ l init).take k = choZ l init := List.take_of_length_le (by rw [choZ_len]; omega)
      rw [e] at hO
      clear e
      obtain ⟨CC, hCC⟩ : ∃ CC, choZ l init = CC := ⟨_, rfl⟩
      have HCC : Hid _ := hCC
      rw [hCC] at hO
      clear hCC
      obtain ⟨pV, cV, rfl⟩ := hO.len
      go_wp2
      go_ret
      exact ⟨_, rfl, by rw [HCC.out]; exact SlA.mono (A := fun b => w1.heap.size ≤ b ∨ w1.heap.size ≤ b) (fun b hb => by rcases hb with h | h <;> exact Nat.le_trans hz1 h) hO.sl, Br⟩
end Go.Proofs.Ytgffeihfcmbobaa
