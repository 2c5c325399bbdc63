/- Contract of source.May. -/
import Derived.Test.YtgffeihfcmbobaaSrcMay
import Derived.Test.YtgffeihfcmbobaaCloneI
namespace Go.Proofs.Ytgffeihfcmbobaa
open Go.RowKit
attribute [local go_sem] Ext.cell Ext.frozen

/-- Whence a read may read, of what stands ahead of the k-th number: -1, 0, 1, .. -/
def mayTo (l : List Ev) (init : List Int) (x : Ev) : Nat → List Int
  | 0 => []
  | k + 1 => if x.kd == 1 then (if initB init x.lc x.vl then [-1] else []) ++ wrsF (isW x.lc x.vl) (l.take k) 0 else []
theorem mayTo_next (l : List Ev) (init : List Int) (x : Ev) {k : Nat} (hk : k ≤ l.length) : mayTo l init x (k + 1) = mayTo l init x k ++ (if mayRB l init x ((k : Int) - 1) = true then [(k : Int) - 1] else []) := by
  unfold mayRB
  by_cases hx : x.kd = 1
  · have hx' : (x.kd == 1) = true := by simp [hx]
    rw [hx', Bool.true_and]
    cases k with
    | zero =>
      simp only [mayTo, hx', if_true]
      rw [List.take_zero]
      simp [wrsF]
    | succ k =>
      have hlt : k < l.length := by omega
      have e : ((k + 1 : Nat) : Int) - 1 = (k : Int) := by omega
      rw [e, if_neg (show ¬ (k : Int) = -1 by omega), mayTo, mayTo, if_pos hx', if_pos hx', wrsF_next (List.getElem?_eq_getElem hlt), List.append_assoc]
      have he : isEvB l (k : Int) = true := by unfold isEvB; rw [decide_eq_true (by omega), decide_eq_true (by omega)]; rfl
      rw [he, Int.toNat_natCast, List.getElem?_eq_getElem hlt]
      rfl
  · have hx' : (x.kd == 1) = false := by simp [hx]
    rw [hx', Bool.false_and]
    cases k with
    | zero => simp [mayTo, hx']
    | succ k => simp [mayTo, hx']
theorem mayTo_all (l : List Ev) (init : List Int) (x : Ev) : mayTo l init x (l.length + 1) = if x.kd == 1 then mayE l init x else [] := by
  rw [mayTo, List.take_length]
  rfl
theorem mayTo_len (l : List Ev) (init : List Int) (x : Ev) {k : Nat} : (mayTo l init x k).length ≤ l.length + 1 := by
  cases k with
  | zero => simp [mayTo]
  | succ k =>
    rw [mayTo]
    split
    · rw [List.length_append]
      have := wrsF_len (isW x.lc x.vl) (l.take k) 0
      rw [List.length_take] at this
      split <;> simp <;> omega
    · simp

set_option maxRecDepth 20000 in
set_option maxHeartbeats 4000000 in
theorem May_any (v : Value) (r : Nat → Value) (q pi : Option Addr) (c ci : Nat) (l : List Ev) (init : List Int) (rd : Int) (w : World) (hv : v = .slice q l.length c) (hl : Sl EvE w (.slice q l.length c) l) (hi : Sl IntE w (.slice pi init.length ci) init) (hn : l.length ≤ 1000) :
    Calls Try.prog 13 #[exV v r, .slice pi init.length ci, .int .i64 rd] w fun e w' => ∃ v, e = .returned v ∧ SlA (fun k => w.heap.size ≤ k) IntE w' v (mayZ l init rd) ∧ Below w.heap.size w w' := by
  obtain ⟨w1, hw1⟩ : ∃ w1, w.alloc (.cells #[.slice q l.length c, r 1, r 2, r 3, r 4, r 5, r 6] 30) = w1 := ⟨_, rfl⟩
  have k1 : Blk w1 w.heap.size #[.slice q l.length c, r 1, r 2, r 3, r 4, r 5, r 6] 30 := by rw [← hw1]; exact Blk.new
  have b1 : Below w.heap.size w w1 := by rw [← hw1]; exact below_new _ _
  have c0 := k1.cell 0
  have c1 := k1.cell 1
  have c2 := k1.cell 2
  have c3 := k1.cell 3
  have c4 := k1.cell 4
  have c5 := k1.cell 5
  have c6 := k1.cell 6
  simp only [List.getElem?_toArray, List.getElem?_cons_zero, List.getElem?_cons_succ] at c0 c1 c2 c3 c4 c5 c6
  have lc := k1.lt
  have hE := isEvent_any (.slice q l.length c) r q c l rd w1 rfl
  unfold exV at *
  have HE : Hid (Calls _ _ _ _ _) := hE
  clear hE
  subst hv
  by_cases he : isEvB l rd = true
  · rw [he] at HE
    unfold isEvB at he
    simp only [Bool.and_eq_true, decide_eq_true_eq] at he
    obtain ⟨n, rfl⟩ : ∃ n : Nat, rd = (n : Int) := ⟨rd.toNat, by omega⟩
    have hnl : n < l.length := by omega
    rw [mayZ_at (List.getElem?_eq_getElem hnl), ← mayTo_all]
    have hnl' : (n : Int) < (l.length : Int) := by omega
    have hlB := hl.keep b1
    obtain ⟨eb, eo, rfl, g0, g1, g2, g3, g4, g5, g6⟩ := (ev_at hlB).2 n hnl
    generalize l[n] = x at *
    obtain ⟨i0, z0, j1, j2, j3, j4, j5⟩ := cl_get (show ((Try.prog.info? 3).map fun i => (i.zero.map (·.cells.size), i.size, i.bytes)) = some (some 1, 1, 8) by kernel_rfl)
    have J1 : Hid _ := j1
    have J2 : Hid _ := j2
    have J3 : Hid _ := j3
    have J4 : Hid _ := j4
    have J5 : Hid _ := j5
    clear j1 j2 j3 j4 j5 he
    go_enter Try.func13, Try.ntmps13
    go_wp2_with (go_at_call 24; refine HE.out.mono ?_; rintro e w5 ⟨rfl, hb5⟩)
    have B5 := Below.thru b1 hb5 (Nat.le_refl _)
    replace g0 := cell_keep g0 hb5
    replace g1 := cell_keep g1 hb5
    replace g2 := cell_keep g2 hb5
    replace g3 := cell_keep g3 hb5
    replace g4 := cell_keep g4 hb5
    replace g5 := cell_keep g5 hb5
    replace g6 := cell_keep g6 hb5
    replace c0 := cell_keep c0 hb5
    replace c1 := cell_keep c1 hb5
    replace c2 := cell_keep c2 hb5
    replace c3 := cell_keep c3 hb5
    replace c4 := cell_keep c4 hb5
    replace c5 := cell_keep c5 hb5
    replace c6 := cell_keep c6 hb5
    have hl5 := hl.keep B5
    have hi5 := hi.keep B5
    clear hl hi hlB k1 b1 hb5 HE hw1 lc
    go_loopw [7, 8] (fun a i wr => ∃ (k : Nat) (z : Int), k ≤ l.length + 1 ∧ z = (k : Int) - 1 ∧ i = .int .i64 z ∧ Own F0 IntE wr w5.heap.size 3 a (mayTo l init x k) ∧ Below w5.heap.size w5 wr) (fun _ i _ => l.length + 1 - (Go.RowKit.intOf i + 1).toNat)
    case atStart => exact ⟨0, -1, Nat.zero_le _, rfl, rfl, Own.nil, Below.refl _ _⟩
    case round =>
      obtain ⟨k, z, hk, hz, rfl, hO, hbr⟩ := hrel
      have hml := mayTo_len l init x (k := k)
      have zl : -1 ≤ z := by omega
      have zh : z ≤ 1000 := by omega
      have d0 := cell_keep c0 hbr
      have d1 := cell_keep c1 hbr
      have d2 := cell_keep c2 hbr
      have d3 := cell_keep c3 hbr
      have d4 := cell_keep c4 hbr
      have d5 := cell_keep c5 hbr
      have d6 := cell_keep c6 hbr
      have m0 := cell_keep g0 hbr
      have m1 := cell_keep g1 hbr
      have m2 := cell_keep g2 hbr
      have m3 := cell_keep g3 hbr
      have m4 := cell_keep g4 hbr
      have m5 := cell_keep g5 hbr
      have m6 := cell_keep g6 hbr
      have lm := cell_lt m0
      have ld := cell_lt d0
      by_cases hlt : z < (l.length : Int)
      · have hnx := mayTo_next l init x (k := k) (by omega)
        rw [← hz] at hnx
        have hl6 := hl5.keep hbr
        have hi6 := hi5.keep hbr
        have CC : ∀ p : Ext wr, Calls Try.prog 25 #[exV (.slice (some ⟨eb, eo, none⟩) l.length c) r, .slice pi init.length ci, .agg x.cells.toArray, .int .i64 z] p.wd fun e w'' => e = .returned (.bool (mayRB l init x z)) ∧ ∃ q' : Ext wr, w'' = q'.wd := fun p => calls_ext (mayRead_any _ r (some ⟨eb, eo, none⟩) pi c ci l init x z p.wd rfl (hl6.keep p.ok) (hi6.keep p.ok))
        have hne : ∀ w, Nonempty (Ext w) := ext_some
        generalize mayTo l init x k = V at *
        obtain ⟨pV, cV, rfl⟩ := hO.len
        unfold exV Ev.cells at CC
        have HCC : Hid _ := CC
        have HNX : Hid _ := hnx
        have HZ : Hid _ := hz
        have hk2 : k < l.length + 1 := by omega
        clear CC hnx hl6 hi6 hz
        cases hb : mayRB l init x z
        · rw [hb] at HCC HNX
          go_wp2
          refine wp_region_ext (by kernel_rfl) (by kernel_rfl) ?_
          repeat (go_big_quiet_step (first | (with_reducible exact HCC.out _)))
          refine wpQuiet_nil ?_
          rintro _ ⟨rr, rfl⟩
          have hb6 := rr.ok
          generalize rr.wd = w6 at *
          go_wp2
          go_roundw
          case rel => exact ⟨k + 1, z + 1, by omega, by have := HZ.out; omega, by go_num, by rw [HNX.out]; simpa using hO.keep hb6, Below.thru hbr hb6 (Nat.le_refl _)⟩
          case measure => simp [Go.RowKit.intOf]; omega
        · rw [hb] at HCC HNX
          go_wp2
          refine wp_region_ext (by kernel_rfl) (by kernel_rfl) ?_
          repeat (go_big_quiet_step (first | (with_reducible exact HCC.out _)))
          refine wpQuiet_nil ?_
          rintro _ ⟨rr, rfl⟩
          have hb6 := rr.ok
          generalize rr.wd = w6 at *
          have b7 := below_new w6 (.cells #[.int .i64 z] 3)
          have kN : Blk (w6.alloc (.cells #[.int .i64 z] 3)) w6.heap.size #[.int .i64 z] 3 := Blk.new
          have B7 := Below.thru hb6 b7 (Nat.le_refl _)
          have hO7 := hO.keep B7
          have hbs := hbr.size
          go_wp2_with (at_builtin; refine wpList_push (R := IntE) (xs := V) (x := z) (by rfl) (.tmp 29) (.tmp 31) 24 3 i0 z0 8 (by rfl) Try.underlying24 J1.out J2.out J4.out J5.out J3.out w5.heap.size (.slice pV V.length cV) w6.heap.size (by rfl) (by rfl) hO7 [.int .i64 z] (fun _ _ => rfl) (fun _ _ _ _ _ h => h) (fun j u hj => (kN.cell j).trans (by simpa using hj)) (by omega) (by decide) (Nat.le_trans hbs B7.size) ?_; intro p8 c8 w8 hO8 hg8 _; have B8 : Below w5.heap.size w5 w8 := (Below.thru hbr B7 (Nat.le_refl _)).grown hg8 (Nat.le_trans hbs B7.size) (fun k hk => (hO7.lt k hk).1))
          go_roundw
          case rel => exact ⟨k + 1, z + 1, by omega, by have := HZ.out; omega, by go_num, by rw [HNX.out]; simpa using hO8, B8⟩
          case measure => simp [Go.RowKit.intOf]; omega
      · have e : k = l.length + 1 := by omega
        subst e
        obtain ⟨pV, cV, rfl⟩ := hO.len
        go_wp2
        go_ret
        exact ⟨_, rfl, SlA.mono (A := fun b => w5.heap.size ≤ b ∨ F0 b) (fun b hb => by have := B5.size; rcases hb with h1 | h1; exact Nat.le_trans this h1; exact h1.elim) hO.sl, Below.thru B5 hbr (Nat.le_refl _)⟩
  · have he : isEvB l rd = false := by simpa using he
    rw [he] at HE
    have hm : mayZ l init rd = [] := mayZ_none (by
      unfold isEvB at he
      simp only [Bool.and_eq_false_iff, decide_eq_false_iff_not] at he
      omega)
    rw [hm]
    go_enter Try.func13, Try.ntmps13
    go_wp2_with (go_at_call 24; refine HE.out.mono ?_; rintro e w5 ⟨rfl, hb5⟩)
    go_ret
    exact ⟨_, rfl, SlA.nil, Below.thru b1 hb5 (Nat.le_refl _)⟩
end Go.Proofs.Ytgffeihfcmbobaa
