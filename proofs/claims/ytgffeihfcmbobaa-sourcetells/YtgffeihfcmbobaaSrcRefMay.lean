/- Contract of the document's May. Printed by tools/gen/src_ref_may.py. -/
import Derived.Test.YtgffeihfcmbobaaSrcMay2
namespace Go.Proofs.Ytgffeihfcmbobaa
open Go.RowKit
attribute [local go_sem] Ext.cell Ext.frozen

set_option maxRecDepth 20000 in
set_option maxHeartbeats 16000000 in
theorem refMay_any (v : Value) (r : Nat → Value) (q pi : Option Addr) (c ci : Nat) (l : List Ev) (init : List Int) (rd : Int) (w : World) (hv : v = .slice q l.length c) (hl : Sl EvE w (.slice q l.length c) l) (hi : Sl IntE w (.slice pi init.length ci) init) (hn : l.length ≤ 1000) :
    Calls Try.prog 14 #[exV v r, .slice pi init.length ci, .int .i64 rd] w fun e w' => ∃ v, e = .returned v ∧ SlA (fun k => w.heap.size ≤ k) IntE w' v (mayZ l init rd) ∧ Below w.heap.size w w' := by
  subst hv
  obtain ⟨w1, hw1⟩ : ∃ w1, w.alloc (.cells #[.slice q l.length c, r 1, r 2, r 3, r 4, r 5, r 6] 33) = w1 := ⟨_, rfl⟩
  have k1 : Blk w1 w.heap.size #[.slice q l.length c, r 1, r 2, r 3, r 4, r 5, r 6] 33 := by rw [← hw1]; exact Blk.new
  have b1 : Below w.heap.size w w1 := by rw [← hw1]; exact below_new _ _
  have c0 := (ex_cells k1).1
  have lc := k1.lt
  unfold exV
  by_cases hr0 : rd < 0
  · have d0 : decide (rd < 0) = true := decide_eq_true hr0
    rw [mayZ_none (.inl hr0)]
    clear hr0
    go_enter Try.func14, Try.ntmps14
    go_wp2
    go_ret
    exact ⟨_, rfl, SlA.nil, b1⟩
  · have d0 : decide (rd < 0) = false := decide_eq_false hr0
    by_cases hr1 : (l.length : Int) ≤ rd
    · have d1 : decide ((l.length : Int) ≤ rd) = true := decide_eq_true hr1
      rw [mayZ_none (.inr hr1)]
      clear hr0 hr1
      go_enter Try.func14, Try.ntmps14
      go_wp2
      go_ret
      exact ⟨_, rfl, SlA.nil, b1⟩
    · have d1 : decide ((l.length : Int) ≤ rd) = false := decide_eq_false hr1
      obtain ⟨n, rfl⟩ : ∃ n : Nat, rd = (n : Int) := ⟨rd.toNat, by omega⟩
      have hnl : n < l.length := by omega
      have d2 : decide (l.length ≤ n) = false := decide_eq_false (by omega)
      have hnl' : (n : Int) < (l.length : Int) := by omega
      rw [mayZ_at (List.getElem?_eq_getElem hnl)]
      obtain ⟨eb, eo, rfl, g0, g1, g2, g3, g4, g5, g6⟩ := (ev_at (hl.keep b1)).2 n hnl
      generalize l[n] = x at *
      have lg := cell_lt g0
      clear hr0 hr1
      have F1 := trivial
      have hne : ∀ w, Nonempty (Ext w) := ext_some
      by_cases hx : x.kd = 1
      · have hx1 : (x.kd == 1) = true := by simp [hx]
        have hx2 : (x.kd != 1) = false := by simp [hx]
        rw [if_pos hx1]
        clear hx
        obtain ⟨A0, hA0⟩ : ∃ A0, (if initB init x.lc x.vl then [-1] else []) = A0 := ⟨_, rfl⟩
        obtain ⟨MM, hMM⟩ : ∃ MM, mayE l init x = MM := ⟨_, rfl⟩
        have hme : A0 ++ wrsF (isW x.lc x.vl) l 0 = MM := by rw [← hMM]; unfold mayE; rw [hA0]
        rw [hMM]
        have HME : Hid _ := hme
        have hA1 : A0.length ≤ 1 := by rw [← hA0]; split <;> simp
        have HA0 : Hid _ := hA0
        clear hA0 hme hMM
        obtain ⟨i0, z0, j1, j2, j3, j4, j5⟩ := cl_get (show ((Try.prog.info? 3).map fun i => (i.zero.map (·.cells.size), i.size, i.bytes)) = some (some 1, 1, 8) by kernel_rfl)
        have J1 : Hid _ := j1
        have J2 : Hid _ := j2
        have J3 : Hid _ := j3
        have J4 : Hid _ := j4
        have J5 : Hid _ := j5
        clear j1 j2 j3 j4 j5
        by_cases h0 : 0 ≤ x.lc
        · have f0 : decide (0 ≤ x.lc) = true := decide_eq_true h0
          by_cases h1 : x.lc < (init.length : Int)
          · have f1 : decide (x.lc < (init.length : Int)) = true := decide_eq_true h1
            cases hb : (init.getD x.lc.toNat 0 == x.vl)
            · obtain ⟨ib, io, rfl, m0⟩ := (ints_at (hi.keep b1)).2 x.lc.toNat (by omega)
              have hgd : init[x.lc.toNat]'(by omega) = init.getD x.lc.toNat 0 := by rw [List.getD_eq_getElem?_getD, List.getElem?_eq_getElem (by omega)]; rfl
              rw [hgd] at m0
              rw [initB_at h0 h1] at HA0
              clear hgd
              generalize init.getD x.lc.toNat 0 = y at m0 HA0 hb
              rw [hb] at HA0
              have hA : A0 = [] := HA0.out.symm
              have HA : Hid _ := hA
              clear hA HA0
              go_enter Try.func14, Try.ntmps14
              go_wp2_with ((clear F1; refine wpList_toldE (w := w1) (by rfl) (.tmp 8) (.tmp 24) (by rfl) x (by rfl) (by rfl) ?_; intro w5 kE b5; simp only [Act.put]; have B5 := Below.thru b1 b5 (Nat.le_refl _); obtain ⟨s0, s1, s2, s3, s4, s5, s6⟩ := ev_cells kE; have lE := kE.lt; have m5 := cell_keep m0 b5; have lm5 := cell_lt m5; have F2 := trivial))
              refine wp_region_ext (by kernel_rfl) (by kernel_rfl) ?_
              repeat (go_big_quiet_step (fail))
              refine wpQuiet_nil ?_
              rintro _ ⟨rr, rfl⟩
              have b6 := rr.ok
              generalize rr.wd = w6 at *
              go_wp2
              have B57 := b6
              obtain ⟨w7, rfl⟩ : ∃ x : World, x = w6 := ⟨_, rfl⟩
              have hO : Own F0 IntE w7 w5.heap.size 3 (.slice none 0 0) A0 := by rw [HA.out]; exact Own.nil
              have B7 := Below.thru B5 B57 (Nat.le_refl _)
              have h5 := B5.size
              clear s0 s1 s2 s3 s4 s5 s6
              go_loopw [7, 9] (fun a i wr => ∃ k : Nat, k ≤ l.length ∧ i = .int .i64 k ∧ Own F0 IntE wr w5.heap.size 3 a (A0 ++ wrsF (isW x.lc x.vl) (l.take k) 0) ∧ Below w5.heap.size w5 wr) (fun _ i _ => l.length - (Go.RowKit.intOf i).toNat)
              case atStart => exact ⟨0, Nat.zero_le _, rfl, by simpa [wrsF] using hO, B57⟩
              case round =>
                clear hO B7 B57
                obtain ⟨k, hk, rfl, hO, hbr⟩ := hrel
                have Br := Below.thru B5 hbr (Nat.le_refl _)
                have br := Below.thru b5 hbr (Nat.le_refl _)
                have q0 := (ex_cells (k1.keep br)).1
                have lq := cell_lt q0
                obtain ⟨s0, s1, s2, s3, s4, s5, s6⟩ := ev_cells (kE.keep hbr)
                have ls := cell_lt s0
                have hwl := wrsF_len (isW x.lc x.vl) (l.take k) 0
                rw [List.length_take] at hwl
                have hVl : (A0 ++ wrsF (isW x.lc x.vl) (l.take k) 0).length ≤ 2000 := by rw [List.length_append]; omega
                by_cases hlt : k < l.length
                · have hlt' : (k : Int) < (l.length : Int) := by omega
                  obtain ⟨yb, yo, ye, t0, t1, t2, t3, t4, t5, t6⟩ := (ev_at (hl.keep Br)).2 k hlt
                  simp only [Option.some.injEq, Addr.mk.injEq, and_true] at ye
                  obtain ⟨rfl, rfl⟩ := ye
                  have hnx := wrsF_next (p := isW x.lc x.vl) (List.getElem?_eq_getElem hlt)
                  generalize l[k] = y at *
                  have hisw : isW x.lc x.vl y = ((y.kd == 2) && ((y.lc == x.lc) && (y.vl == x.vl))) := rfl
                  rw [hisw] at hnx
                  clear hisw
                  replace hnx : A0 ++ wrsF (isW x.lc x.vl) (l.take (k + 1)) 0 = (A0 ++ wrsF (isW x.lc x.vl) (l.take k) 0) ++ (if ((y.kd == 2) && ((y.lc == x.lc) && (y.vl == x.vl))) = true then [(k : Int)] else []) := by rw [hnx, List.append_assoc]
                  generalize A0 ++ wrsF (isW x.lc x.vl) (l.take k) 0 = V at *
                  obtain ⟨pV, cV, rfl⟩ := hO.len
                  have lt0 := cell_lt t0
                  by_cases y1 : y.kd = 2
                  · have y1' : (y.kd == 2) = true := by simp [y1]
                    rw [y1', Bool.true_and] at hnx
                    clear y1
                    by_cases y2 : y.lc = x.lc
                    · have y2' : (y.lc == x.lc) = true := by simp [y2]
                      rw [y2', Bool.true_and] at hnx
                      clear y2
                      by_cases y3 : y.vl = x.vl
                      · have y3' : (y.vl == x.vl) = true := by simp [y3]
                        rw [y3'] at hnx
                        clear y3
                        have HNX : Hid _ := hnx
                        clear hnx
                        go_wp2
                        refine wp_region_ext (by kernel_rfl) (by kernel_rfl) ?_
                        repeat (go_big_quiet_step (fail))
                        refine wpQuiet_nil ?_
                        rintro _ ⟨rr, rfl⟩
                        have b8 := rr.ok
                        generalize rr.wd = w8 at *
                        have b9 := below_new w8 (.cells #[.int .i64 (k : Int)] 3)
                        have kM : Blk (w8.alloc (.cells #[.int .i64 (k : Int)] 3)) w8.heap.size #[.int .i64 (k : Int)] 3 := Blk.new
                        have B89 := Below.thru b8 b9 (Nat.le_refl _)
                        have hO9 := hO.keep B89
                        have hz9 := B89.size
                        have hzr := hbr.size
                        go_wp2_with (at_builtin; refine wpList_push (R := IntE) (xs := V) (x := (k : Int)) (by rfl) (.tmp 88) (.tmp 90) 24 3 i0 z0 8 (by rfl) Try.underlying24 J1.out J2.out J4.out J5.out J3.out w5.heap.size (.slice pV V.length cV) w8.heap.size (by rfl) (by rfl) hO9 [.int .i64 (k : Int)] (fun _ _ => rfl) (fun _ _ _ _ _ h => h) (fun j u hj => (kM.cell j).trans (by simpa using hj)) (by omega) (by decide) (Nat.le_trans hzr hz9) ?_; intro pa ca wa hOa hga _; have Ba : Below w5.heap.size w5 wa := (Below.thru hbr B89 (Nat.le_refl _)).grown hga (Nat.le_trans hzr hz9) (fun k hk => (hO9.lt k hk).1))
                        go_roundw
                        case rel =>
                          have hOb : Own F0 IntE wa w5.heap.size 3 (.slice pa (V.length + 1) ca) (A0 ++ wrsF (isW x.lc x.vl) (l.take (k + 1)) 0) := by rw [HNX.out]; simpa using hOa
                          first
                            | exact ⟨k + 1, by omega, by go_num, hOb, Ba⟩
                            | ((repeat apply Exists.intro); exact ⟨⟨k + 1, by omega, by go_num, hOb, Ba⟩, rfl⟩)
                        case measure => simp [Go.RowKit.intOf]; omega
                      · have y3' : (y.vl == x.vl) = false := by simp [y3]
                        rw [y3'] at hnx
                        have HNX : Hid _ := hnx
                        clear y3 hnx
                        go_wp2
                        refine wp_region_ext (by kernel_rfl) (by kernel_rfl) ?_
                        repeat (go_big_quiet_step (fail))
                        refine wpQuiet_nil ?_
                        rintro _ ⟨rr, rfl⟩
                        have b8 := rr.ok
                        generalize rr.wd = w8 at *
                        go_wp2
                        go_roundw
                        case rel => exact ⟨k + 1, by omega, by go_num, by rw [HNX.out]; simpa using hO.keep b8, Below.thru hbr b8 (Nat.le_refl _)⟩
                        case measure => simp [Go.RowKit.intOf]; omega
                    · have y2' : (y.lc == x.lc) = false := by simp [y2]
                      rw [y2', Bool.false_and] at hnx
                      have HNX : Hid _ := hnx
                      clear y2 hnx
                      go_wp2
                      refine wp_region_ext (by kernel_rfl) (by kernel_rfl) ?_
                      repeat (go_big_quiet_step (fail))
                      refine wpQuiet_nil ?_
                      rintro _ ⟨rr, rfl⟩
                      have b8 := rr.ok
                      generalize rr.wd = w8 at *
                      go_wp2
                      go_roundw
                      case rel => exact ⟨k + 1, by omega, by go_num, by rw [HNX.out]; simpa using hO.keep b8, Below.thru hbr b8 (Nat.le_refl _)⟩
                      case measure => simp [Go.RowKit.intOf]; omega
                  · have y1' : (y.kd == 2) = false := by simp [y1]
                    rw [y1', Bool.false_and] at hnx
                    have HNX : Hid _ := hnx
                    clear y1 hnx
                    go_wp2
                    refine wp_region_ext (by kernel_rfl) (by kernel_rfl) ?_
                    repeat (go_big_quiet_step (fail))
                    refine wpQuiet_nil ?_
                    rintro _ ⟨rr, rfl⟩
                    have b8 := rr.ok
                    generalize rr.wd = w8 at *
                    go_wp2
                    go_roundw
                    case rel => exact ⟨k + 1, by omega, by go_num, by rw [HNX.out]; simpa using hO.keep b8, Below.thru hbr b8 (Nat.le_refl _)⟩
                    case measure => simp [Go.RowKit.intOf]; omega
                · have e : l.take k = l := List.take_of_length_le (by omega)
                  rw [e, HME.out] at hO
                  clear e
                  obtain ⟨pV, cV, rfl⟩ := hO.len
                  have hlt' : ¬ (k : Int) < (l.length : Int) := by omega
                  go_wp2
                  go_ret
                  exact ⟨_, rfl, SlA.mono (A := fun b => w5.heap.size ≤ b ∨ F0 b) (fun b hb => by rcases hb with h | h; exact Nat.le_trans h5 h; exact h.elim) hO.sl, Br⟩
            · obtain ⟨ib, io, rfl, m0⟩ := (ints_at (hi.keep b1)).2 x.lc.toNat (by omega)
              have hgd : init[x.lc.toNat]'(by omega) = init.getD x.lc.toNat 0 := by rw [List.getD_eq_getElem?_getD, List.getElem?_eq_getElem (by omega)]; rfl
              rw [hgd] at m0
              rw [initB_at h0 h1] at HA0
              clear hgd
              generalize init.getD x.lc.toNat 0 = y at m0 HA0 hb
              rw [hb] at HA0
              have hA : A0 = [-1] := HA0.out.symm
              have HA : Hid _ := hA
              clear hA HA0
              go_enter Try.func14, Try.ntmps14
              go_wp2_with ((clear F1; refine wpList_toldE (w := w1) (by rfl) (.tmp 8) (.tmp 24) (by rfl) x (by rfl) (by rfl) ?_; intro w5 kE b5; simp only [Act.put]; have B5 := Below.thru b1 b5 (Nat.le_refl _); obtain ⟨s0, s1, s2, s3, s4, s5, s6⟩ := ev_cells kE; have lE := kE.lt; have m5 := cell_keep m0 b5; have lm5 := cell_lt m5; have F2 := trivial))
              refine wp_region_ext (by kernel_rfl) (by kernel_rfl) ?_
              repeat (go_big_quiet_step (fail))
              refine wpQuiet_nil ?_
              rintro _ ⟨rr, rfl⟩
              have b6 := rr.ok
              generalize rr.wd = w6 at *
              have b7 := below_new w6 (.cells #[.int .i64 (-1)] 3)
              have kN : Blk (w6.alloc (.cells #[.int .i64 (-1)] 3)) w6.heap.size #[.int .i64 (-1)] 3 := Blk.new
              have B67 := Below.thru b6 b7 (Nat.le_refl _)
              have hz7 := B67.size
              go_wp2_with (at_builtin; refine wpList_push (R := IntE) (xs := []) (x := (-1 : Int)) (by rfl) (.tmp 49) (.tmp 50) 24 3 i0 z0 8 (by rfl) Try.underlying24 J1.out J2.out J4.out J5.out J3.out w5.heap.size (.slice none 0 0) w6.heap.size (by rfl) (by rfl) Own.nil [.int .i64 (-1)] (fun _ _ => rfl) (fun _ _ _ _ _ h => h) (fun j u hj => (kN.cell j).trans (by simpa using hj)) (by simp) (by decide) hz7 ?_; intro p7 c7 w7 hO7 hg7 _; have B57 : Below w5.heap.size w5 w7 := B67.grown hg7 hz7 (fun k hk => by simp [Value.ownBlock] at hk))
              have hO : Own F0 IntE w7 w5.heap.size 3 (.slice p7 1 c7) A0 := by rw [HA.out]; exact hO7
              have B7 := Below.thru B5 B57 (Nat.le_refl _)
              have h5 := B5.size
              clear s0 s1 s2 s3 s4 s5 s6
              go_loopw [7, 9] (fun a i wr => ∃ k : Nat, k ≤ l.length ∧ i = .int .i64 k ∧ Own F0 IntE wr w5.heap.size 3 a (A0 ++ wrsF (isW x.lc x.vl) (l.take k) 0) ∧ Below w5.heap.size w5 wr) (fun _ i _ => l.length - (Go.RowKit.intOf i).toNat)
              case atStart => exact ⟨0, Nat.zero_le _, rfl, by simpa [wrsF] using hO, B57⟩
              case round =>
                clear hO B7 B57
                obtain ⟨k, hk, rfl, hO, hbr⟩ := hrel
                have Br := Below.thru B5 hbr (Nat.le_refl _)
                have br := Below.thru b5 hbr (Nat.le_refl _)
                have q0 := (ex_cells (k1.keep br)).1
                have lq := cell_lt q0
                obtain ⟨s0, s1, s2, s3, s4, s5, s6⟩ := ev_cells (kE.keep hbr)
                have ls := cell_lt s0
                have hwl := wrsF_len (isW x.lc x.vl) (l.take k) 0
                rw [List.length_take] at hwl
                have hVl : (A0 ++ wrsF (isW x.lc x.vl) (l.take k) 0).length ≤ 2000 := by rw [List.length_append]; omega
                by_cases hlt : k < l.length
                · have hlt' : (k : Int) < (l.length : Int) := by omega
                  obtain ⟨yb, yo, ye, t0, t1, t2, t3, t4, t5, t6⟩ := (ev_at (hl.keep Br)).2 k hlt
                  simp only [Option.some.injEq, Addr.mk.injEq, and_true] at ye
                  obtain ⟨rfl, rfl⟩ := ye
                  have hnx := wrsF_next (p := isW x.lc x.vl) (List.getElem?_eq_getElem hlt)
                  generalize l[k] = y at *
                  have hisw : isW x.lc x.vl y = ((y.kd == 2) && ((y.lc == x.lc) && (y.vl == x.vl))) := rfl
                  rw [hisw] at hnx
                  clear hisw
                  replace hnx : A0 ++ wrsF (isW x.lc x.vl) (l.take (k + 1)) 0 = (A0 ++ wrsF (isW x.lc x.vl) (l.take k) 0) ++ (if ((y.kd == 2) && ((y.lc == x.lc) && (y.vl == x.vl))) = true then [(k : Int)] else []) := by rw [hnx, List.append_assoc]
                  generalize A0 ++ wrsF (isW x.lc x.vl) (l.take k) 0 = V at *
                  obtain ⟨pV, cV, rfl⟩ := hO.len
                  have lt0 := cell_lt t0
                  by_cases y1 : y.kd = 2
                  · have y1' : (y.kd == 2) = true := by simp [y1]
                    rw [y1', Bool.true_and] at hnx
                    clear y1
                    by_cases y2 : y.lc = x.lc
                    · have y2' : (y.lc == x.lc) = true := by simp [y2]
                      rw [y2', Bool.true_and] at hnx
                      clear y2
                      by_cases y3 : y.vl = x.vl
                      · have y3' : (y.vl == x.vl) = true := by simp [y3]
                        rw [y3'] at hnx
                        clear y3
                        have HNX : Hid _ := hnx
                        clear hnx
                        go_wp2
                        refine wp_region_ext (by kernel_rfl) (by kernel_rfl) ?_
                        repeat (go_big_quiet_step (fail))
                        refine wpQuiet_nil ?_
                        rintro _ ⟨rr, rfl⟩
                        have b8 := rr.ok
                        generalize rr.wd = w8 at *
                        have b9 := below_new w8 (.cells #[.int .i64 (k : Int)] 3)
                        have kM : Blk (w8.alloc (.cells #[.int .i64 (k : Int)] 3)) w8.heap.size #[.int .i64 (k : Int)] 3 := Blk.new
                        have B89 := Below.thru b8 b9 (Nat.le_refl _)
                        have hO9 := hO.keep B89
                        have hz9 := B89.size
                        have hzr := hbr.size
                        go_wp2_with (at_builtin; refine wpList_push (R := IntE) (xs := V) (x := (k : Int)) (by rfl) (.tmp 88) (.tmp 90) 24 3 i0 z0 8 (by rfl) Try.underlying24 J1.out J2.out J4.out J5.out J3.out w5.heap.size (.slice pV V.length cV) w8.heap.size (by rfl) (by rfl) hO9 [.int .i64 (k : Int)] (fun _ _ => rfl) (fun _ _ _ _ _ h => h) (fun j u hj => (kM.cell j).trans (by simpa using hj)) (by omega) (by decide) (Nat.le_trans hzr hz9) ?_; intro pa ca wa hOa hga _; have Ba : Below w5.heap.size w5 wa := (Below.thru hbr B89 (Nat.le_refl _)).grown hga (Nat.le_trans hzr hz9) (fun k hk => (hO9.lt k hk).1))
                        go_roundw
                        case rel =>
                          have hOb : Own F0 IntE wa w5.heap.size 3 (.slice pa (V.length + 1) ca) (A0 ++ wrsF (isW x.lc x.vl) (l.take (k + 1)) 0) := by rw [HNX.out]; simpa using hOa
                          first
                            | exact ⟨k + 1, by omega, by go_num, hOb, Ba⟩
                            | ((repeat apply Exists.intro); exact ⟨⟨k + 1, by omega, by go_num, hOb, Ba⟩, rfl⟩)
                        case measure => simp [Go.RowKit.intOf]; omega
                      · have y3' : (y.vl == x.vl) = false := by simp [y3]
                        rw [y3'] at hnx
                        have HNX : Hid _ := hnx
                        clear y3 hnx
                        go_wp2
                        refine wp_region_ext (by kernel_rfl) (by kernel_rfl) ?_
                        repeat (go_big_quiet_step (fail))
                        refine wpQuiet_nil ?_
                        rintro _ ⟨rr, rfl⟩
                        have b8 := rr.ok
                        generalize rr.wd = w8 at *
                        go_wp2
                        go_roundw
                        case rel => exact ⟨k + 1, by omega, by go_num, by rw [HNX.out]; simpa using hO.keep b8, Below.thru hbr b8 (Nat.le_refl _)⟩
                        case measure => simp [Go.RowKit.intOf]; omega
                    · have y2' : (y.lc == x.lc) = false := by simp [y2]
                      rw [y2', Bool.false_and] at hnx
                      have HNX : Hid _ := hnx
                      clear y2 hnx
                      go_wp2
                      refine wp_region_ext (by kernel_rfl) (by kernel_rfl) ?_
                      repeat (go_big_quiet_step (fail))
                      refine wpQuiet_nil ?_
                      rintro _ ⟨rr, rfl⟩
                      have b8 := rr.ok
                      generalize rr.wd = w8 at *
                      go_wp2
                      go_roundw
                      case rel => exact ⟨k + 1, by omega, by go_num, by rw [HNX.out]; simpa using hO.keep b8, Below.thru hbr b8 (Nat.le_refl _)⟩
                      case measure => simp [Go.RowKit.intOf]; omega
                  · have y1' : (y.kd == 2) = false := by simp [y1]
                    rw [y1', Bool.false_and] at hnx
                    have HNX : Hid _ := hnx
                    clear y1 hnx
                    go_wp2
                    refine wp_region_ext (by kernel_rfl) (by kernel_rfl) ?_
                    repeat (go_big_quiet_step (fail))
                    refine wpQuiet_nil ?_
                    rintro _ ⟨rr, rfl⟩
                    have b8 := rr.ok
                    generalize rr.wd = w8 at *
                    go_wp2
                    go_roundw
                    case rel => exact ⟨k + 1, by omega, by go_num, by rw [HNX.out]; simpa using hO.keep b8, Below.thru hbr b8 (Nat.le_refl _)⟩
                    case measure => simp [Go.RowKit.intOf]; omega
                · have e : l.take k = l := List.take_of_length_le (by omega)
                  rw [e, HME.out] at hO
                  clear e
                  obtain ⟨pV, cV, rfl⟩ := hO.len
                  have hlt' : ¬ (k : Int) < (l.length : Int) := by omega
                  go_wp2
                  go_ret
                  exact ⟨_, rfl, SlA.mono (A := fun b => w5.heap.size ≤ b ∨ F0 b) (fun b hb => by rcases hb with h | h; exact Nat.le_trans h5 h; exact h.elim) hO.sl, Br⟩
          · have f1 : decide (x.lc < (init.length : Int)) = false := decide_eq_false h1
            rw [initB_no (fun h => h1 h.2)] at HA0
            clear h1
            have hA : A0 = [] := HA0.out.symm
            have HA : Hid _ := hA
            clear hA HA0
            go_enter Try.func14, Try.ntmps14
            go_wp2_with ((clear F1; refine wpList_toldE (w := w1) (by rfl) (.tmp 8) (.tmp 24) (by rfl) x (by rfl) (by rfl) ?_; intro w5 kE b5; simp only [Act.put]; have B5 := Below.thru b1 b5 (Nat.le_refl _); obtain ⟨s0, s1, s2, s3, s4, s5, s6⟩ := ev_cells kE; have lE := kE.lt; have F2 := trivial))
            refine wp_region_ext (by kernel_rfl) (by kernel_rfl) ?_
            repeat (go_big_quiet_step (fail))
            refine wpQuiet_nil ?_
            rintro _ ⟨rr, rfl⟩
            have b6 := rr.ok
            generalize rr.wd = w6 at *
            go_wp2
            have B57 := b6
            obtain ⟨w7, rfl⟩ : ∃ x : World, x = w6 := ⟨_, rfl⟩
            have hO : Own F0 IntE w7 w5.heap.size 3 (.slice none 0 0) A0 := by rw [HA.out]; exact Own.nil
            have B7 := Below.thru B5 B57 (Nat.le_refl _)
            have h5 := B5.size
            clear s0 s1 s2 s3 s4 s5 s6
            go_loopw [7, 9] (fun a i wr => ∃ k : Nat, k ≤ l.length ∧ i = .int .i64 k ∧ Own F0 IntE wr w5.heap.size 3 a (A0 ++ wrsF (isW x.lc x.vl) (l.take k) 0) ∧ Below w5.heap.size w5 wr) (fun _ i _ => l.length - (Go.RowKit.intOf i).toNat)
            case atStart => exact ⟨0, Nat.zero_le _, rfl, by simpa [wrsF] using hO, B57⟩
            case round =>
              clear hO B7 B57
              obtain ⟨k, hk, rfl, hO, hbr⟩ := hrel
              have Br := Below.thru B5 hbr (Nat.le_refl _)
              have br := Below.thru b5 hbr (Nat.le_refl _)
              have q0 := (ex_cells (k1.keep br)).1
              have lq := cell_lt q0
              obtain ⟨s0, s1, s2, s3, s4, s5, s6⟩ := ev_cells (kE.keep hbr)
              have ls := cell_lt s0
              have hwl := wrsF_len (isW x.lc x.vl) (l.take k) 0
              rw [List.length_take] at hwl
              have hVl : (A0 ++ wrsF (isW x.lc x.vl) (l.take k) 0).length ≤ 2000 := by rw [List.length_append]; omega
              by_cases hlt : k < l.length
              · have hlt' : (k : Int) < (l.length : Int) := by omega
                obtain ⟨yb, yo, ye, t0, t1, t2, t3, t4, t5, t6⟩ := (ev_at (hl.keep Br)).2 k hlt
                simp only [Option.some.injEq, Addr.mk.injEq, and_true] at ye
                obtain ⟨rfl, rfl⟩ := ye
                have hnx := wrsF_next (p := isW x.lc x.vl) (List.getElem?_eq_getElem hlt)
                generalize l[k] = y at *
                have hisw : isW x.lc x.vl y = ((y.kd == 2) && ((y.lc == x.lc) && (y.vl == x.vl))) := rfl
                rw [hisw] at hnx
                clear hisw
                replace hnx : A0 ++ wrsF (isW x.lc x.vl) (l.take (k + 1)) 0 = (A0 ++ wrsF (isW x.lc x.vl) (l.take k) 0) ++ (if ((y.kd == 2) && ((y.lc == x.lc) && (y.vl == x.vl))) = true then [(k : Int)] else []) := by rw [hnx, List.append_assoc]
                generalize A0 ++ wrsF (isW x.lc x.vl) (l.take k) 0 = V at *
                obtain ⟨pV, cV, rfl⟩ := hO.len
                have lt0 := cell_lt t0
                by_cases y1 : y.kd = 2
                · have y1' : (y.kd == 2) = true := by simp [y1]
                  rw [y1', Bool.true_and] at hnx
                  clear y1
                  by_cases y2 : y.lc = x.lc
                  · have y2' : (y.lc == x.lc) = true := by simp [y2]
                    rw [y2', Bool.true_and] at hnx
                    clear y2
                    by_cases y3 : y.vl = x.vl
                    · have y3' : (y.vl == x.vl) = true := by simp [y3]
                      rw [y3'] at hnx
                      clear y3
                      have HNX : Hid _ := hnx
                      clear hnx
                      go_wp2
                      refine wp_region_ext (by kernel_rfl) (by kernel_rfl) ?_
                      repeat (go_big_quiet_step (fail))
                      refine wpQuiet_nil ?_
                      rintro _ ⟨rr, rfl⟩
                      have b8 := rr.ok
                      generalize rr.wd = w8 at *
                      have b9 := below_new w8 (.cells #[.int .i64 (k : Int)] 3)
                      have kM : Blk (w8.alloc (.cells #[.int .i64 (k : Int)] 3)) w8.heap.size #[.int .i64 (k : Int)] 3 := Blk.new
                      have B89 := Below.thru b8 b9 (Nat.le_refl _)
                      have hO9 := hO.keep B89
                      have hz9 := B89.size
                      have hzr := hbr.size
                      go_wp2_with (at_builtin; refine wpList_push (R := IntE) (xs := V) (x := (k : Int)) (by rfl) (.tmp 88) (.tmp 90) 24 3 i0 z0 8 (by rfl) Try.underlying24 J1.out J2.out J4.out J5.out J3.out w5.heap.size (.slice pV V.length cV) w8.heap.size (by rfl) (by rfl) hO9 [.int .i64 (k : Int)] (fun _ _ => rfl) (fun _ _ _ _ _ h => h) (fun j u hj => (kM.cell j).trans (by simpa using hj)) (by omega) (by decide) (Nat.le_trans hzr hz9) ?_; intro pa ca wa hOa hga _; have Ba : Below w5.heap.size w5 wa := (Below.thru hbr B89 (Nat.le_refl _)).grown hga (Nat.le_trans hzr hz9) (fun k hk => (hO9.lt k hk).1))
                      go_roundw
                      case rel =>
                        have hOb : Own F0 IntE wa w5.heap.size 3 (.slice pa (V.length + 1) ca) (A0 ++ wrsF (isW x.lc x.vl) (l.take (k + 1)) 0) := by rw [HNX.out]; simpa using hOa
                        first
                          | exact ⟨k + 1, by omega, by go_num, hOb, Ba⟩
                          | ((repeat apply Exists.intro); exact ⟨⟨k + 1, by omega, by go_num, hOb, Ba⟩, rfl⟩)
                      case measure => simp [Go.RowKit.intOf]; omega
                    · have y3' : (y.vl == x.vl) = false := by simp [y3]
                      rw [y3'] at hnx
                      have HNX : Hid _ := hnx
                      clear y3 hnx
                      go_wp2
                      refine wp_region_ext (by kernel_rfl) (by kernel_rfl) ?_
                      repeat (go_big_quiet_step (fail))
                      refine wpQuiet_nil ?_
                      rintro _ ⟨rr, rfl⟩
                      have b8 := rr.ok
                      generalize rr.wd = w8 at *
                      go_wp2
                      go_roundw
                      case rel => exact ⟨k + 1, by omega, by go_num, by rw [HNX.out]; simpa using hO.keep b8, Below.thru hbr b8 (Nat.le_refl _)⟩
                      case measure => simp [Go.RowKit.intOf]; omega
                  · have y2' : (y.lc == x.lc) = false := by simp [y2]
                    rw [y2', Bool.false_and] at hnx
                    have HNX : Hid _ := hnx
                    clear y2 hnx
                    go_wp2
                    refine wp_region_ext (by kernel_rfl) (by kernel_rfl) ?_
                    repeat (go_big_quiet_step (fail))
                    refine wpQuiet_nil ?_
                    rintro _ ⟨rr, rfl⟩
                    have b8 := rr.ok
                    generalize rr.wd = w8 at *
                    go_wp2
                    go_roundw
                    case rel => exact ⟨k + 1, by omega, by go_num, by rw [HNX.out]; simpa using hO.keep b8, Below.thru hbr b8 (Nat.le_refl _)⟩
                    case measure => simp [Go.RowKit.intOf]; omega
                · have y1' : (y.kd == 2) = false := by simp [y1]
                  rw [y1', Bool.false_and] at hnx
                  have HNX : Hid _ := hnx
                  clear y1 hnx
                  go_wp2
                  refine wp_region_ext (by kernel_rfl) (by kernel_rfl) ?_
                  repeat (go_big_quiet_step (fail))
                  refine wpQuiet_nil ?_
                  rintro _ ⟨rr, rfl⟩
                  have b8 := rr.ok
                  generalize rr.wd = w8 at *
                  go_wp2
                  go_roundw
                  case rel => exact ⟨k + 1, by omega, by go_num, by rw [HNX.out]; simpa using hO.keep b8, Below.thru hbr b8 (Nat.le_refl _)⟩
                  case measure => simp [Go.RowKit.intOf]; omega
              · have e : l.take k = l := List.take_of_length_le (by omega)
                rw [e, HME.out] at hO
                clear e
                obtain ⟨pV, cV, rfl⟩ := hO.len
                have hlt' : ¬ (k : Int) < (l.length : Int) := by omega
                go_wp2
                go_ret
                exact ⟨_, rfl, SlA.mono (A := fun b => w5.heap.size ≤ b ∨ F0 b) (fun b hb => by rcases hb with h | h; exact Nat.le_trans h5 h; exact h.elim) hO.sl, Br⟩
        · have f0 : decide (0 ≤ x.lc) = false := decide_eq_false h0
          rw [initB_no (fun h => h0 h.1)] at HA0
          clear h0
          have hA : A0 = [] := HA0.out.symm
          have HA : Hid _ := hA
          clear hA HA0
          go_enter Try.func14, Try.ntmps14
          go_wp2_with ((clear F1; refine wpList_toldE (w := w1) (by rfl) (.tmp 8) (.tmp 24) (by rfl) x (by rfl) (by rfl) ?_; intro w5 kE b5; simp only [Act.put]; have B5 := Below.thru b1 b5 (Nat.le_refl _); obtain ⟨s0, s1, s2, s3, s4, s5, s6⟩ := ev_cells kE; have lE := kE.lt; have F2 := trivial))
          refine wp_region_ext (by kernel_rfl) (by kernel_rfl) ?_
          repeat (go_big_quiet_step (fail))
          refine wpQuiet_nil ?_
          rintro _ ⟨rr, rfl⟩
          have b6 := rr.ok
          generalize rr.wd = w6 at *
          go_wp2
          have B57 := b6
          obtain ⟨w7, rfl⟩ : ∃ x : World, x = w6 := ⟨_, rfl⟩
          have hO : Own F0 IntE w7 w5.heap.size 3 (.slice none 0 0) A0 := by rw [HA.out]; exact Own.nil
          have B7 := Below.thru B5 B57 (Nat.le_refl _)
          have h5 := B5.size
          clear s0 s1 s2 s3 s4 s5 s6
          go_loopw [7, 9] (fun a i wr => ∃ k : Nat, k ≤ l.length ∧ i = .int .i64 k ∧ Own F0 IntE wr w5.heap.size 3 a (A0 ++ wrsF (isW x.lc x.vl) (l.take k) 0) ∧ Below w5.heap.size w5 wr) (fun _ i _ => l.length - (Go.RowKit.intOf i).toNat)
          case atStart => exact ⟨0, Nat.zero_le _, rfl, by simpa [wrsF] using hO, B57⟩
          case round =>
            clear hO B7 B57
            obtain ⟨k, hk, rfl, hO, hbr⟩ := hrel
            have Br := Below.thru B5 hbr (Nat.le_refl _)
            have br := Below.thru b5 hbr (Nat.le_refl _)
            have q0 := (ex_cells (k1.keep br)).1
            have lq := cell_lt q0
            obtain ⟨s0, s1, s2, s3, s4, s5, s6⟩ := ev_cells (kE.keep hbr)
            have ls := cell_lt s0
            have hwl := wrsF_len (isW x.lc x.vl) (l.take k) 0
            rw [List.length_take] at hwl
            have hVl : (A0 ++ wrsF (isW x.lc x.vl) (l.take k) 0).length ≤ 2000 := by rw [List.length_append]; omega
            by_cases hlt : k < l.length
            · have hlt' : (k : Int) < (l.length : Int) := by omega
              obtain ⟨yb, yo, ye, t0, t1, t2, t3, t4, t5, t6⟩ := (ev_at (hl.keep Br)).2 k hlt
              simp only [Option.some.injEq, Addr.mk.injEq, and_true] at ye
              obtain ⟨rfl, rfl⟩ := ye
              have hnx := wrsF_next (p := isW x.lc x.vl) (List.getElem?_eq_getElem hlt)
              generalize l[k] = y at *
              have hisw : isW x.lc x.vl y = ((y.kd == 2) && ((y.lc == x.lc) && (y.vl == x.vl))) := rfl
              rw [hisw] at hnx
              clear hisw
              replace hnx : A0 ++ wrsF (isW x.lc x.vl) (l.take (k + 1)) 0 = (A0 ++ wrsF (isW x.lc x.vl) (l.take k) 0) ++ (if ((y.kd == 2) && ((y.lc == x.lc) && (y.vl == x.vl))) = true then [(k : Int)] else []) := by rw [hnx, List.append_assoc]
              generalize A0 ++ wrsF (isW x.lc x.vl) (l.take k) 0 = V at *
              obtain ⟨pV, cV, rfl⟩ := hO.len
              have lt0 := cell_lt t0
              by_cases y1 : y.kd = 2
              · have y1' : (y.kd == 2) = true := by simp [y1]
                rw [y1', Bool.true_and] at hnx
                clear y1
                by_cases y2 : y.lc = x.lc
                · have y2' : (y.lc == x.lc) = true := by simp [y2]
                  rw [y2', Bool.true_and] at hnx
                  clear y2
                  by_cases y3 : y.vl = x.vl
                  · have y3' : (y.vl == x.vl) = true := by simp [y3]
                    rw [y3'] at hnx
                    clear y3
                    have HNX : Hid _ := hnx
                    clear hnx
                    go_wp2
                    refine wp_region_ext (by kernel_rfl) (by kernel_rfl) ?_
                    repeat (go_big_quiet_step (fail))
                    refine wpQuiet_nil ?_
                    rintro _ ⟨rr, rfl⟩
                    have b8 := rr.ok
                    generalize rr.wd = w8 at *
                    have b9 := below_new w8 (.cells #[.int .i64 (k : Int)] 3)
                    have kM : Blk (w8.alloc (.cells #[.int .i64 (k : Int)] 3)) w8.heap.size #[.int .i64 (k : Int)] 3 := Blk.new
                    have B89 := Below.thru b8 b9 (Nat.le_refl _)
                    have hO9 := hO.keep B89
                    have hz9 := B89.size
                    have hzr := hbr.size
                    go_wp2_with (at_builtin; refine wpList_push (R := IntE) (xs := V) (x := (k : Int)) (by rfl) (.tmp 88) (.tmp 90) 24 3 i0 z0 8 (by rfl) Try.underlying24 J1.out J2.out J4.out J5.out J3.out w5.heap.size (.slice pV V.length cV) w8.heap.size (by rfl) (by rfl) hO9 [.int .i64 (k : Int)] (fun _ _ => rfl) (fun _ _ _ _ _ h => h) (fun j u hj => (kM.cell j).trans (by simpa using hj)) (by omega) (by decide) (Nat.le_trans hzr hz9) ?_; intro pa ca wa hOa hga _; have Ba : Below w5.heap.size w5 wa := (Below.thru hbr B89 (Nat.le_refl _)).grown hga (Nat.le_trans hzr hz9) (fun k hk => (hO9.lt k hk).1))
                    go_roundw
                    case rel =>
                      have hOb : Own F0 IntE wa w5.heap.size 3 (.slice pa (V.length + 1) ca) (A0 ++ wrsF (isW x.lc x.vl) (l.take (k + 1)) 0) := by rw [HNX.out]; simpa using hOa
                      first
                        | exact ⟨k + 1, by omega, by go_num, hOb, Ba⟩
                        | ((repeat apply Exists.intro); exact ⟨⟨k + 1, by omega, by go_num, hOb, Ba⟩, rfl⟩)
                    case measure => simp [Go.RowKit.intOf]; omega
                  · have y3' : (y.vl == x.vl) = false := by simp [y3]
                    rw [y3'] at hnx
                    have HNX : Hid _ := hnx
                    clear y3 hnx
                    go_wp2
                    refine wp_region_ext (by kernel_rfl) (by kernel_rfl) ?_
                    repeat (go_big_quiet_step (fail))
                    refine wpQuiet_nil ?_
                    rintro _ ⟨rr, rfl⟩
                    have b8 := rr.ok
                    generalize rr.wd = w8 at *
                    go_wp2
                    go_roundw
                    case rel => exact ⟨k + 1, by omega, by go_num, by rw [HNX.out]; simpa using hO.keep b8, Below.thru hbr b8 (Nat.le_refl _)⟩
                    case measure => simp [Go.RowKit.intOf]; omega
                · have y2' : (y.lc == x.lc) = false := by simp [y2]
                  rw [y2', Bool.false_and] at hnx
                  have HNX : Hid _ := hnx
                  clear y2 hnx
                  go_wp2
                  refine wp_region_ext (by kernel_rfl) (by kernel_rfl) ?_
                  repeat (go_big_quiet_step (fail))
                  refine wpQuiet_nil ?_
                  rintro _ ⟨rr, rfl⟩
                  have b8 := rr.ok
                  generalize rr.wd = w8 at *
                  go_wp2
                  go_roundw
                  case rel => exact ⟨k + 1, by omega, by go_num, by rw [HNX.out]; simpa using hO.keep b8, Below.thru hbr b8 (Nat.le_refl _)⟩
                  case measure => simp [Go.RowKit.intOf]; omega
              · have y1' : (y.kd == 2) = false := by simp [y1]
                rw [y1', Bool.false_and] at hnx
                have HNX : Hid _ := hnx
                clear y1 hnx
                go_wp2
                refine wp_region_ext (by kernel_rfl) (by kernel_rfl) ?_
                repeat (go_big_quiet_step (fail))
                refine wpQuiet_nil ?_
                rintro _ ⟨rr, rfl⟩
                have b8 := rr.ok
                generalize rr.wd = w8 at *
                go_wp2
                go_roundw
                case rel => exact ⟨k + 1, by omega, by go_num, by rw [HNX.out]; simpa using hO.keep b8, Below.thru hbr b8 (Nat.le_refl _)⟩
                case measure => simp [Go.RowKit.intOf]; omega
            · have e : l.take k = l := List.take_of_length_le (by omega)
              rw [e, HME.out] at hO
              clear e
              obtain ⟨pV, cV, rfl⟩ := hO.len
              have hlt' : ¬ (k : Int) < (l.length : Int) := by omega
              go_wp2
              go_ret
              exact ⟨_, rfl, SlA.mono (A := fun b => w5.heap.size ≤ b ∨ F0 b) (fun b hb => by rcases hb with h | h; exact Nat.le_trans h5 h; exact h.elim) hO.sl, Br⟩

      · have hx1 : (x.kd == 1) = false := by simp [hx]
        have hx2 : (x.kd != 1) = true := by simp [hx]
        rw [if_neg (by simp [hx])]
        clear hx
        go_enter Try.func14, Try.ntmps14
        go_wp2_with (clear F1; refine wpList_toldE (w := w1) (by rfl) (.tmp 8) (.tmp 24) (by rfl) x (by rfl) (by rfl) ?_; intro w5 kE b5; simp only [Act.put]; have B5 := Below.thru b1 b5 (Nat.le_refl _); obtain ⟨s0, s1, s2, s3, s4, s5, s6⟩ := ev_cells kE; have lE := kE.lt)
        go_ret
        exact ⟨_, rfl, SlA.nil, B5⟩
end Go.Proofs.Ytgffeihfcmbobaa
