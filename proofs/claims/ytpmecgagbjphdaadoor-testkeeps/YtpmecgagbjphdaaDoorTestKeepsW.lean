/- TestKeeps: for every test the law answers true. -/
import Derived.Test.YtpmecgagbjphdaaDoorTestTurnsW
import Derived.Test.YtpmecgagbjphdaaDoorTestAcc
namespace Go.Proofs.YtpmecgagbjphdaaDoor
open Go.RowKit Classical

set_option maxRecDepth 20000 in
set_option maxHeartbeats 4000000 in
theorem TestKeeps_true (pi pt : Option Addr) (ci ct : Nat) (xs : List Int) (ts : List (List Ins)) (w : World) (T : Tab w) (hi : Sl IntE w (.slice pi xs.length ci) xs) (ht : Sl ThrE w (.slice pt ts.length ct) ts) :
    Calls Tryd.prog 5 #[.agg #[.slice pi xs.length ci, .slice pt ts.length ct]] w fun e w' => e = .returned (.bool true) ∧ Below w.heap.size w w' := by
  have hb1 := ((Below.refl w.heap.size w).alloc (Nat.le_refl _) (.cells #[.slice pi xs.length ci, .slice pt ts.length ct] 25))
  have hK : Blk (w.alloc (.cells #[.slice pi xs.length ci, .slice pt ts.length ct] 25)) w.heap.size #[.slice pi xs.length ci, .slice pt ts.length ct] 25 := Blk.new
  go_enter Tryd.func5, Tryd.ntmps5
  go_wp2_with fail
  refine (shown2_any _ (T.below hb1)).mono ?_
  rintro e w1 ⟨rfl, hb1'⟩
  have hB1 := hb1.trans (hb1'.mono hb1.size)
  have hK1 := hK.keep hb1'
  have k0 := hK1.cell 0
  have k1 := hK1.cell 1
  simp at k0 k1
  go_wp2_with fail
  refine (Few_any _ _ _ _ xs ts _ (ht.keep hB1)).mono ?_
  rintro e w2 ⟨rfl, hb2⟩
  have hB2 := hB1.trans (hb2.mono hB1.size)
  have hK2 := hK1.keep hb2
  cases hfew : fewB xs ts
  · go_wp2
    go_ret
    exact ⟨rfl, hB2⟩
  · have hS : sizeTs ts ≤ 400 := size_few' hfew
    have hT : ts.length ≤ 10 := (few_parts hfew).2.1
    have hX : xs.length ≤ 10 := (few_parts hfew).1
    have HFew : Hid _ := (few_parts hfew).2.2
    clear hfew k0 k1
    have k0 := hK2.cell 0
    have k1 := hK2.cell 1
    have kl := hK2.lt
    simp at k0 k1
    go_wp2_with fail
    refine (Check_any _ _ _ _ xs ts _ (T.below hB2) (hi.keep hB2) (ht.keep hB2) (by omega)).mono ?_
    rintro e w3 ⟨rfl, hb3⟩
    have hB3 := hB2.trans (hb3.mono hB2.size)
    have hK3 := hK2.keep hb3
    clear k0 k1 kl
    have k0 := hK3.cell 0
    have k1 := hK3.cell 1
    have kl := hK3.lt
    simp at k0 k1
    by_cases hok : (checkZ xs ts).2.2 ≠ 0
    · have hok' : ((checkZ xs ts).2.2 != 0) = true := by simpa using hok
      generalize (checkZ xs ts).2.2 = c3 at hok' ⊢
      go_wp2
      go_ret
      exact ⟨rfl, hB3⟩
    · replace hok : (checkZ xs ts).2.2 = 0 := Decidable.not_not.1 hok
      have HOK : Hid _ := hok
      generalize (checkZ xs ts).1 = c1
      generalize (checkZ xs ts).2.1 = c2
      rw [hok]
      have eBT : bareT xs ts = ts.map bareL := by unfold bareT; rw [if_pos hok]
      have eFT : fencedT xs ts = ts.map fencedL := by unfold fencedT; rw [if_pos hok]
      have EBT : Hid _ := eBT
      have EFT : Hid _ := eFT
      have HIN : Hid _ := check_inside hok
      clear hok eBT eFT
      have hbl : (ts.map bareL).length = ts.length := by simp
      have hfl : (ts.map fencedL).length = ts.length := by simp
      have C := Bare_any _ _ _ _ xs ts _ (T.below hB3) (hi.keep hB3) (ht.keep hB3) (by omega) (by omega) (by omega)
      rw [EBT.out] at C
      have C2 := fun (w : World) (T : Tab w) (hi : Sl IntE w (.slice pi xs.length ci) xs) (ht : Sl ThrE w (.slice pt ts.length ct) ts) => Fenced_any _ _ _ _ xs ts _ T hi ht (by omega) (by omega) (by omega)
      rw [EFT.out] at C2
      generalize hbs : ts.map bareL = bs at *
      generalize hfs : ts.map fencedL = fs at *
      have HBS : Hid _ := hbs
      have HFS : Hid _ := hfs
      have HBL : Hid _ := hbl
      have HFL : Hid _ := hfl
      have HC2 : Hid _ := C2
      clear hbs hfs hbl hfl C2
      go_wp2_with fail
      refine C.mono ?_
      clear C
      rintro e w4 ⟨qi, di, qt, dt, rfl, s1, s2, hb4⟩
      have hB4 := hB3.trans (hb4.mono hB3.size)
      have hK4 := hK3.keep hb4
      clear k0 k1 kl
      have k0 := hK4.cell 0
      have k1 := hK4.cell 1
      have kl := hK4.lt
      simp at k0 k1
      go_wp2_with fail
      have hbA : Below w4.heap.size w4 (w4.alloc (.cells #[.slice qi xs.length di, .slice qt bs.length dt] 25)) := (Below.refl _ _).alloc (Nat.le_refl _) _
      have hKa : Blk (w4.alloc (.cells #[.slice qi xs.length di, .slice qt bs.length dt] 25)) w4.heap.size #[.slice qi xs.length di, .slice qt bs.length dt] 25 := Blk.new
      generalize hw5 : w4.alloc (.cells #[.slice qi xs.length di, .slice qt bs.length dt] 25) = w5 at hbA hKa ⊢
      generalize hn4 : w4.heap.size = n4 at hKa ⊢
      clear hw5 hn4 k0 k1 kl
      have hB5 := hB4.trans (hbA.mono hB4.size)
      have hK5 := hK4.keep hbA
      have C := HC2.out _ (T.below hB5) (hi.keep hB5) (ht.keep hB5)
      refine C.mono ?_
      clear C
      rintro e w6 ⟨ri, ei, rt, et, rfl, u1, u2, hb6⟩
      have hB6 := hB5.trans (hb6.mono hB5.size)
      have hK6 := hK5.keep hb6
      have hKa6 := hKa.keep hb6
      have hbC : Below w6.heap.size w6 (w6.alloc (.cells #[.slice ri xs.length ei, .slice rt fs.length et] 25)) := (Below.refl _ _).alloc (Nat.le_refl _) _
      have hKb : Blk (w6.alloc (.cells #[.slice ri xs.length ei, .slice rt fs.length et] 25)) w6.heap.size #[.slice ri xs.length ei, .slice rt fs.length et] 25 := Blk.new
      have m1 : ((bs.length : Int) != (ts.length : Int)) = false := by rw [HBL.out]; simp
      have m2 : ((fs.length : Int) != (ts.length : Int)) = false := by rw [HFL.out]; simp
      have hK7 := hK6.keep hbC
      have hKa7 := hKa6.keep hbC
      have k1 := hK7.cell 1
      have k3 := hKa7.cell 1
      have k5 := hKb.cell 1
      simp only [List.getElem?_toArray, List.getElem?_cons_zero, List.getElem?_cons_succ] at k1 k3 k5
      have kk := hK6.lt
      have kk2 := hKa6.lt
      have y1 := hK6.cell 1
      have y3 := hKa6.cell 1
      simp only [List.getElem?_toArray, List.getElem?_cons_zero, List.getElem?_cons_succ] at y1 y3
      go_wp2
      have A1 : Sl ThrE (w6.alloc (.cells #[.slice ri xs.length ei, .slice rt fs.length et] 25)) (.slice pt ts.length ct) ts := (ht.keep hB6).keep hbC
      have A2 : Sl ThrE (w6.alloc (.cells #[.slice ri xs.length ei, .slice rt fs.length et] 25)) (.slice qt bs.length dt) bs := ((s2.any.keep hbA).keep hb6).keep hbC
      have A3 : Sl ThrE (w6.alloc (.cells #[.slice ri xs.length ei, .slice rt fs.length et] 25)) (.slice rt fs.length et) fs := u2.any.keep hbC
      have hB7 := hB6.trans (hbC.mono hB6.size)
      generalize hw7 : w6.alloc (.cells #[.slice ri xs.length ei, .slice rt fs.length et] 25) = w7 at *
      generalize hn6 : w6.heap.size = n6 at *
      clear hw7 hn6 k1 k3 k5 kk kk2 y1 y3
      go_loopw [9] (fun i wr => ∃ k : Nat, k ≤ ts.length ∧ i = .int .i64 k ∧ Below w7.heap.size w7 wr) (fun i _ => ts.length - (intOf i).toNat)
      case atStart => exact ⟨0, Nat.zero_le _, rfl, Below.refl _ _⟩
      case round =>
        obtain ⟨k, hk, rfl, hB⟩ := hrel
        obtain ⟨w8, rfl⟩ : ∃ x : World, x = wr := ⟨_, rfl⟩
        have hT8 := hK7.keep hB
        have hA8 := hKa7.keep hB
        have hF8 := hKb.keep hB
        have k1 := hT8.cell 1
        simp only [List.getElem?_toArray, List.getElem?_cons_zero, List.getElem?_cons_succ] at k1
        have hBw := hB7.trans (hB.mono hB7.size)
        by_cases hlt : k < ts.length
        · obtain ⟨tb, to, rfl, v, hv, hV⟩ := (thr_at (A1.keep hB)).2 k hlt
          obtain ⟨ab, ao, rfl, va, hva, hVa⟩ := (thr_at (A2.keep hB)).2 k (by rw [HBL.out]; exact hlt)
          obtain ⟨fb, fo, rfl, vf, hvf, hVf⟩ := (thr_at (A3.keep hB)).2 k (by rw [HFL.out]; exact hlt)
          have hkb : (k : Int) < (bs.length : Int) := by have := HBL.out; omega
          have hkf : (k : Int) < (fs.length : Int) := by have := HFL.out; omega
          have hbk : bs[k]'(by rw [HBL.out]; exact hlt) = bareL ts[k] := by simp only [← HBS.out, List.getElem_map]
          have hfk : fs[k]'(by rw [HFL.out]; exact hlt) = fencedL ts[k] := by simp only [← HFS.out, List.getElem_map]
          rw [hbk] at hVa
          rw [hfk] at hVf
          have hl40 := HFew.out ts[k] (List.getElem_mem hlt)
          generalize ts[k] = l at hV hVa hVf hl40
          clear hbk hfk
          obtain ⟨bl, hVa', hbl2, hA1, hNF⟩ : ∃ bl : List Ins, SlA (fun _ => True) InsE w8 va bl ∧ bl.length ≤ l.length ∧ accL bl = accL l ∧ ∀ x ∈ bl, fnB x.op = false := ⟨bareL l, hVa, bareL_len l, acc_bare l, bare_nofence l⟩
          obtain ⟨fl, hVf', hfl2, hA2, hAh⟩ : ∃ fl : List Ins, SlA (fun _ => True) InsE w8 vf fl ∧ fl.length ≤ 2 * l.length ∧ accL fl = accL l ∧ ∀ (q : Nat) (hq : q < fl.length), kindZ fl[q].op ≠ 0 → ∃ h : 0 < q, (fl[q - 1]'(by omega)).op = 11 := ⟨fencedL l, hVf, fencedL_len l, acc_fenced l, fun q hq => fenced_ahead hq⟩
          have HA1 : Hid _ := hA1
          have HA2 : Hid _ := hA2
          have HNF : Hid _ := hNF
          have HAh : Hid _ := hAh
          clear hVa hVf hA1 hA2 hNF hAh
          have hVa := hVa'
          have hVf := hVf'
          clear hVa' hVf'
          have hal := accL_len l
          generalize hac : accL l = ac at *
          have HAC : Hid _ := hac
          clear hac
          obtain ⟨pv, cv, rfl⟩ := hV.len
          obtain ⟨pva, cva, rfl⟩ := hVa.len
          obtain ⟨pvf, cvf, rfl⟩ := hVf.len
          have C := accesses_any _ _ l _ hV (by omega)
          rw [HAC.out] at C
          go_wp2_with fail
          refine C.mono ?_
          clear C k1
          rintro e w9 ⟨p9, c9, rfl, s9, hb9⟩
          have hA9 := hA8.keep hb9
          have k3 := hA9.cell 1
          have k3l := hA9.lt
          simp only [List.getElem?_toArray, List.getElem?_cons_zero, List.getElem?_cons_succ] at k3
          have hva9 := cell_keep hva hb9
          have hval := cell_lt hva9
          have hbG : Below w9.heap.size w9 (w9.alloc (.cells #[.slice p9 ac.length c9] 37)) := (Below.refl _ _).alloc (Nat.le_refl _) _
          have hKx : Blk (w9.alloc (.cells #[.slice p9 ac.length c9] 37)) w9.heap.size #[.slice p9 ac.length c9] 37 := Blk.new
          have hB10 : Below w8.heap.size w8 (w9.alloc (.cells #[.slice p9 ac.length c9] 37)) := hb9.trans (hbG.mono hb9.size)
          have X10 : Sl ThrE (w9.alloc (.cells #[.slice p9 ac.length c9] 37)) (.slice (some ⟨w9.heap.size, 0, none⟩) 1 1) [ac] := sl_one trivial (hKx.cell 0) (s9.any.keep hbG) (Nat.le_refl _)
          go_wp2_with fail
          generalize hw10 : w9.alloc (.cells #[.slice p9 ac.length c9] 37) = w10 at *
          generalize hn9 : w9.heap.size = n9 at *
          clear hw10 hn9 k3 hva9 k3l hval
          have C := accesses_any _ _ bl _ (hVa.keep hB10) (by omega)
          rw [HA1.out] at C
          refine C.mono ?_
          clear C
          rintro e w11 ⟨p11, c11, rfl, s11, hb11⟩
          have hB11 := hB10.trans (hb11.mono hB10.size)
          have hbH : Below w11.heap.size w11 (w11.alloc (.cells #[.slice p11 ac.length c11] 37)) := (Below.refl _ _).alloc (Nat.le_refl _) _
          have hKy : Blk (w11.alloc (.cells #[.slice p11 ac.length c11] 37)) w11.heap.size #[.slice p11 ac.length c11] 37 := Blk.new
          have hB12 : Below w8.heap.size w8 (w11.alloc (.cells #[.slice p11 ac.length c11] 37)) := hB11.trans (hbH.mono hB11.size)
          have X12 : Sl ThrE (w11.alloc (.cells #[.slice p11 ac.length c11] 37)) (.slice (some ⟨w11.heap.size, 0, none⟩) 1 1) [ac] := sl_one trivial (hKy.cell 0) (s11.any.keep hbH) (Nat.le_refl _)
          have X10' := (X10.keep hb11).keep hbH
          go_wp2_with fail
          generalize hw12 : w11.alloc (.cells #[.slice p11 ac.length c11] 37) = w12 at *
          generalize hn11 : w11.heap.size = n11 at *
          clear hw12 hn11
          refine (Same_any none (some ⟨n9, 0, none⟩) none (some ⟨n11, 0, none⟩) 0 1 0 1 [] [] [ac] [ac] w12 SlA.nil SlA.nil X10' X12 (by decide) (by simp) (by intro m hm; simp at hm; rw [hm]; omega)).mono ?_
          rintro e w13 ⟨rfl, hb13⟩
          simp only [decide_true, Bool.and_self]
          have hB13 := hB12.trans (hb13.mono hB12.size)
          have hF13 := hF8.keep hB13
          have k5 := hF13.cell 1
          simp only [List.getElem?_toArray, List.getElem?_cons_zero, List.getElem?_cons_succ] at k5
          have hvf13 := cell_keep hvf hB13
          go_wp2_with fail
          clear k5 hvf13
          have C := accesses_any _ _ fl _ (hVf.keep hB13) (by omega)
          rw [HA2.out] at C
          refine C.mono ?_
          clear C
          rintro e w14 ⟨p14, c14, rfl, s14, hb14⟩
          have hB14 := hB13.trans (hb14.mono hB13.size)
          have hbI : Below w14.heap.size w14 (w14.alloc (.cells #[.slice p14 ac.length c14] 37)) := (Below.refl _ _).alloc (Nat.le_refl _) _
          have hKz : Blk (w14.alloc (.cells #[.slice p14 ac.length c14] 37)) w14.heap.size #[.slice p14 ac.length c14] 37 := Blk.new
          have hB15 : Below w8.heap.size w8 (w14.alloc (.cells #[.slice p14 ac.length c14] 37)) := hB14.trans (hbI.mono hB14.size)
          have X15 : Sl ThrE (w14.alloc (.cells #[.slice p14 ac.length c14] 37)) (.slice (some ⟨w14.heap.size, 0, none⟩) 1 1) [ac] := sl_one trivial (hKz.cell 0) (s14.any.keep hbI) (Nat.le_refl _)
          have X10'' := ((X10'.keep hb13).keep hb14).keep hbI
          go_wp2_with fail
          generalize hw15 : w14.alloc (.cells #[.slice p14 ac.length c14] 37) = w15 at *
          generalize hn14 : w14.heap.size = n14 at *
          clear hw15 hn14
          refine (Same_any none (some ⟨n9, 0, none⟩) none (some ⟨n14, 0, none⟩) 0 1 0 1 [] [] [ac] [ac] w15 SlA.nil SlA.nil X10'' X15 (by decide) (by simp) (by intro m hm; simp at hm; rw [hm]; omega)).mono ?_
          rintro e w16 ⟨rfl, hb16⟩
          simp only [decide_true, Bool.and_self]
          have hB16 := hB15.trans (hb16.mono hB15.size)
          have hA16 := hA8.keep hB16
          have k3 := hA16.cell 1
          simp only [List.getElem?_toArray, List.getElem?_cons_zero, List.getElem?_cons_succ] at k3
          have hva16 := cell_keep hva hB16
          have hVa16 := hVa.keep hB16
          go_wp2
          go_loop [11] (fun i => ∃ j : Nat, j ≤ bl.length ∧ i = .int .i64 j) (fun i => bl.length - (intOf i).toNat)
          case atStart => exact ⟨0, Nat.zero_le _, rfl⟩
          case round =>
            obtain ⟨j, hj, rfl⟩ := hrel
            by_cases hjl : j < bl.length
            · obtain ⟨xb, xo, rfl, e0, _⟩ := (ins_at hVa16).2 j hjl
              have hnf := HNF.out bl[j] (List.getElem_mem hjl)
              generalize bl[j] = x at e0 hnf
              have n11 : (x.op == 11) = false := by unfold fnB at hnf; cases h : (x.op == 11); rfl; rw [h] at hnf; cases hnf
              have n12 : (x.op == 12) = false := by unfold fnB at hnf; cases h : (x.op == 12); rfl; rw [h] at hnf; simp at hnf
              go_wp2
              go_round
              case rel => exact ⟨j + 1, by omega, by go_num⟩
              case measure => simp [intOf]; omega
            · clear k3 hva16
              have hF16 := hF8.keep hB16
              have k5 := hF16.cell 1
              have hvf16 := cell_keep hvf hB16
              have hk3 := hA16.cell 1
              have hva16 := cell_keep hva hB16
              simp only [List.getElem?_toArray, List.getElem?_cons_zero, List.getElem?_cons_succ] at k5 hk3
              go_wp2
              clear k5 hvf16 hk3 hva16
              go_loopw [12] (fun i wr => ∃ q : Nat, q ≤ fl.length ∧ i = .int .i64 q ∧ Below w16.heap.size w16 wr) (fun i _ => fl.length - (intOf i).toNat)
              case atStart => exact ⟨0, Nat.zero_le _, rfl, Below.refl _ _⟩
              case round =>
                obtain ⟨q, hq, rfl, hB17⟩ := hrel
                have hB17' := hB16.trans (hB17.mono hB16.size)
                have hF17 := hF8.keep hB17'
                have k5 := hF17.cell 1
                have k5l := hF17.lt
                have hvf17 := cell_keep hvf hB17'
                have hvfl := cell_lt hvf17
                simp only [List.getElem?_toArray, List.getElem?_cons_zero, List.getElem?_cons_succ] at k5
                by_cases hql : q < fl.length
                · obtain ⟨xb, xo, rfl, e0, e1, e2, e3, e4, e5⟩ := (ins_at (hVf.keep hB17')).2 q hql
                  have hxl := cell_lt e0
                  have hah := HAh.out q hql
                  generalize hx : fl[q] = x at e0 e1 e2 e3 e4 e5 hah
                  clear hx
                  by_cases hk0 : kindZ x.op = 0
                  · have HK : Hid _ := hk0
                    clear hk0 hah
                    go_wp2_with (go_at_call 21; refine (refKind_any _ _ _ _ _ _ _).mono ?_; rintro e w18 ⟨rfl, hb18⟩; rw [HK.out])
                    go_roundw
                    case rel => exact ⟨q + 1, by omega, by go_num, hB17.trans (hb18.mono hB17.size)⟩
                    case measure => simp [intOf]; omega
                  · obtain ⟨hk1, hk2⟩ := kind_pos hk0
                    obtain ⟨hq0, hq1⟩ := hah hk0
                    obtain ⟨m, rfl⟩ : ∃ m, q = m + 1 := ⟨q - 1, by omega⟩
                    obtain ⟨xb2, xo2, he2, f0, _⟩ := (ins_at (hVf.keep hB17')).2 m (by omega)
                    simp only [Option.some.injEq, Addr.mk.injEq, and_true] at he2
                    obtain ⟨rfl, rfl⟩ := he2
                    have hq2 : (fl[m]'(by omega)).op = 11 := hq1
                    rw [hq2] at f0
                    clear hk0 hah hq1 hq2
                    go_wp2_with fail
                    refine (refKind_any _ _ _ _ _ _ _).mono ?_
                    rintro e w18 ⟨rfl, hb18⟩
                    obtain ⟨hc18, hf18⟩ := bcell hb18
                    go_wp2
                    go_roundw
                    case rel => exact ⟨m + 1 + 1, by omega, by go_num, hB17.trans (hb18.mono hB17.size)⟩
                    case measure => simp [intOf]; omega
                · go_wp2
                  go_roundw
                  case rel => exact ⟨k + 1, by omega, by go_num, hB.trans (hB17'.mono hB.size)⟩
                  case measure => simp [intOf]; omega
        · go_wp2
          go_ret
          exact ⟨rfl, hBw⟩
end Go.Proofs.YtpmecgagbjphdaaDoor
