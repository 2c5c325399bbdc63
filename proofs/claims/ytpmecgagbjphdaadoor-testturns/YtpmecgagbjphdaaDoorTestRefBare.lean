/- Contracts of cupolaref02.fence, skips and Bare (of a test that may be). -/
import Derived.Test.YtpmecgagbjphdaaDoorTestBare
namespace Go.Proofs.YtpmecgagbjphdaaDoor
open Go.RowKit

set_option maxHeartbeats 1000000 in
theorem fence_any (x : Ins) (w : World) :
    Calls Tryd.prog 35 #[.agg #[.int .i64 x.op, .int .i64 x.d, .int .i64 x.a, .int .i64 x.b, .int .i64 x.l, .int .i64 x.i]] w fun e w' => e = .returned (.bool (fnB x.op)) ∧ Below w.heap.size w w' := by
  cases h : (x.op == 11)
  all_goals
    go_enter Tryd.func35, Tryd.ntmps35
    go_wp2
    go_ret
    exact ⟨by simp [fnB, h], by go_grown⟩

set_option maxHeartbeats 1000000 in
theorem skips_any (x : Ins) (n : Int) (w : World) :
    Calls Tryd.prog 36 #[.agg #[.int .i64 x.op, .int .i64 x.d, .int .i64 x.a, .int .i64 x.b, .int .i64 x.l, .int .i64 x.i], .int .i64 n] w fun e w' =>
      e = .returned (.agg #[.int .i64 (skipZ x n).op, .int .i64 (skipZ x n).d, .int .i64 (skipZ x n).a, .int .i64 (skipZ x n).b, .int .i64 (skipZ x n).l, .int .i64 (skipZ x n).i]) ∧ Below w.heap.size w w' := by
  cases h : (x.op == 13)
  · cases h' : (x.op == 14)
    · have E : Hid (skipZ x n = x) := by unfold Hid skipZ brB; rw [h, h']; rfl
      rw [E.out]
      go_enter Tryd.func36, Tryd.ntmps36
      go_wp2
      go_returns
      exact ⟨rfl, by go_grown⟩
    · have E : Hid (skipZ x n = { x with i := n }) := by unfold Hid skipZ brB; rw [h, h']; rfl
      rw [E.out]
      go_enter Tryd.func36, Tryd.ntmps36
      go_wp2
      go_returns
      exact ⟨rfl, by go_grown⟩
  · have E : Hid (skipZ x n = { x with i := n }) := by unfold Hid skipZ brB; rw [h]; rfl
    rw [E.out]
    go_enter Tryd.func36, Tryd.ntmps36
    go_wp2
    go_returns
    exact ⟨rfl, by go_grown⟩

theorem lay0_no {x : Ins} {n : Int} (h : fnB x.op = true) : lay0 (skipZ x n) = [] := by unfold lay0; rw [skip_op, h]; rfl
theorem lay0_yes {x : Ins} {n : Int} (h : fnB x.op = false) : lay0 (skipZ x n) = [skipZ x n] := by unfold lay0; rw [skip_op, h]; rfl
theorem take_step {l : List Ins} {k j : Nat} (h : k + j < l.length) : (l.drop k).take (j + 1) = (l.drop k).take j ++ [l[k + j]] := by
  rw [List.take_succ_eq_append_getElem (by rw [List.length_drop]; omega), List.getElem_drop]
theorem laid0_step {l : List Ins} {k j : Nat} {y : Ins} (h : k + j < l.length) (hy : l[k + j] = y) : laid lay0 ((l.drop k).take (j + 1)) = laid lay0 ((l.drop k).take j) + (bif fnB y.op then 0 else 1) := by
  rw [take_step h, laid_append, hy, laid_cons', laid_nil]
  unfold lay0
  cases fnB y.op <;> simp

set_option maxRecDepth 20000 in
set_option maxHeartbeats 8000000 in
theorem refBare_any (pi pt : Option Addr) (ci ct : Nat) (xs : List Int) (ts : List (List Ins)) (w : World) (ht : Sl ThrE w (.slice pt ts.length ct) ts) (hM : ts.length ≤ 1000000) (hin : ∀ l ∈ ts, l.length ≤ 8 ∧ inside l = true) :
    Calls Tryd.prog 18 #[.agg #[.slice pi xs.length ci, .slice pt ts.length ct]] w fun e w' => ∃ qt dt, e = .returned (.agg #[.slice pi xs.length ci, .slice qt (ts.map bareL).length dt]) ∧
      SlA (fun b => w.heap.size ≤ b) ThrE w' (.slice qt (ts.map bareL).length dt) (ts.map bareL) ∧ Below w.heap.size w w' := by
  have HN : Hid _ := hin
  clear hin
  obtain ⟨i0, z0, j1, j2, j3, j4, j5⟩ := info_get info_thr
  have J1 : Hid _ := j1
  have J2 : Hid _ := j2
  have J3 : Hid _ := j3
  have J4 : Hid _ := j4
  have J5 : Hid _ := j5
  clear j1 j2 j3 j4 j5
  obtain ⟨i1, z1, j1, j2, j3, j4, j5⟩ := info_get info_ins
  have L1 : Hid _ := j1
  have L2 : Hid _ := j2
  have L3 : Hid _ := j3
  have L4 : Hid _ := j4
  have L5 : Hid _ := j5
  clear j1 j2 j3 j4 j5
  go_enter Tryd.func18, Tryd.ntmps18
  go_wp2
  go_loopw [4] (fun i wr => ∃ (k : Nat) (a : Value) (out : List (List Ins)), k ≤ ts.length ∧ i = .int .i64 k ∧ Blk wr w.heap.size #[.slice pi xs.length ci, .slice pt ts.length ct] 25 ∧ Blk wr (w.heap.size + 1) #[.slice none 0 0, .slice none 0 0] 25 ∧ Blk wr (w.heap.size + 2) #[.slice pi xs.length ci, a] 25 ∧
    Own (fun b => w.heap.size + 3 ≤ b) ThrE wr (w.heap.size + 3) 37 a out ∧ out ++ (ts.drop k).map bareL = ts.map bareL ∧ out.length = k ∧ Below w.heap.size w wr) (fun i _ => ts.length - (intOf i).toNat)
  case atStart => exact ⟨0, _, [], Nat.zero_le _, rfl, ((Blk.newAt rfl).alloc _).alloc _, (Blk.newAt (by simp)).alloc _, Blk.newAt (by simp), Own.nil, by simp, rfl, by go_grown⟩
  case round =>
    obtain ⟨k, a, out, hk, rfl, hBt, hBr, hBu, hO, hS, hlen, hB⟩ := hrel
    have HS : Hid _ := hS
    have HLen : Hid _ := hlen
    clear hS hlen
    obtain ⟨pa, ca, rfl⟩ := hO.len
    have ht0 := hBt.cell 0
    have ht1 := hBt.cell 1
    have hu0 := hBu.cell 0
    have hu1 := hBu.cell 1
    have hur := hBu.frozen 1
    have hul := hBu.lt
    by_cases hlt : k < ts.length
    · obtain ⟨tb, to, rfl, v, hv, hV⟩ := (thr_at (ht.keep hB)).2 k hlt
      generalize hl : ts[k] = l at hV
      have HL : Hid (ts.drop k = l :: ts.drop (k + 1)) := by rw [← hl]; exact drop_at hlt
      have hNl := HN.out l (by rw [← hl]; exact List.getElem_mem hlt)
      have hl8 := hNl.1
      have HIn : Hid _ := hNl.2
      clear hl hNl
      obtain ⟨pv, cv, rfl⟩ := hV.len
      simp at hu0 hu1 ht0 ht1
      obtain ⟨w1, rfl⟩ : ∃ x : World, x = wr := ⟨_, rfl⟩
      go_wp2
      go_loopw [6, 7] (fun a i w2 => ∃ (j : Nat) (ol : List Ins), j ≤ l.length ∧ i = .int .i64 j ∧ Own (fun _ => False) InsE w2 w1.heap.size 40 a ol ∧ ol.length ≤ j ∧ ol ++ relay lay0 (l.drop j) = relay lay0 l ∧ inside (l.drop j) = true ∧ Below w1.heap.size w1 w2) (fun _ i _ => l.length - (intOf i).toNat)
      case atStart => exact ⟨0, [], Nat.zero_le _, rfl, Own.nil, by simp, by simp, HIn.out, by go_grown⟩
      case round =>
        obtain ⟨j, ol, hj, rfl, hP, hPl, hS2, hI, hB2⟩ := hrel
        have HS2 : Hid _ := hS2
        clear hS2
        obtain ⟨pb, cb, rfl⟩ := hP.len
        obtain ⟨w2, rfl⟩ : ∃ x : World, x = wr := ⟨_, rfl⟩
        by_cases hjl : j < l.length
        · obtain ⟨ub, uo, rfl, e0, e1, e2, e3, e4, e5⟩ := (ins_at (hV.keep hB2)).2 j hjl
          generalize hx : l[j] = x at e0 e1 e2 e3 e4 e5
          have HX : Hid (l.drop j = x :: l.drop (j + 1)) := by rw [← hx]; exact drop_at hjl
          clear hx
          rw [HX.out] at hI
          obtain ⟨hI2, hI3⟩ := inside_cons hI
          have HI2 : Hid _ := hI2
          clear hI hI2
          cases hfn : fnB x.op
          · have HFN : Hid _ := hfn
            clear hfn
            cases hbr : brB x.op
            · have b13 : (x.op == 13) = false := by unfold brB at hbr; cases h : (x.op == 13); rfl; rw [h] at hbr; cases hbr
              have b14 : (x.op == 14) = false := by unfold brB at hbr; cases h : (x.op == 14); rfl; rw [h] at hbr; simp at hbr
              have HBR : Hid _ := hbr
              clear hbr hI3
              by_cases hxi : 0 < x.i
              all_goals
                go_wp2_with (go_at_call 35; refine (fence_any x _).mono ?_; rintro e w3 ⟨rfl, hb3⟩; rw [HFN.out]; obtain ⟨hc, hf⟩ := bcell hb3; have hz : ub < w2.heap.size := cell_lt e0)
                have hB3 := hB2.trans (hb3.mono hB2.size)
                go_loopw [8, 9] (fun n i w4 => n = .int .i64 0 ∧ i = .int .i64 0 ∧ w4 = w3) (fun _ _ _ => 0)
                case atStart => exact ⟨rfl, rfl, rfl⟩
                case round =>
                  obtain ⟨rfl, rfl, rfl⟩ := hrel
                  go_wp2_with (first | (go_at_call 36; refine (skips_any x _ _).mono ?_; rintro e w5 ⟨rfl, hb5⟩; have hB5 := hB3.trans (hb5.mono hB3.size)) | (at_builtin; refine wpList_app (R := InsE) (A := fun _ => False) (B := fun _ => True) (xs := ol) (ys := [(skipZ x 0)]) (by rfl) (.tmp 72) (.tmp 79) 37 40 i1 z1 48 (by rfl) Tryd.underlying37 L1.out L2.out L4.out L5.out L3.out w1.heap.size (.slice pb ol.length cb) (.slice (some ⟨w5.heap.size, 0, none⟩) 1 1) (by rfl) (by rfl) (hP.keep ((hb3.trans (hb5.mono hb3.size)).alloc (by have := hb3.size; have := hb5.size; omega) _)) (ins_one (skipZ x 0) trivial ⟨by simp, by simp, by simp, by simp, by simp, by simp⟩) (fun _ _ _ h => h) (by simp; omega) (by decide) (by have := hB3.size; have := hb5.size; simp; omega) ?_; intro p6 c6 w6 hO6 hg6 _))
                  go_roundw
                  case rel => exact ⟨j + 1, ol ++ [skipZ x 0], by omega, by go_num, by simpa using hO6, by simp; omega, by have := HS2.out; rw [HX.out, relay_cons, lay0_yes HFN.out, skip_no HBR.out] at this; rw [skip_no HBR.out, List.append_assoc]; exact this, HI2.out, (hB5.alloc hB5.size _).grown hg6 (by have := hB5.size; simp; omega) (fun q hq => (hP.lt q hq).1)⟩
                  case measure => simp [intOf]; omega
            · obtain ⟨m, hm⟩ : ∃ m : Nat, x.i = m := ⟨x.i.toNat, by have := hI3 hbr; omega⟩
              have hm1 := hI3 hbr
              rw [hm, List.length_drop] at hm1
              have HM : Hid _ := hm
              rw [hm] at e5
              clear hm hI3
              have b14 : (x.op == 13) = true ∨ ((x.op == 13) = false ∧ (x.op == 14) = true) := by
                unfold brB at hbr
                cases h : (x.op == 13)
                · rw [h] at hbr; exact .inr ⟨rfl, by simpa using hbr⟩
                · exact .inl rfl
              have HBR : Hid _ := hbr
              clear hbr
              rcases b14 with b13 | ⟨b13, b14⟩
              all_goals
                go_wp2_with (go_at_call 35; refine (fence_any { x with i := m } _).mono ?_; rintro e w3 ⟨rfl, hb3⟩; rw [HFN.out]; obtain ⟨hc, hf⟩ := bcell hb3; have hz : ub < w2.heap.size := cell_lt e0)
                have hB3 := hB2.trans (hb3.mono hB2.size)
                go_loopw [8, 9] (fun n i w4 => ∃ q : Nat, q ≤ m ∧ i = .int .i64 q ∧ n = .int .i64 (laid lay0 ((l.drop (j + 1)).take q)) ∧ Below w3.heap.size w3 w4) (fun _ i _ => m - (intOf i).toNat)
                case atStart => exact ⟨0, Nat.zero_le _, rfl, rfl, by go_grown⟩
                case round =>
                  obtain ⟨q, hq, rfl, rfl, hB4⟩ := hrel
                  have hB4' := hB3.trans (hB4.mono hB3.size)
                  obtain ⟨w4, rfl⟩ : ∃ x : World, x = wr := ⟨_, rfl⟩
                  have f0 := cell_keep (cell_keep e0 hb3) hB4
                  have f1 := cell_keep (cell_keep e1 hb3) hB4
                  have f2 := cell_keep (cell_keep e2 hb3) hB4
                  have f3 := cell_keep (cell_keep e3 hb3) hB4
                  have f4 := cell_keep (cell_keep e4 hb3) hB4
                  have f5 := cell_keep (cell_keep e5 hb3) hB4
                  clear hc hf
                  have hn1 := laid_nonneg (lay := lay0) (xs := (l.drop (j + 1)).take q)
                  have hn2 := laid_le lay0_len ((l.drop (j + 1)).take q)
                  rw [List.length_take, List.length_drop] at hn2
                  by_cases hqm : q < m
                  · obtain ⟨ub2, uo2, he2, g0, g1, g2, g3, g4, g5⟩ := (ins_at ((hV.keep hB2).keep (hb3.trans (hB4.mono hb3.size)))).2 (j + 1 + q) (by omega)
                    simp only [Option.some.injEq, Addr.mk.injEq, and_true] at he2
                    obtain ⟨rfl, rfl⟩ := he2
                    have hst := laid0_step (l := l) (k := j + 1) (j := q) (by omega) rfl
                    generalize hy : l[j + 1 + q] = y at g0 g1 g2 g3 g4 g5 hst
                    have HST : Hid _ := hst
                    clear hy hst
                    generalize hnn : laid lay0 ((l.drop (j + 1)).take q) = nn at hn1 hn2
                    have HNN : Hid _ := hnn
                    clear hnn
                    cases hyf : fnB y.op
                    all_goals
                      have HYF : Hid _ := hyf
                      clear hyf
                      go_wp2_with (go_at_call 35; refine (fence_any y _).mono ?_; rintro e w7 ⟨rfl, hb7⟩; rw [HYF.out])
                      go_roundw
                      case rel => exact ⟨q + 1, by omega, by go_num, by rw [HST.out, HNN.out, HYF.out]; first | rfl | (simp; done), hB4.trans (hb7.mono hB4.size)⟩
                      case measure => simp [intOf]; omega
                  · have hqe : q = m := by omega
                    subst hqe
                    generalize hnn : laid lay0 ((l.drop (j + 1)).take q) = nn at hn1 hn2
                    have HNN : Hid _ := hnn
                    clear hnn
                    go_wp2_with (first | (go_at_call 36; refine (skips_any { x with i := q } _ _).mono ?_; rintro e w5 ⟨rfl, hb5⟩; have hB5 := hB4'.trans (hb5.mono hB4'.size)) | (at_builtin; refine wpList_app (R := InsE) (A := fun _ => False) (B := fun _ => True) (xs := ol) (ys := [(skipZ { x with i := q } nn)]) (by rfl) (.tmp 72) (.tmp 79) 37 40 i1 z1 48 (by rfl) Tryd.underlying37 L1.out L2.out L4.out L5.out L3.out w1.heap.size (.slice pb ol.length cb) (.slice (some ⟨w5.heap.size, 0, none⟩) 1 1) (by rfl) (by rfl) (hP.keep (((hb3.trans (hB4.mono hb3.size)).trans (hb5.mono (hb3.trans (hB4.mono hb3.size)).size)).alloc (by have := hb3.size; have := hB4.size; have := hb5.size; omega) _)) (ins_one (skipZ { x with i := q } nn) trivial ⟨by simp, by simp, by simp, by simp, by simp, by simp⟩) (fun _ _ _ h => h) (by simp; omega) (by decide) (by have := hB4'.size; have := hb5.size; simp; omega) ?_; intro p6 c6 w6 hO6 hg6 _))
                    go_roundw
                    case rel => exact ⟨j + 1, ol ++ [skipZ { x with i := q } nn], by omega, by go_num, by simpa using hO6, by simp; omega, by
                      have := HS2.out
                      rw [HX.out, relay_cons, lay0_yes HFN.out, HM.out, Int.toNat_natCast, HNN.out, skip_yes HBR.out] at this
                      rw [skip_yes (by exact HBR.out), List.append_assoc]
                      exact this, HI2.out, (hB5.alloc hB5.size _).grown hg6 (by have := hB5.size; simp; omega) (fun q hq => (hP.lt q hq).1)⟩
                    case measure => simp [intOf]; omega
          · have HFN : Hid _ := hfn
            clear hfn
            go_wp2_with (go_at_call 35; refine (fence_any x _).mono ?_; rintro e w3 ⟨rfl, hb3⟩; rw [HFN.out])
            go_roundw
            case rel => exact ⟨j + 1, ol, by omega, by go_num, by simpa using hP.keep hb3, by omega, by have := HS2.out; rw [HX.out, relay_cons, lay0_no HFN.out] at this; exact this, HI2.out, hB2.trans (hb3.mono hB2.size)⟩
            case measure => simp [intOf]; omega
        · have e : ol = bareL l := by have := HS2.out; rw [List.drop_of_length_le (by omega)] at this; simpa [relay, bareL] using this
          subst e
          have hcu := (hBu.keep hB2).cell 1
          have hcr := (hBu.keep hB2).frozen 1
          simp at hcu hcr
          have hown := fun q (hq : (Value.slice pa out.length ca).ownBlock = some q) => (hO.lt q hq)
          have hOl : out.length ≤ 1000000 := by have := HLen.out; omega
          have hsrc : SlA (fun b => w1.heap.size ≤ b) ThrE (w2.alloc (.cells #[.slice pb (bareL l).length cb] 37)) (.slice (some ⟨w2.heap.size, 0, none⟩) 1 1) [bareL l] :=
            sl_one hB2.size (by simp) (hP.sl'.keep ((Below.refl _ _).alloc (Nat.le_refl _) _)) (Nat.le_refl _)
          have hB5 := hB2.alloc hB2.size (.cells #[.slice pb (bareL l).length cb] 37)
          go_wp2_with (at_builtin; refine wpList_app (R := ThrE) (A := fun b => w.heap.size + 3 ≤ b) (xs := out) (ys := [bareL l]) (by rfl) (.tmp 82) (.tmp 84) 23 37 i0 z0 24 (by rfl) Tryd.underlying23 J1.out J2.out J4.out J5.out J3.out (w.heap.size + 3) (.slice pa out.length ca) (.slice (some ⟨w2.heap.size, 0, none⟩) 1 1) (by rfl) (by rfl) (hO.keep hB5) hsrc (fun y _ c hc => ThrE.mono (fun b hb => ⟨by omega, fun e => by have := hown b e.symm; omega⟩) hc) (by simp; omega) (by decide) (by have := hB5.size; omega) ?_; intro p6 c6 w6 hO6 hg6 hat6; have hB6u : Blk w6 (w.heap.size + 2) #[.slice pi xs.length ci, .slice pa out.length ca] 25 := (hBu.keep hB5).grown hg6 (fun e => by have := hown _ e.symm; omega); have hu61 := hB6u.cell 1; have hu6r := hB6u.frozen 1; simp at hu61 hu6r)
          have hB6r : Blk w6 (w.heap.size + 1) #[.slice none 0 0, .slice none 0 0] 25 := (hBr.keep hB5).grown hg6 (fun e => by have := hown _ e.symm; omega)
          have hB6t : Blk w6 w.heap.size #[.slice pi xs.length ci, .slice (some ⟨tb, to, none⟩) ts.length ct] 25 := (hBt.keep hB5).grown hg6 (fun e => by have := hown _ e.symm; omega)
          go_roundw
          case rel => exact ⟨k + 1, .slice p6 (out ++ [bareL l]).length c6, out ++ [bareL l], by omega, by go_num, hB6t.grown (grownBy_set _ _ _) (by simp; omega), hB6r.grown (grownBy_set _ _ _) (by simp), by simpa using hB6u.set (i := 1) (.slice p6 (out ++ [bareL l]).length c6),
            by simpa using hO6.agree (grownBy_set _ ⟨w.heap.size + 2, 1, none⟩ (.slice p6 (out ++ [bareL l]).length c6)) (fun q hq => by simp at hq; subst hq; exact ⟨by omega, fun e => by have := (hO6.lt _ e).1; omega⟩), by rw [HL.out] at HS; rw [List.append_assoc]; exact HS.out, by simp [HLen.out],
            ((hB.trans (hB5.mono hB.size)).grown hg6 (by have := hB5.size; have := hB.size; omega) (fun q hq => by have := (hown q hq).1; omega)).setCell (by simp; omega) _⟩
          case measure => simp [intOf]; omega
    · have hr0 := hBr.cell 0
      have hr1 := hBr.cell 1
      have hrf0 := hBr.frozen 0
      have hrf1 := hBr.frozen 1
      have hrl := hBr.lt
      simp at hu0 hu1 hr0 hr1 ht0 ht1
      have e : out = ts.map bareL := by have := HS.out; rw [List.drop_of_length_le (by omega)] at this; simpa using this
      have HE : Hid _ := e
      clear e
      go_wp2
      have hBf := ((hB.setCell (p := ⟨w.heap.size + 1, 0, none⟩) (by simp) (.slice pi xs.length ci)).setCell (p := ⟨w.heap.size + 1, 1, none⟩) (by simp) (.slice pa out.length ca))
      have g1 := grownBy_set wr ⟨w.heap.size + 1, 0, none⟩ (.slice pi xs.length ci)
      have g2 := grownBy_set (wr.setCell ⟨w.heap.size + 1, 0, none⟩ (.slice pi xs.length ci)) ⟨w.heap.size + 1, 1, none⟩ (.slice pa out.length ca)
      have hOf := (hO.agree g1 (fun q hq => by simp at hq; subst hq; exact ⟨by omega, fun e => by have := (hO.lt _ e).1; omega⟩))
      have hOg := (hOf.agree g2 (fun q hq => by simp at hq; subst hq; exact ⟨by omega, fun e => by have := (hO.lt _ e).1; omega⟩))
      have hOs := SlA.mono (B := fun b => w.heap.size ≤ b) (fun b hb => by rcases hb with hb | hb <;> omega) hOg.sl
      have hBb := (hBr.set (i := 0) (.slice pi xs.length ci)).set (i := 1) (.slice pa out.length ca)
      have hb0 := hBb.cell 0
      have hb1 := hBb.cell 1
      simp at hb0 hb1
      clear hr0 hr1 hu0 hu1
      generalize hwf : (wr.setCell ⟨w.heap.size + 1, 0, none⟩ (.slice pi xs.length ci)).setCell ⟨w.heap.size + 1, 1, none⟩ (.slice pa out.length ca) = wf at *
      have hel : out.length = (ts.map bareL).length := by rw [HE.out]
      rw [HE.out] at hOs
      exact bodyPost_ret (v := .agg #[.slice pi xs.length ci, .slice pa out.length ca]) (by simp [results, Tryd.results18, go_sem, hb0, hb1]) rfl ⟨pa, ca, by rw [hel], hOs, hBf⟩
end Go.Proofs.YtpmecgagbjphdaaDoor
