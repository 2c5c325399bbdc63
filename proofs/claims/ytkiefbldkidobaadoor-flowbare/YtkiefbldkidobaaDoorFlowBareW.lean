/- FlowBare, walked: it answers true. -/
import Derived.Test.YtkiefbldkidobaaDoorFlowTold
import Derived.Test.YtkiefbldkidobaaDoorFlowRunsW
namespace Go.Proofs.YtkiefbldkidobaaDoor
open Go.RowKit
attribute [local go_sem] Ext.cell Ext.frozen

theorem four_same10 (a b c d : Int) (w : World) : (Op.equalIn 10000 30 (.agg #[.int .i64 a, .int .i64 b, .int .i64 c, .int .i64 d]) (.agg #[.int .i64 a, .int .i64 b, .int .i64 c, .int .i64 d])).run Tryd.prog w = .ok true w := four_same 9998 a b c d w
attribute [local go_sem] four_same10
theorem info_ins8 : ((Tryd.prog.info? 51).map fun i => (i.zero.map (·.cells.size), i.size, i.bytes)) = some (some 6, 6, 48) := by kernel_rfl
theorem filt_next {α : Type} {l : List α} {k : Nat} {x : α} (h : l[k]? = some x) (p : α → Bool) : (l.take (k + 1)).filter p = (l.take k).filter p ++ (if p x = true then [x] else []) := by
  rw [List.take_add_one, h, List.filter_append]
  congr 1
  by_cases hp : p x = true
  · rw [if_pos hp]; simp [hp]
  · rw [if_neg hp]; simp [hp]

set_option maxRecDepth 20000 in
set_option maxHeartbeats 8000000 in
theorem FlowBare_true (p pv pl : Option Addr) (c cv cl : Nat) (th : List Ins) (vals : List Int) (lucks : List Bool) (w : World) (T : FEnv w) (ht : Sl InsE w (.slice p th.length c) th) (hv : Sl IntE w (.slice pv vals.length cv) vals) (hl : Sl BoolE w (.slice pl lucks.length cl) lucks) :
    Calls Tryd.prog 7 #[.slice p th.length c, .slice pv vals.length cv, .slice pl lucks.length cl] w fun e w' => e = .returned (.bool true) ∧ Below w.heap.size w w' := by
  have hne : ∀ w, Nonempty (Ext w) := ext_some
  by_cases hn : th.length ≤ 8 ∧ vals.length ≤ 40 ∧ lucks.length ≤ 40
  · obtain ⟨n1, n2, n3⟩ := hn
    have n1' : (th.length : Int) ≤ 8 := by omega
    have n2' : (vals.length : Int) ≤ 40 := by omega
    have n3' : (lucks.length : Int) ≤ 40 := by omega
    have HMay : Hid _ := fun W (hb : Below w.heap.size w W) => refMayT_any p c th 2 W (ht.keep hb)
    obtain ⟨i0, z0, j1, j2, j3, j4, j5⟩ := infoGet info_ins8
    have J1 : Hid _ := j1
    have J2 : Hid _ := j2
    have J3 : Hid _ := j3
    have J4 : Hid _ := j4
    have J5 : Hid _ := j5
    clear j1 j2 j3 j4 j5
    obtain ⟨i1, z1, j1, j2, j3, j4, j5⟩ := infoGet infoEv
    have K1 : Hid _ := j1
    have K2 : Hid _ := j2
    have K3 : Hid _ := j3
    have K4 : Hid _ := j4
    have K5 : Hid _ := j5
    clear j1 j2 j3 j4 j5
    go_enter Tryd.func7, Tryd.ntmps7
    go_wp2_with (go_at_call 9; refine (shown8_any _ T).mono ?_; rintro e w1 ⟨rfl, hb1⟩)
    go_loopw [8, 9] (fun a i wr => ∃ (k : Nat) (out : List Ins), k ≤ th.length ∧ i = .int .i64 k ∧ Own F0 InsE wr w1.heap.size 51 a out ∧ (th.take k).filter barB = out ∧ (th.take k).all nobB = true ∧ out.length ≤ k ∧ Below w1.heap.size w1 wr) (fun _ i _ => th.length - (intOf i).toNat)
    case atStart => exact ⟨0, [], Nat.zero_le _, rfl, Own.nil, rfl, rfl, Nat.le_refl _, by go_grown⟩
    case round =>
      obtain ⟨k, out, hk, rfl, hO, hF, hall, hlo, hB⟩ := hrel
      have HF : Hid _ := hF
      have HK : Hid _ := hall
      clear hF hall
      have Bw := Below.thru hb1 hB (Nat.le_refl _)
      obtain ⟨qa, ca, rfl⟩ := hO.len
      by_cases hlt : k < th.length
      · obtain ⟨ub, uo, rfl, e0, e1, e2, e3, e4, e5⟩ := (ins_at (ht.keep Bw)).2 k hlt
        have hat : th[k]? = some th[k] := List.getElem?_eq_getElem hlt
        generalize th[k] = x at *
        have hnx := filt_next hat barB
        have hna := all_next hat nobB
        rw [HF.out] at hnx
        rw [HK.out] at hna
        have HX : Hid _ := hnx
        have HY : Hid _ := hna
        clear hnx hna hat
        have lu := cell_lt e0
        by_cases h13 : x.op = 13
        · rw [h13] at e0
          go_wp2
          go_returns
          exact ⟨rfl, Bw⟩
        · by_cases h14 : x.op = 14
          · rw [h14] at e0
            go_wp2
            go_returns
            exact ⟨rfl, Bw⟩
          · have g1 : (x.op == 13) = false := by simpa using h13
            have g2 : (x.op == 14) = false := by simpa using h14
            have e6 : nobB x = true := by unfold nobB; rw [g1, g2]; rfl
            rw [e6] at HY
            clear h13 h14
            by_cases hbr : barB x = true
            · have hb' := hbr
              unfold barB at hb'
              simp only [Bool.and_eq_true, Bool.not_eq_true', beq_eq_false_iff_ne, ne_eq] at hb'
              have g3 : (x.op != 11) = true := by simpa using hb'.1
              have g4 : (x.op != 12) = true := by simpa using hb'.2
              clear hb'
              rw [if_pos hbr] at HX
              clear hbr
              go_wp2_with (at_builtin; have B5 := below_new wr (.cells #[.int .i64 x.op, .int .i64 x.d, .int .i64 x.a, .int .i64 x.b, .int .i64 x.l, .int .i64 x.i] 51); have kN : Blk (wr.alloc (.cells #[.int .i64 x.op, .int .i64 x.d, .int .i64 x.a, .int .i64 x.b, .int .i64 x.l, .int .i64 x.i] 51)) wr.heap.size #[.int .i64 x.op, .int .i64 x.d, .int .i64 x.a, .int .i64 x.b, .int .i64 x.l, .int .i64 x.i] 51 := Blk.new; refine wpList_push (R := InsE) (xs := out) (x := x) (by rfl) (.tmp 64) (.tmp 69) 22 51 i0 z0 48 (by rfl) Tryd.underlying22 J1.out J2.out J4.out J5.out J3.out w1.heap.size (.slice qa out.length ca) wr.heap.size (by rfl) (by rfl) (hO.keep B5) x.cells (fun _ _ => rfl) (fun _ _ _ _ _ h => h) (fun j u hj => (kN.cell j).trans (by simpa [Ins.cells] using hj)) (by omega) (by decide) (Nat.le_trans hB.size B5.size) ?_; intro p6 c6 w6 hO6 hg6 hv6)
              go_roundw
              case rel => exact ⟨k + 1, out ++ [x], by omega, by go_num, by simpa using hO6, HX.out, HY.out, by simp; omega, (Below.thru hB B5 (Nat.le_refl _)).grown hg6 (Nat.le_trans hB.size B5.size) (fun q hq => (hO.lt q hq).1)⟩
              case measure => simp [intOf]; omega
            · have hc : x.op = 11 ∨ x.op = 12 := by
                unfold barB at hbr
                by_cases e : x.op = 11
                · exact .inl e
                · by_cases e' : x.op = 12
                  · exact .inr e'
                  · simp [e, e'] at hbr
              rw [if_neg hbr, List.append_nil] at HX
              clear hbr
              rcases hc with h | h
              · rw [h] at e0
                go_wp2
                go_roundw
                case rel => exact ⟨k + 1, out, by omega, by go_num, hO, HX.out, HY.out, by omega, hB⟩
                case measure => simp [intOf]; omega
              · rw [h] at e0
                go_wp2
                go_roundw
                case rel => exact ⟨k + 1, out, by omega, by go_num, hO, HX.out, HY.out, by omega, hB⟩
                case measure => simp [intOf]; omega
      · have hall : th.all nobB = true := by have h := HK.out; rw [List.take_of_length_le (by omega)] at h; exact h
        have hflt : th.filter barB = out := by have h := HF.out; rw [List.take_of_length_le (by omega)] at h; exact h
        clear HF HK
        obtain ⟨wq, rfl⟩ : ∃ x : World, x = wr := ⟨_, rfl⟩
        by_cases hm : mayT th 2 = true
        · have HM : Hid _ := hm
          have hSim := runT_bare (vals := vals) (lucks := lucks) hall hm
          rw [hflt] at hSim
          have lenA := (runT_ok th 2 vals lucks).2
          have lenB := (runT_ok out 2 vals lucks).2
          have hA := fun W (hb : Below w.heap.size w W) => Run_any p pv pl c cv cl th 2 vals lucks W (T.below hb).tab (T.below hb).bar (ht.keep hb) (hv.keep hb) (hl.keep hb) (by omega) (by omega)
          have hBr := fun W (hb : Below wq.heap.size wq W) => Run_any qa pv pl ca cv cl out 2 vals lucks W (T.below (Below.thru Bw hb (Nat.le_refl _))).tab (T.below (Below.thru Bw hb (Nat.le_refl _))).bar (hO.sl.any.keep hb) (hv.keep (Below.thru Bw hb (Nat.le_refl _))) (hl.keep (Below.thru Bw hb (Nat.le_refl _))) (by omega) (by omega)
          generalize runT th 2 vals lucks = A at *
          generalize runT out 2 vals lucks = B at *
          have HA : Hid _ := hA
          have HB : Hid _ := hBr
          have HS : Hid _ := hSim
          clear hA hBr hSim hm hall hflt
          have F2 := trivial
          go_wp2_with (first
            | (go_at_call 15; clear F2; refine (HMay.out _ Bw).mono ?_; rintro e w2 ⟨rfl, hb2⟩; have B2 := Below.thru Bw hb2 (Nat.le_refl _); rw [HM.out]; have F3 := trivial)
            | (go_at_call 12; clear F3; refine (HA.out _ B2).mono ?_; rintro e w3 ⟨ra, rfl, hTa, hb3⟩; have B3 := Below.thru B2 hb3 (Nat.le_refl _); have F4 := trivial)
            | (clear F4; refine wpList_told (w := w3) (by rfl) (.tmp 10) (.tmp 78) (by rfl) hTa (by rfl) (by rfl) ?_; intro w4 kA hTA B34; simp only [Act.put]; have B4 := Below.thru B3 B34 (Nat.le_refl _); have Bq4 := Below.thru (Below.thru hb2 hb3 (Nat.le_refl _)) B34 (Nat.le_refl _); have F5 := trivial)
            | (go_at_call 12; clear F5; refine (HB.out _ Bq4).mono ?_; rintro e w5 ⟨rb, rfl, hTb, hb5⟩; have B5 := Below.thru B4 hb5 (Nat.le_refl _); have F6 := trivial)
            | (clear F6; refine wpList_told (w := w5) (by rfl) (.tmp 11) (.tmp 82) (by rfl) hTb (by rfl) (by rfl) ?_; intro w9 kB9 hTB B59; simp only [Act.put]; have B9 := Below.thru B5 B59 (Nat.le_refl _); have B49 := Below.thru hb5 B59 (Nat.le_refl _); have kA9 := TrB.keep kA B49; have hTA9 := hTA.keep B49))
          obtain ⟨pa, cc, ea⟩ := hTA9.e0.len
          obtain ⟨pb, cb, eb⟩ := hTB.e0.len
          have sA := hTA9.e0
          have sB := hTB.e0
          rw [ea] at sA
          rw [eb] at sB
          clear hO hTA hTa hTb hTA9 hTB
          go_loopw [12, 13] (fun a i wr => ∃ (k : Nat) (out : List Ev), k ≤ A.evs.length ∧ i = .int .i64 k ∧ Own F0 EvE wr w9.heap.size 47 a out ∧ (A.evs.take k).filter rwB = out ∧ out.length ≤ k ∧ Below w9.heap.size w9 wr) (fun _ i _ => A.evs.length - (intOf i).toNat)
          case atStart => exact ⟨0, [], Nat.zero_le _, rfl, Own.nil, rfl, Nat.le_refl _, by go_grown⟩
          case round =>
            clear hk hlo hB
            obtain ⟨k, out, hk, rfl, hO, hF, hlo, hB⟩ := hrel
            have HF : Hid _ := hF
            clear hF
            have kR := TrB.keep kA9 hB
            have kS := TrB.keep kB9 hB
            obtain ⟨x0, -⟩ := kR.rows
            rw [ea] at x0
            have lk := kR.lt
            have ls := kS.lt
            obtain ⟨qa, ca, rfl⟩ := hO.len
            by_cases hlt : k < A.evs.length
            · obtain ⟨gb, go, rfl, g0, g1, g2, g3, g4, g5, g6⟩ := (ev_at (sA.keep hB)).2 k hlt
              have hat : A.evs[k]? = some A.evs[k] := List.getElem?_eq_getElem hlt
              generalize A.evs[k] = e at *
              have hnx := filt_next hat rwB
              have HX : Hid _ := hnx
              clear hnx hat
              have lg := cell_lt g1
              by_cases hk1 : e.kd = 1
              · have hrw : rwB e = true := by unfold rwB; rw [hk1]; rfl
                have HKD : Hid _ := hk1
                rw [hk1] at g1
                clear hk1
                go_wp2_with (at_builtin; have B5 := below_new wr (.cells #[.int .i64 e.th, .int .i64 1, .int .i64 e.lc, .int .i64 e.vl, .bool e.aq, .bool e.rl, .bool e.ex] 47); have kN : Blk (wr.alloc (.cells #[.int .i64 e.th, .int .i64 1, .int .i64 e.lc, .int .i64 e.vl, .bool e.aq, .bool e.rl, .bool e.ex] 47)) wr.heap.size #[.int .i64 e.th, .int .i64 1, .int .i64 e.lc, .int .i64 e.vl, .bool e.aq, .bool e.rl, .bool e.ex] 47 := Blk.new; refine wpList_push (R := EvE) (xs := out) (x := e) (by rfl) (.tmp 106) (.tmp 112) 27 47 i1 z1 40 (by rfl) Tryd.underlying27 K1.out K2.out K4.out K5.out K3.out w9.heap.size (.slice qa out.length ca) wr.heap.size (by rfl) (by rfl) (hO.keep B5) e.cells (fun _ _ => rfl) (fun _ _ _ _ _ h => h) (fun j u hj => (kN.cell j).trans (by simpa [Ev.cells, HKD.out] using hj)) (by omega) (by decide) (Nat.le_trans hB.size B5.size) ?_; intro p6 c6 w6 hO6 hg6 hv6)
                go_roundw
                case rel => exact ⟨k + 1, out ++ [e], by omega, by go_num, by simpa using hO6, by rw [HX.out, if_pos hrw, HF.out], by simp; omega, (Below.thru hB B5 (Nat.le_refl _)).grown hg6 (Nat.le_trans hB.size B5.size) (fun q hq => (hO.lt q hq).1)⟩
                case measure => simp [intOf]; omega
              · by_cases hk2 : e.kd = 2
                · have hrw : rwB e = true := by unfold rwB; rw [hk2]; rfl
                  have HKD : Hid _ := hk2
                  rw [hk2] at g1
                  clear hk1 hk2
                  go_wp2_with (at_builtin; have B5 := below_new wr (.cells #[.int .i64 e.th, .int .i64 2, .int .i64 e.lc, .int .i64 e.vl, .bool e.aq, .bool e.rl, .bool e.ex] 47); have kN : Blk (wr.alloc (.cells #[.int .i64 e.th, .int .i64 2, .int .i64 e.lc, .int .i64 e.vl, .bool e.aq, .bool e.rl, .bool e.ex] 47)) wr.heap.size #[.int .i64 e.th, .int .i64 2, .int .i64 e.lc, .int .i64 e.vl, .bool e.aq, .bool e.rl, .bool e.ex] 47 := Blk.new; refine wpList_push (R := EvE) (xs := out) (x := e) (by rfl) (.tmp 106) (.tmp 112) 27 47 i1 z1 40 (by rfl) Tryd.underlying27 K1.out K2.out K4.out K5.out K3.out w9.heap.size (.slice qa out.length ca) wr.heap.size (by rfl) (by rfl) (hO.keep B5) e.cells (fun _ _ => rfl) (fun _ _ _ _ _ h => h) (fun j u hj => (kN.cell j).trans (by simpa [Ev.cells, HKD.out] using hj)) (by omega) (by decide) (Nat.le_trans hB.size B5.size) ?_; intro p6 c6 w6 hO6 hg6 hv6)
                  go_roundw
                  case rel => exact ⟨k + 1, out ++ [e], by omega, by go_num, by simpa using hO6, by rw [HX.out, if_pos hrw, HF.out], by simp; omega, (Below.thru hB B5 (Nat.le_refl _)).grown hg6 (Nat.le_trans hB.size B5.size) (fun q hq => (hO.lt q hq).1)⟩
                  case measure => simp [intOf]; omega
                · have j1 : (e.kd == 1) = false := by simpa using hk1
                  have j2 : (e.kd == 2) = false := by simpa using hk2
                  have hrw : ¬ rwB e = true := by unfold rwB; rw [j1, j2]; decide
                  clear hk1 hk2
                  go_wp2
                  go_roundw
                  case rel => exact ⟨k + 1, out, by omega, by go_num, hO, by rw [HX.out, if_neg hrw, List.append_nil, HF.out], by omega, hB⟩
                  case measure => simp [intOf]; omega
            · have hfl : B.evs = out := by
                have h := HF.out
                rw [List.take_of_length_le (by omega)] at h
                rw [HS.out.evs, h]
              have hl9 : B.evs.length ≤ 1000000 := by omega
              subst hfl
              have sO := hO.sl.any
              have sB9 := sB.keep hB
              obtain ⟨b0, -⟩ := kS.rows
              obtain ⟨⟨b5, b6, b7, b8⟩, -⟩ := kS.regs
              obtain ⟨bd, be, bf⟩ := kS.more
              obtain ⟨⟨a5, a6, a7, a8⟩, -⟩ := kR.regs
              obtain ⟨ad, ae, af⟩ := kR.more
              rw [eb] at b0
              rw [← HS.out.v] at b5 b6 b7 b8
              rw [← HS.out.vals] at bd
              rw [← HS.out.lucks] at be
              rw [← HS.out.more] at bf
              have hEv : Hid (Calls _ _ _ _ _) := Events_is _ _ B.evs wr sB9 sO hl9
              have Bf := Below.thru B9 hB (Nat.le_refl _)
              clear HF sO sB9
              go_wp2_with (go_at_call 14; refine (hEv.out).mono ?_; rintro e w6 ⟨rfl, hb6⟩; have c5 := cell_keep a5 hb6; have c6 := cell_keep a6 hb6; have c7 := cell_keep a7 hb6; have c8 := cell_keep a8 hb6; have cd := cell_keep ad hb6; have ce := cell_keep ae hb6; have cf := cell_keep af hb6; have d5 := cell_keep b5 hb6; have d6 := cell_keep b6 hb6; have d7 := cell_keep b7 hb6; have d8 := cell_keep b8 hb6; have dd := cell_keep bd hb6; have de := cell_keep be hb6; have df := cell_keep bf hb6; have l6 := cell_lt c5; have m6 := cell_lt d5)
              go_returns
              exact ⟨rfl, Below.thru Bf hb6 (Nat.le_refl _)⟩
        · have HM : Hid (mayT th 2 = false) := by unfold Hid; simpa using hm
          clear hm
          go_wp2_with (go_at_call 15; refine (HMay.out _ Bw).mono ?_; rintro e w2 ⟨rfl, hb2⟩; have B2 := Below.thru Bw hb2 (Nat.le_refl _); rw [HM.out])
          go_returns
          exact ⟨rfl, B2⟩
  · have hcase : 8 < th.length ∨ (th.length ≤ 8 ∧ 40 < vals.length) ∨ (th.length ≤ 8 ∧ vals.length ≤ 40 ∧ 40 < lucks.length) := by omega
    rcases hcase with h | ⟨h1, h⟩ | ⟨h1, h2, h⟩
    · have n1' : ¬ (th.length : Int) ≤ 8 := by omega
      go_enter Tryd.func7, Tryd.ntmps7
      go_wp2_with (go_at_call 9; refine (shown8_any _ T).mono ?_; rintro e w1 ⟨rfl, hb1⟩)
      go_returns
      exact ⟨rfl, hb1⟩
    · have n1' : (th.length : Int) ≤ 8 := by omega
      have n2' : ¬ (vals.length : Int) ≤ 40 := by omega
      go_enter Tryd.func7, Tryd.ntmps7
      go_wp2_with (go_at_call 9; refine (shown8_any _ T).mono ?_; rintro e w1 ⟨rfl, hb1⟩)
      go_returns
      exact ⟨rfl, hb1⟩
    · have n1' : (th.length : Int) ≤ 8 := by omega
      have n2' : (vals.length : Int) ≤ 40 := by omega
      have n3' : ¬ (lucks.length : Int) ≤ 40 := by omega
      go_enter Tryd.func7, Tryd.ntmps7
      go_wp2_with (go_at_call 9; refine (shown8_any _ T).mono ?_; rintro e w1 ⟨rfl, hb1⟩)
      go_returns
      exact ⟨rfl, hb1⟩
end Go.Proofs.YtkiefbldkidobaaDoor
