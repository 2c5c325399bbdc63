/- FlowVals, walked: it answers true. -/
import Derived.Test.YtkiefbldkidobaaDoorFlowTold
namespace Go.Proofs.YtkiefbldkidobaaDoor
open Go.RowKit
attribute [local go_sem] Ext.cell Ext.frozen

set_option maxRecDepth 20000 in
set_option maxHeartbeats 8000000 in
theorem FlowVals_true (p pv pl : Option Addr) (c cv cl : Nat) (th : List Ins) (vals : List Int) (lucks : List Bool) (w : World) (T : FEnv w) (ht : Sl InsE w (.slice p th.length c) th) (hv : Sl IntE w (.slice pv vals.length cv) vals) (hl : Sl BoolE w (.slice pl lucks.length cl) lucks) :
    Calls Tryd.prog 6 #[.slice p th.length c, .slice pv vals.length cv, .slice pl lucks.length cl] w fun e w' => e = .returned (.bool true) ∧ Below w.heap.size w w' := by
  have hne : ∀ w, Nonempty (Ext w) := ext_some
  by_cases hn : th.length ≤ 8 ∧ vals.length ≤ 40 ∧ lucks.length ≤ 40
  · obtain ⟨n1, n2, n3⟩ := hn
    have n1' : (th.length : Int) ≤ 8 := by omega
    have n2' : (vals.length : Int) ≤ 40 := by omega
    have n3' : (lucks.length : Int) ≤ 40 := by omega
    have hlen := (runT_ok th 2 vals lucks).2
    have hvs := (runT_ok th 2 vals lucks).1.vs
    have hR := runT_reads th 2 vals lucks
    obtain ⟨m1, m2⟩ := runT_more th 2 vals lucks
    have hQ := runT_quiet (th := th) (locs := 2) (vals := vals) (lucks := lucks)
    have hA := fun W (hb : Below w.heap.size w W) => Run_any p pv pl c cv cl th 2 vals lucks W (T.below hb).tab (T.below hb).bar (ht.keep hb) (hv.keep hb) (hl.keep hb) (by omega) (by omega)
    generalize runT th 2 vals lucks = D at *
    have HA : Hid _ := hA
    have HR : Hid _ := hR
    have HQ : Hid _ := hQ
    clear hA hR hQ
    have F1 := trivial
    go_enter Tryd.func6, Tryd.ntmps6
    go_wp2_with (first
      | (go_at_call 9; clear F1; refine (shown8_any _ T).mono ?_; rintro e w1 ⟨rfl, hb1⟩; have F2 := trivial)
      | (go_at_call 12; clear F2; refine (HA.out _ hb1).mono ?_; rintro e w2 ⟨r, rfl, hT, hb2⟩; have B2 := Below.thru hb1 hb2 (Nat.le_refl _); have F3 := trivial)
      | (clear F3; refine wpList_told (w := w2) (by rfl) (.tmp 8) (.tmp 32) (by rfl) hT (by rfl) (by rfl) ?_; intro w4 kL hT4 B24; simp only [Act.put]; have B4 := Below.thru B2 B24 (Nat.le_refl _)))
    obtain ⟨p0, c0, h0⟩ := hT4.e0.len
    have hE := hT4.e0
    rw [h0] at hE
    go_loopw [9, 10] (fun a i wr => ∃ k n : Nat, k ≤ D.evs.length ∧ i = .int .i64 k ∧ a = .int .i64 n ∧ (readsL (D.evs.take k)).length = n ∧ n ≤ k ∧ Below w4.heap.size w4 wr) (fun _ i _ => D.evs.length - (intOf i).toNat)
    case atStart => exact ⟨0, 0, Nat.zero_le _, rfl, rfl, rfl, Nat.le_refl _, by go_grown⟩
    case round =>
      obtain ⟨k, n, hk, rfl, rfl, hn, hnk, hB⟩ := hrel
      have HN : Hid _ := hn
      clear hn
      have kR := TrB.keep kL hB
      obtain ⟨x0, -⟩ := kR.rows
      obtain ⟨y0, y1, y2⟩ := kR.more
      have lk := kR.lt
      rw [h0] at x0
      have Bw := Below.thru B4 hB (Nat.le_refl _)
      by_cases hlt : k < D.evs.length
      · obtain ⟨gb, go, rfl, g0, g1, g2, g3, g4, g5, g6⟩ := (ev_at (hE.keep hB)).2 k hlt
        have hat : D.evs[k]? = some D.evs[k] := List.getElem?_eq_getElem hlt
        generalize D.evs[k] = e at *
        have HT : Hid _ := hat
        clear hat
        have lg := cell_lt g1
        by_cases hk1 : e.kd = 1
        · have hrd := reads_at HT.out hk1
          rw [HR.out, HN.out, List.getElem?_take] at hrd
          have hnv : n < D.vals := by
            by_cases h : n < D.vals
            · exact h
            · rw [if_neg h] at hrd; cases hrd
          rw [if_pos hnv] at hrd
          have hnl : n < vals.length := by omega
          obtain ⟨vb, vo, rfl, v0⟩ := (ints_at (hv.keep Bw)).2 n hnl
          have hval : vals[n] = e.vl := by
            rw [List.getElem?_eq_getElem hnl] at hrd
            exact Option.some.inj hrd
          rw [hval] at v0
          have lv := cell_lt v0
          have hnx : (readsL (D.evs.take (k + 1))).length = n + 1 := by rw [reads_next HT.out, HN.out, if_pos hk1]
          have HX : Hid _ := hnx
          clear hnx hrd hval
          have hkd : (e.kd == 1) = true := by simpa using hk1
          have hg1 : decide (vals.length ≤ n) = false := decide_eq_false (by omega)
          go_wp2
          refine wp_region_ext (by kernel_rfl) (by kernel_rfl) ?_
          repeat (go_big_quiet_step (fail))
          refine wpQuiet_nil ?_
          rintro _ ⟨rr, rfl⟩
          go_wp2
          go_roundw
          case rel => exact ⟨k + 1, n + 1, by omega, by go_num, by go_num, HX.out, by omega, Below.thru hB rr.ok (Nat.le_refl _)⟩
          case measure => simp [intOf]; omega
        · have hnx : (readsL (D.evs.take (k + 1))).length = n := by rw [reads_next HT.out, HN.out, if_neg hk1]; rfl
          have HX : Hid _ := hnx
          clear hnx
          have hkd : (e.kd == 1) = false := by simpa using hk1
          go_wp2
          go_roundw
          case rel => exact ⟨k + 1, n, by omega, by go_num, by go_num, HX.out, by omega, hB⟩
          case measure => simp [intOf]; omega
      · have hend : n = D.vals := by
          have h := HN.out
          rw [List.take_of_length_le (by omega), HR.out, List.length_take] at h
          omega
        subst hend
        clear HN
        obtain ⟨wq, rfl⟩ : ∃ x : World, x = wr := ⟨_, rfl⟩
        go_wp2
        go_loopw [11, 12] (fun q i wr => ∃ (j : Nat) (b : Bool), j ≤ th.length ∧ i = .int .i64 j ∧ q = .bool b ∧ (th.take j).all quietB = b ∧ Below wq.heap.size wq wr) (fun _ i _ => th.length - (intOf i).toNat)
        case atStart => exact ⟨0, true, Nat.zero_le _, rfl, rfl, rfl, by go_grown⟩
        case round =>
          obtain ⟨j, b, hj, rfl, rfl, hb, hC⟩ := hrel
          have HB : Hid _ := hb
          clear hb
          have kS := TrB.keep kR hC
          obtain ⟨z0, z1, z2⟩ := kS.more
          have ls := kS.lt
          have Cw := Below.thru Bw hC (Nat.le_refl _)
          by_cases hjl : j < th.length
          · obtain ⟨ub, uo, rfl, e0, e1, e2, e3, e4, e5⟩ := (ins_at (ht.keep Cw)).2 j hjl
            have hat : th[j]? = some th[j] := List.getElem?_eq_getElem hjl
            generalize th[j] = x at *
            have hall := all_next hat quietB
            rw [HB.out] at hall
            have HX : Hid _ := hall
            clear hall hat
            have lu := cell_lt e0
            have hc : b = false ∨ (b = true ∧ x.op = 5) ∨ (b = true ∧ x.op = 7) ∨ (b = true ∧ x.op = 9) ∨ (b = true ∧ x.op = 10) ∨ (b = true ∧ x.op ≠ 5 ∧ x.op ≠ 7 ∧ x.op ≠ 9 ∧ x.op ≠ 10) := by
              cases b
              · exact .inl rfl
              · by_cases a5 : x.op = 5
                · exact .inr (.inl ⟨rfl, a5⟩)
                · by_cases a7 : x.op = 7
                  · exact .inr (.inr (.inl ⟨rfl, a7⟩))
                  · by_cases a9 : x.op = 9
                    · exact .inr (.inr (.inr (.inl ⟨rfl, a9⟩)))
                    · by_cases a10 : x.op = 10
                      · exact .inr (.inr (.inr (.inr (.inl ⟨rfl, a10⟩))))
                      · exact .inr (.inr (.inr (.inr (.inr ⟨rfl, a5, a7, a9, a10⟩))))
            rcases hc with hb | ⟨hb, hx⟩ | ⟨hb, hx⟩ | ⟨hb, hx⟩ | ⟨hb, hx⟩ | ⟨hb, x5, x7, x9, x10⟩
            · subst hb
              go_wp2
              go_roundw
              case rel => exact ⟨j + 1, false, by omega, by go_num, rfl, HX.out, hC⟩
              case measure => simp [intOf]; omega
            · subst hb
              have e6 : quietB x = false := by unfold quietB; rw [hx]; rfl
              rw [e6] at HX
              rw [hx] at e0
              go_wp2
              go_roundw
              case rel => exact ⟨j + 1, false, by omega, by go_num, rfl, HX.out, hC⟩
              case measure => simp [intOf]; omega
            · subst hb
              have e6 : quietB x = false := by unfold quietB; rw [hx]; rfl
              rw [e6] at HX
              rw [hx] at e0
              go_wp2
              go_roundw
              case rel => exact ⟨j + 1, false, by omega, by go_num, rfl, HX.out, hC⟩
              case measure => simp [intOf]; omega
            · subst hb
              have e6 : quietB x = false := by unfold quietB; rw [hx]; rfl
              rw [e6] at HX
              rw [hx] at e0
              go_wp2
              go_roundw
              case rel => exact ⟨j + 1, false, by omega, by go_num, rfl, HX.out, hC⟩
              case measure => simp [intOf]; omega
            · subst hb
              have e6 : quietB x = false := by unfold quietB; rw [hx]; rfl
              rw [e6] at HX
              rw [hx] at e0
              go_wp2
              go_roundw
              case rel => exact ⟨j + 1, false, by omega, by go_num, rfl, HX.out, hC⟩
              case measure => simp [intOf]; omega
            · subst hb
              have e6 : quietB x = true := by unfold quietB; simp [x5, x7, x9, x10]
              rw [e6] at HX
              have g5 : (x.op != 5) = true := by simpa using x5
              have g7 : (x.op != 7) = true := by simpa using x7
              have g9 : (x.op != 9) = true := by simpa using x9
              have g10 : (x.op != 10) = true := by simpa using x10
              clear x5 x7 x9 x10
              go_wp2
              go_roundw
              case rel => exact ⟨j + 1, true, by omega, by go_num, rfl, HX.out, hC⟩
              case measure => simp [intOf]; omega
          · have hall : th.all quietB = b := by have h := HB.out; rw [List.take_of_length_le (by omega)] at h; exact h
            cases b
            · clear HB hall
              go_wp2
              go_returns
              exact ⟨rfl, Cw⟩
            · obtain ⟨q1, q2, q3⟩ := HQ.out hall
              rw [q1] at z0
              rw [q2] at z1
              rw [q3] at z2
              clear HB hall
              rw [q1]
              clear q1 q2 q3
              go_wp2
              go_returns
              exact ⟨rfl, Cw⟩
  · have hcase : 8 < th.length ∨ (th.length ≤ 8 ∧ 40 < vals.length) ∨ (th.length ≤ 8 ∧ vals.length ≤ 40 ∧ 40 < lucks.length) := by omega
    rcases hcase with h | ⟨h1, h⟩ | ⟨h1, h2, h⟩
    · have n1' : ¬ (th.length : Int) ≤ 8 := by omega
      go_enter Tryd.func6, Tryd.ntmps6
      go_wp2_with (go_at_call 9; refine (shown8_any _ T).mono ?_; rintro e w1 ⟨rfl, hb1⟩)
      go_returns
      exact ⟨rfl, hb1⟩
    · have n1' : (th.length : Int) ≤ 8 := by omega
      have n2' : ¬ (vals.length : Int) ≤ 40 := by omega
      go_enter Tryd.func6, Tryd.ntmps6
      go_wp2_with (go_at_call 9; refine (shown8_any _ T).mono ?_; rintro e w1 ⟨rfl, hb1⟩)
      go_returns
      exact ⟨rfl, hb1⟩
    · have n1' : (th.length : Int) ≤ 8 := by omega
      have n2' : (vals.length : Int) ≤ 40 := by omega
      have n3' : ¬ (lucks.length : Int) ≤ 40 := by omega
      go_enter Tryd.func6, Tryd.ntmps6
      go_wp2_with (go_at_call 9; refine (shown8_any _ T).mono ?_; rintro e w1 ⟨rfl, hb1⟩)
      go_returns
      exact ⟨rfl, hb1⟩
end Go.Proofs.YtkiefbldkidobaaDoor
