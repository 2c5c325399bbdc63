/- Contracts of the document's Alike and Inner. -/
import Derived.Test.YtcalinfdckklfaaGreatDoorPk15
import Derived.Test.YtcalinfdckklfaaGreatDoorPk13
namespace Go.Proofs.YtcalinfdckklfaaGreatDoor
open Go.RowKit
attribute [local go_sem] Ext.cell Ext.frozen

theorem inner_at {l : List Ev} {i k : Nat} {x y : Ev} (h1 : l[i]? = some x) (h2 : l[k]? = some y) : innerF l i k = (!(i == k) && (x.th == y.th)) := by unfold innerF; rw [h1, h2]
theorem alike_at {l : List Ev} {i k : Nat} {x y : Ev} (h1 : l[i]? = some x) (h2 : l[k]? = some y) : alikeF l i k = (!(i == k) && (memB x && (memB y && (x.lc == y.lc)))) := by unfold alikeF; rw [h1, h2]

set_option maxRecDepth 20000 in
set_option maxHeartbeats 8000000 in
theorem refInner_any (q a1 a2 a3 a4 a5 a6 : Option Addr) (c n1 c1 n2 c2 n3 c3 n4 c4 n5 c5 n6 c6 : Nat) (evs : List Ev) (w : World) (hE : Sl EvE w (.slice q evs.length c) evs) (hn : evs.length ≤ 24) :
    Calls Tryz.prog 16 #[.agg #[.slice q evs.length c, .slice a1 n1 c1, .slice a2 n2 c2, .slice a3 n3 c3, .slice a4 n4 c4, .slice a5 n5 c5, .slice a6 n6 c6]] w (Tells w evs.length (innerF evs)) := by
  have hb1 := below_new w (.cells #[.slice q evs.length c, .slice a1 n1 c1, .slice a2 n2 c2, .slice a3 n3 c3, .slice a4 n4 c4, .slice a5 n5 c5, .slice a6 n6 c6] 47)
  have k1 : Blk (w.alloc (.cells #[.slice q evs.length c, .slice a1 n1 c1, .slice a2 n2 c2, .slice a3 n3 c3, .slice a4 n4 c4, .slice a5 n5 c5, .slice a6 n6 c6] 47)) w.heap.size #[.slice q evs.length c, .slice a1 n1 c1, .slice a2 n2 c2, .slice a3 n3 c3, .slice a4 n4 c4, .slice a5 n5 c5, .slice a6 n6 c6] 47 := Blk.new
  have x0 : (w.alloc (.cells #[.slice q evs.length c, .slice a1 n1 c1, .slice a2 n2 c2, .slice a3 n3 c3, .slice a4 n4 c4, .slice a5 n5 c5, .slice a6 n6 c6] 47)).cell? ⟨w.heap.size, 0, none⟩ = some (.slice q evs.length c) := (k1.cell 0).trans rfl
  have hmk : mkR evs.length (ofF (pairsF evs.length (innerF evs))) = mkR evs.length (innerF evs) := mkR_of fun i k hi hk => of_pairs_at _ hi hk
  have HMK : Hid _ := hmk
  clear hmk k1
  go_enter Tryz.func16, Tryz.ntmps16
  go_wp2
  generalize w.alloc (.cells #[.slice q evs.length c, .slice a1 n1 c1, .slice a2 n2 c2, .slice a3 n3 c3, .slice a4 n4 c4, .slice a5 n5 c5, .slice a6 n6 c6] 47) = w1 at *
  go_loopw [3, 4] (fun a i wr => ∃ (k : Nat) (out : List (Nat × Nat)), k ≤ evs.length ∧ i = .int .i64 k ∧ Own (fun _ => False) PairE wr w1.heap.size 83 a out ∧ out = pairsTo (innerF evs) evs.length k ∧ out.length ≤ k * 32 ∧ Below w1.heap.size w1 wr ∧ Below w.heap.size w wr) (fun _ i _ => evs.length - (intOf i).toNat)
  case atStart => exact ⟨0, [], Nat.zero_le _, rfl, Own.nil, rfl, by simp, Below.refl _ _, hb1⟩
  case round =>
    obtain ⟨k, out, hk, rfl, hO, hout, hlen, hb, hB⟩ := hrel
    obtain ⟨w2, rfl⟩ : ∃ x : World, x = wr := ⟨_, rfl⟩
    obtain ⟨pa, ca, rfl⟩ := hO.len
    have HOUT : Hid _ := hout
    clear hout
    have y0 := cell_keep x0 hb
    have ly := cell_lt y0
    by_cases hlt : k < evs.length
    · have hlt' : (k : Int) < (evs.length : Int) := by omega
      go_wp2
      go_loopw [3, 5] (fun a i wr => ∃ (j : Nat) (out' : List (Nat × Nat)), j ≤ evs.length ∧ i = .int .i64 j ∧ Own (fun _ => False) PairE wr w1.heap.size 83 a out' ∧ out' = pairsTo (innerF evs) evs.length k ++ rowP (innerF evs) k j ∧ out'.length ≤ k * 32 + j ∧ Below w1.heap.size w1 wr ∧ Below w.heap.size w wr) (fun _ i _ => evs.length - (intOf i).toNat)
      case atStart => exact ⟨0, out, Nat.zero_le _, rfl, hO, by rw [HOUT.out]; simp [rowP], by omega, hb, hB⟩
      case round =>
        obtain ⟨j, out', hj, rfl, hO', hout', hlen', hbi, hBi⟩ := hrel
        obtain ⟨pa', ca', rfl⟩ := hO'.len
        have HOUT' : Hid _ := hout'
        clear hout' y0 ly
        have y0 := cell_keep x0 hbi
        have ly := cell_lt y0
        by_cases hjn : j < evs.length
        · have hjn' : (j : Int) < (evs.length : Int) := by omega
          have hEr := hE.keep hBi
          obtain ⟨eb, eo, e1, g0, g1, g2, g3, g4, g5, g6⟩ := (ev_at hEr).2 k hlt
          obtain ⟨fb, fo, e2, f0, f1, f2, f3, f4, f5, f6⟩ := (ev_at hEr).2 j hjn
          rw [e1] at e2
          cases e2
          subst e1
          have hF := inner_at (List.getElem?_eq_getElem hlt) (List.getElem?_eq_getElem hjn)
          generalize evs[k] = X at *
          generalize evs[j] = Y at *
          have HF : Hid _ := hF
          clear hF hEr
          have lg := cell_lt g0
          have hne : ∀ w, Nonempty (Ext w) := ext_some
          by_cases hkj : k = j
          · have HZ : Hid (innerF evs k j = false) := by unfold Hid; rw [HF.out, hkj]; simp
            have hkb : ((k : Int) != (j : Int)) = false := by subst hkj; simp
            clear hkj
            go_wp2
            refine wp_region_ext (by kernel_rfl) (by kernel_rfl) ?_
            repeat (go_big_quiet_step (fail))
            refine wpQuiet_nil ?_
            rintro _ ⟨rr, rfl⟩
            have h6 := rr.ok
            generalize rr.wd = w6 at *
            go_wp2
            go_roundw
            case rel => exact ⟨j + 1, out', by omega, by go_num, hO'.keep h6, by rw [HOUT'.out, rowP_no HZ.out], by omega, Below.thru hbi h6 (Nat.le_refl _), Below.thru hBi h6 (Nat.le_refl _)⟩
            case measure => simp [intOf]; omega
          · have hkb : ((k : Int) != (j : Int)) = true := by simp; omega
            have hkn : (k == j) = false := by simp [hkj]
            by_cases hth : X.th = Y.th
            · have HZ : Hid (innerF evs k j = true) := by unfold Hid; rw [HF.out, hkn]; simp [hth]
              have htb : (X.th == Y.th) = true := by simp [hth]
              clear hkj hkn hth
              go_wp2
              refine wp_region_ext (by kernel_rfl) (by kernel_rfl) ?_
              repeat (go_big_quiet_step (fail))
              refine wpQuiet_nil ?_
              rintro _ ⟨rr, rfl⟩
              have h6 := rr.ok
              generalize rr.wd = w6 at *
              have hO6 := hO'.keep h6
              have hB6 := Below.thru hBi h6 (Nat.le_refl _)
              have hb6 := Below.thru hbi h6 (Nat.le_refl _)
              go_wp2_with (at_builtin; have hA3 := below_new w6 (.cells #[.int .i64 (k : Int), .int .i64 (j : Int)] 83); have hB4 := Below.thru hB6 hA3 (Nat.le_refl _); have hb4 := Below.thru hb6 hA3 (Nat.le_refl _); refine wpList_pair (by rfl) (.tmp 38) (.tmp 42) (by rfl) w1.heap.size (.slice pa' out'.length ca') w6.heap.size k j (by rfl) (by rfl) (hO6.keep hA3) (by simp) (by simp) (by omega) hb4.size ?_; intro p5 c5 w5 hO5 hg5)
              go_roundw
              case rel => exact ⟨j + 1, out' ++ [(k, j)], by omega, by go_num, hO5, by rw [HOUT'.out, rowP_yes HZ.out, List.append_assoc], by simp only [List.length_append, List.length_cons, List.length_nil]; omega, hb4.grown hg5 hb4.size (fun q hq => ((hO6.keep hA3).lt q hq).1), hB4.grown hg5 hB4.size (fun q hq => Nat.le_trans hb1.size ((hO6.keep hA3).lt q hq).1)⟩
              case measure => simp [intOf]; omega
            · have HZ : Hid (innerF evs k j = false) := by unfold Hid; rw [HF.out, hkn]; simp [hth]
              have htb : (X.th == Y.th) = false := by simp [hth]
              clear hkj hkn hth
              go_wp2
              refine wp_region_ext (by kernel_rfl) (by kernel_rfl) ?_
              repeat (go_big_quiet_step (fail))
              refine wpQuiet_nil ?_
              rintro _ ⟨rr, rfl⟩
              have h6 := rr.ok
              generalize rr.wd = w6 at *
              go_wp2
              go_roundw
              case rel => exact ⟨j + 1, out', by omega, by go_num, hO'.keep h6, by rw [HOUT'.out, rowP_no HZ.out], by omega, Below.thru hbi h6 (Nat.le_refl _), Below.thru hBi h6 (Nat.le_refl _)⟩
              case measure => simp [intOf]; omega
        · have e : j = evs.length := by omega
          have hjn' : ¬ (j : Int) < (evs.length : Int) := by omega
          go_wp2
          go_roundw
          case rel => exact ⟨k + 1, out', by omega, by go_num, hO', by rw [HOUT'.out, pairsTo_succ, e], by omega, hbi, hBi⟩
          case measure => simp [intOf]; omega
    · have e : k = evs.length := by omega
      have hlt' : ¬ (k : Int) < (evs.length : Int) := by omega
      have hout2 : out = pairsF evs.length (innerF evs) := by rw [← pairsTo_all, HOUT.out, e]
      have hMade := fun W (hb : Below w2.heap.size w2 W) => Made_any evs.length pa ca out W (by omega) (hO.sl.any.keep hb) (by rw [hout2]; exact pairsF_in) (by omega)
      rw [hout2] at hMade
      have HM : Hid _ := hMade
      have HO2 : Hid _ := hout2
      clear hMade hout2 e
      go_wp2_with (go_at_call 33; rw [HO2.out]; refine (HM.out _ (Below.refl _ _)).mono ?_; rintro e w3 ⟨v, rfl, hV, hb3⟩)
      go_ret
      exact ⟨v, rfl, by rw [← HMK.out]; exact hV, Below.thru hB hb3 (Nat.le_refl _)⟩

set_option maxRecDepth 20000 in
set_option maxHeartbeats 8000000 in
theorem refAlike_any (q a1 a2 a3 a4 a5 a6 : Option Addr) (c n1 c1 n2 c2 n3 c3 n4 c4 n5 c5 n6 c6 : Nat) (evs : List Ev) (w : World) (hE : Sl EvE w (.slice q evs.length c) evs) (hn : evs.length ≤ 24) :
    Calls Tryz.prog 14 #[.agg #[.slice q evs.length c, .slice a1 n1 c1, .slice a2 n2 c2, .slice a3 n3 c3, .slice a4 n4 c4, .slice a5 n5 c5, .slice a6 n6 c6]] w (Tells w evs.length (alikeF evs)) := by
  have hb1 := below_new w (.cells #[.slice q evs.length c, .slice a1 n1 c1, .slice a2 n2 c2, .slice a3 n3 c3, .slice a4 n4 c4, .slice a5 n5 c5, .slice a6 n6 c6] 47)
  have k1 : Blk (w.alloc (.cells #[.slice q evs.length c, .slice a1 n1 c1, .slice a2 n2 c2, .slice a3 n3 c3, .slice a4 n4 c4, .slice a5 n5 c5, .slice a6 n6 c6] 47)) w.heap.size #[.slice q evs.length c, .slice a1 n1 c1, .slice a2 n2 c2, .slice a3 n3 c3, .slice a4 n4 c4, .slice a5 n5 c5, .slice a6 n6 c6] 47 := Blk.new
  have x0 : (w.alloc (.cells #[.slice q evs.length c, .slice a1 n1 c1, .slice a2 n2 c2, .slice a3 n3 c3, .slice a4 n4 c4, .slice a5 n5 c5, .slice a6 n6 c6] 47)).cell? ⟨w.heap.size, 0, none⟩ = some (.slice q evs.length c) := (k1.cell 0).trans rfl
  have hmk : mkR evs.length (ofF (pairsF evs.length (alikeF evs))) = mkR evs.length (alikeF evs) := mkR_of fun i k hi hk => of_pairs_at _ hi hk
  have HMK : Hid _ := hmk
  clear hmk k1
  go_enter Tryz.func14, Tryz.ntmps14
  go_wp2
  generalize w.alloc (.cells #[.slice q evs.length c, .slice a1 n1 c1, .slice a2 n2 c2, .slice a3 n3 c3, .slice a4 n4 c4, .slice a5 n5 c5, .slice a6 n6 c6] 47) = w1 at *
  go_loopw [3, 4] (fun a i wr => ∃ (k : Nat) (out : List (Nat × Nat)), k ≤ evs.length ∧ i = .int .i64 k ∧ Own (fun _ => False) PairE wr w1.heap.size 83 a out ∧ out = pairsTo (alikeF evs) evs.length k ∧ out.length ≤ k * 32 ∧ Below w1.heap.size w1 wr ∧ Below w.heap.size w wr) (fun _ i _ => evs.length - (intOf i).toNat)
  case atStart => exact ⟨0, [], Nat.zero_le _, rfl, Own.nil, rfl, by simp, Below.refl _ _, hb1⟩
  case round =>
    obtain ⟨k, out, hk, rfl, hO, hout, hlen, hb, hB⟩ := hrel
    obtain ⟨w2, rfl⟩ : ∃ x : World, x = wr := ⟨_, rfl⟩
    obtain ⟨pa, ca, rfl⟩ := hO.len
    have HOUT : Hid _ := hout
    clear hout
    have y0 := cell_keep x0 hb
    have ly := cell_lt y0
    by_cases hlt : k < evs.length
    · have hlt' : (k : Int) < (evs.length : Int) := by omega
      go_wp2
      go_loopw [3, 5] (fun a i wr => ∃ (j : Nat) (out' : List (Nat × Nat)), j ≤ evs.length ∧ i = .int .i64 j ∧ Own (fun _ => False) PairE wr w1.heap.size 83 a out' ∧ out' = pairsTo (alikeF evs) evs.length k ++ rowP (alikeF evs) k j ∧ out'.length ≤ k * 32 + j ∧ Below w1.heap.size w1 wr ∧ Below w.heap.size w wr) (fun _ i _ => evs.length - (intOf i).toNat)
      case atStart => exact ⟨0, out, Nat.zero_le _, rfl, hO, by rw [HOUT.out]; simp [rowP], by omega, hb, hB⟩
      case round =>
        obtain ⟨j, out', hj, rfl, hO', hout', hlen', hbi, hBi⟩ := hrel
        obtain ⟨pa', ca', rfl⟩ := hO'.len
        have HOUT' : Hid _ := hout'
        clear hout' y0 ly
        have y0 := cell_keep x0 hbi
        have ly := cell_lt y0
        by_cases hjn : j < evs.length
        · have hjn' : (j : Int) < (evs.length : Int) := by omega
          have hEr := hE.keep hBi
          obtain ⟨eb, eo, e1, g0, g1, g2, g3, g4, g5, g6⟩ := (ev_at hEr).2 k hlt
          obtain ⟨fb, fo, e2, f0, f1, f2, f3, f4, f5, f6⟩ := (ev_at hEr).2 j hjn
          rw [e1] at e2
          cases e2
          subst e1
          have hF := alike_at (List.getElem?_eq_getElem hlt) (List.getElem?_eq_getElem hjn)
          generalize evs[k] = X at *
          generalize evs[j] = Y at *
          have HF : Hid _ := hF
          clear hF hEr
          have lg := cell_lt g0
          by_cases hkj : k = j
          · have HZ : Hid (alikeF evs k j = false) := by unfold Hid; rw [HF.out, hkj]; simp
            have hkb : ((k : Int) != (j : Int)) = false := by subst hkj; simp
            clear hkj
            have h6 : Below wr.heap.size wr ((wr.alloc (.cells #[.int .i64 X.th, .int .i64 X.kd, .int .i64 X.lc, .int .i64 X.vl, .bool X.aq, .bool X.rl, .bool X.ex] 52)).alloc (.cells #[.int .i64 Y.th, .int .i64 Y.kd, .int .i64 Y.lc, .int .i64 Y.vl, .bool Y.aq, .bool Y.rl, .bool Y.ex] 52)) := ((Below.refl _ _).alloc (Nat.le_refl _) _).alloc (by simp) _
            have hO9 := hO'.keep h6
            have hb9 := Below.thru hbi h6 (Nat.le_refl _)
            have hB9 := Below.thru hBi h6 (Nat.le_refl _)
            go_wp2
            go_roundw
            case rel => exact ⟨j + 1, out', by omega, by go_num, hO9, by rw [HOUT'.out, rowP_no HZ.out], by omega, hb9, hB9⟩
            case measure => simp [intOf]; omega
          · have hkb : ((k : Int) != (j : Int)) = true := by simp; omega
            have hkn : (k == j) = false := by simp [hkj]
            replace HF : Hid (alikeF evs k j = (!false && (memB X && (memB Y && (X.lc == Y.lc))))) := by unfold Hid; rw [HF.out, hkn]
            clear hkj hkn
            by_cases Xk : X.kd = 1
            · have Xm : memB X = true := by unfold memB; simp [Xk]
              have X1 : (X.kd == 1) = true := by simp [Xk]
              clear Xk
              by_cases Yk : Y.kd = 1
              · have Ym : memB Y = true := by unfold memB; simp [Yk]
                have Y1 : (Y.kd == 1) = true := by simp [Yk]
                clear Yk
                by_cases hlc : X.lc = Y.lc
                · have HZ : Hid (alikeF evs k j = true) := by unfold Hid; rw [HF.out]; simp [Xm, Ym, hlc]
                  have hlb : (X.lc == Y.lc) = true := by simp [hlc]
                  clear hlc Xm Ym
                  obtain ⟨w6, hw6⟩ : ∃ w6, w6 = ((wr.alloc (.cells #[.int .i64 X.th, .int .i64 X.kd, .int .i64 X.lc, .int .i64 X.vl, .bool X.aq, .bool X.rl, .bool X.ex] 52)).alloc (.cells #[.int .i64 Y.th, .int .i64 Y.kd, .int .i64 Y.lc, .int .i64 Y.vl, .bool Y.aq, .bool Y.rl, .bool Y.ex] 52)) := ⟨_, rfl⟩
                  have s6 : w6.heap.size = wr.heap.size + 1 + 1 := by rw [hw6]; simp
                  have h6 : Below wr.heap.size wr w6 := by rw [hw6]; exact ((Below.refl _ _).alloc (Nat.le_refl _) _).alloc (by simp) _
                  have HW6 : Hid _ := hw6
                  clear hw6
                  have hO9 := hO'.keep h6
                  have hb9 := Below.thru hbi h6 (Nat.le_refl _)
                  have hB9 := Below.thru hBi h6 (Nat.le_refl _)
                  go_wp2_with (at_builtin; rw [← HW6.out]; have hA3 := below_new w6 (.cells #[.int .i64 (k : Int), .int .i64 (j : Int)] 83); have hB4 := Below.thru hB9 hA3 (Nat.le_refl _); have hb4 := Below.thru hb9 hA3 (Nat.le_refl _); refine wpList_pair (by rfl) (.tmp 62) (.tmp 66) (by rfl) w1.heap.size (.slice pa' out'.length ca') (wr.heap.size + 1 + 1) k j (by rfl) (by rfl) (hO9.keep hA3) (by rw [← s6]; simp) (by rw [← s6]; simp) (by omega) hb4.size ?_; intro p5 c5 w5 hO5 hg5)
                  go_roundw
                  case rel => exact ⟨j + 1, out' ++ [(k, j)], by omega, by go_num, hO5, by rw [HOUT'.out, rowP_yes HZ.out, List.append_assoc], by simp only [List.length_append, List.length_cons, List.length_nil]; omega, hb4.grown hg5 hb4.size (fun q hq => ((hO9.keep hA3).lt q hq).1), hB4.grown hg5 hB4.size (fun q hq => Nat.le_trans hb1.size ((hO9.keep hA3).lt q hq).1)⟩
                  case measure => simp [intOf]; omega
                · have HZ : Hid (alikeF evs k j = false) := by unfold Hid; rw [HF.out]; simp [hlc]
                  have hlb : (X.lc == Y.lc) = false := by simp [hlc]
                  clear hlc Xm Ym
                  have h6 : Below wr.heap.size wr ((wr.alloc (.cells #[.int .i64 X.th, .int .i64 X.kd, .int .i64 X.lc, .int .i64 X.vl, .bool X.aq, .bool X.rl, .bool X.ex] 52)).alloc (.cells #[.int .i64 Y.th, .int .i64 Y.kd, .int .i64 Y.lc, .int .i64 Y.vl, .bool Y.aq, .bool Y.rl, .bool Y.ex] 52)) := ((Below.refl _ _).alloc (Nat.le_refl _) _).alloc (by simp) _
                  have hO9 := hO'.keep h6
                  have hb9 := Below.thru hbi h6 (Nat.le_refl _)
                  have hB9 := Below.thru hBi h6 (Nat.le_refl _)
                  go_wp2
                  go_roundw
                  case rel => exact ⟨j + 1, out', by omega, by go_num, hO9, by rw [HOUT'.out, rowP_no HZ.out], by omega, hb9, hB9⟩
                  case measure => simp [intOf]; omega
              · have Y1 : (Y.kd == 1) = false := by simp [Yk]
                by_cases Yq : Y.kd = 2
                · have Ym : memB Y = true := by unfold memB; simp [Yq]
                  have Y2 : (Y.kd == 2) = true := by simp [Yq]
                  clear Yk Yq
                  by_cases hlc : X.lc = Y.lc
                  · have HZ : Hid (alikeF evs k j = true) := by unfold Hid; rw [HF.out]; simp [Xm, Ym, hlc]
                    have hlb : (X.lc == Y.lc) = true := by simp [hlc]
                    clear hlc Xm Ym
                    obtain ⟨w6, hw6⟩ : ∃ w6, w6 = ((wr.alloc (.cells #[.int .i64 X.th, .int .i64 X.kd, .int .i64 X.lc, .int .i64 X.vl, .bool X.aq, .bool X.rl, .bool X.ex] 52)).alloc (.cells #[.int .i64 Y.th, .int .i64 Y.kd, .int .i64 Y.lc, .int .i64 Y.vl, .bool Y.aq, .bool Y.rl, .bool Y.ex] 52)) := ⟨_, rfl⟩
                    have s6 : w6.heap.size = wr.heap.size + 1 + 1 := by rw [hw6]; simp
                    have h6 : Below wr.heap.size wr w6 := by rw [hw6]; exact ((Below.refl _ _).alloc (Nat.le_refl _) _).alloc (by simp) _
                    have HW6 : Hid _ := hw6
                    clear hw6
                    have hO9 := hO'.keep h6
                    have hb9 := Below.thru hbi h6 (Nat.le_refl _)
                    have hB9 := Below.thru hBi h6 (Nat.le_refl _)
                    go_wp2_with (at_builtin; rw [← HW6.out]; have hA3 := below_new w6 (.cells #[.int .i64 (k : Int), .int .i64 (j : Int)] 83); have hB4 := Below.thru hB9 hA3 (Nat.le_refl _); have hb4 := Below.thru hb9 hA3 (Nat.le_refl _); refine wpList_pair (by rfl) (.tmp 62) (.tmp 66) (by rfl) w1.heap.size (.slice pa' out'.length ca') (wr.heap.size + 1 + 1) k j (by rfl) (by rfl) (hO9.keep hA3) (by rw [← s6]; simp) (by rw [← s6]; simp) (by omega) hb4.size ?_; intro p5 c5 w5 hO5 hg5)
                    go_roundw
                    case rel => exact ⟨j + 1, out' ++ [(k, j)], by omega, by go_num, hO5, by rw [HOUT'.out, rowP_yes HZ.out, List.append_assoc], by simp only [List.length_append, List.length_cons, List.length_nil]; omega, hb4.grown hg5 hb4.size (fun q hq => ((hO9.keep hA3).lt q hq).1), hB4.grown hg5 hB4.size (fun q hq => Nat.le_trans hb1.size ((hO9.keep hA3).lt q hq).1)⟩
                    case measure => simp [intOf]; omega
                  · have HZ : Hid (alikeF evs k j = false) := by unfold Hid; rw [HF.out]; simp [hlc]
                    have hlb : (X.lc == Y.lc) = false := by simp [hlc]
                    clear hlc Xm Ym
                    have h6 : Below wr.heap.size wr ((wr.alloc (.cells #[.int .i64 X.th, .int .i64 X.kd, .int .i64 X.lc, .int .i64 X.vl, .bool X.aq, .bool X.rl, .bool X.ex] 52)).alloc (.cells #[.int .i64 Y.th, .int .i64 Y.kd, .int .i64 Y.lc, .int .i64 Y.vl, .bool Y.aq, .bool Y.rl, .bool Y.ex] 52)) := ((Below.refl _ _).alloc (Nat.le_refl _) _).alloc (by simp) _
                    have hO9 := hO'.keep h6
                    have hb9 := Below.thru hbi h6 (Nat.le_refl _)
                    have hB9 := Below.thru hBi h6 (Nat.le_refl _)
                    go_wp2
                    go_roundw
                    case rel => exact ⟨j + 1, out', by omega, by go_num, hO9, by rw [HOUT'.out, rowP_no HZ.out], by omega, hb9, hB9⟩
                    case measure => simp [intOf]; omega
                · have Ym : memB Y = false := by unfold memB; simp [Yk, Yq]
                  have Y2 : (Y.kd == 2) = false := by simp [Yq]
                  clear Yk Yq
                  have HZ : Hid (alikeF evs k j = false) := by unfold Hid; rw [HF.out]; simp [Ym]
                  clear Xm Ym
                  have h6 : Below wr.heap.size wr ((wr.alloc (.cells #[.int .i64 X.th, .int .i64 X.kd, .int .i64 X.lc, .int .i64 X.vl, .bool X.aq, .bool X.rl, .bool X.ex] 52)).alloc (.cells #[.int .i64 Y.th, .int .i64 Y.kd, .int .i64 Y.lc, .int .i64 Y.vl, .bool Y.aq, .bool Y.rl, .bool Y.ex] 52)) := ((Below.refl _ _).alloc (Nat.le_refl _) _).alloc (by simp) _
                  have hO9 := hO'.keep h6
                  have hb9 := Below.thru hbi h6 (Nat.le_refl _)
                  have hB9 := Below.thru hBi h6 (Nat.le_refl _)
                  go_wp2
                  go_roundw
                  case rel => exact ⟨j + 1, out', by omega, by go_num, hO9, by rw [HOUT'.out, rowP_no HZ.out], by omega, hb9, hB9⟩
                  case measure => simp [intOf]; omega
            · have X1 : (X.kd == 1) = false := by simp [Xk]
              by_cases Xq : X.kd = 2
              · have Xm : memB X = true := by unfold memB; simp [Xq]
                have X2 : (X.kd == 2) = true := by simp [Xq]
                clear Xk Xq
                by_cases Yk : Y.kd = 1
                · have Ym : memB Y = true := by unfold memB; simp [Yk]
                  have Y1 : (Y.kd == 1) = true := by simp [Yk]
                  clear Yk
                  by_cases hlc : X.lc = Y.lc
                  · have HZ : Hid (alikeF evs k j = true) := by unfold Hid; rw [HF.out]; simp [Xm, Ym, hlc]
                    have hlb : (X.lc == Y.lc) = true := by simp [hlc]
                    clear hlc Xm Ym
                    obtain ⟨w6, hw6⟩ : ∃ w6, w6 = ((wr.alloc (.cells #[.int .i64 X.th, .int .i64 X.kd, .int .i64 X.lc, .int .i64 X.vl, .bool X.aq, .bool X.rl, .bool X.ex] 52)).alloc (.cells #[.int .i64 Y.th, .int .i64 Y.kd, .int .i64 Y.lc, .int .i64 Y.vl, .bool Y.aq, .bool Y.rl, .bool Y.ex] 52)) := ⟨_, rfl⟩
                    have s6 : w6.heap.size = wr.heap.size + 1 + 1 := by rw [hw6]; simp
                    have h6 : Below wr.heap.size wr w6 := by rw [hw6]; exact ((Below.refl _ _).alloc (Nat.le_refl _) _).alloc (by simp) _
                    have HW6 : Hid _ := hw6
                    clear hw6
                    have hO9 := hO'.keep h6
                    have hb9 := Below.thru hbi h6 (Nat.le_refl _)
                    have hB9 := Below.thru hBi h6 (Nat.le_refl _)
                    go_wp2_with (at_builtin; rw [← HW6.out]; have hA3 := below_new w6 (.cells #[.int .i64 (k : Int), .int .i64 (j : Int)] 83); have hB4 := Below.thru hB9 hA3 (Nat.le_refl _); have hb4 := Below.thru hb9 hA3 (Nat.le_refl _); refine wpList_pair (by rfl) (.tmp 62) (.tmp 66) (by rfl) w1.heap.size (.slice pa' out'.length ca') (wr.heap.size + 1 + 1) k j (by rfl) (by rfl) (hO9.keep hA3) (by rw [← s6]; simp) (by rw [← s6]; simp) (by omega) hb4.size ?_; intro p5 c5 w5 hO5 hg5)
                    go_roundw
                    case rel => exact ⟨j + 1, out' ++ [(k, j)], by omega, by go_num, hO5, by rw [HOUT'.out, rowP_yes HZ.out, List.append_assoc], by simp only [List.length_append, List.length_cons, List.length_nil]; omega, hb4.grown hg5 hb4.size (fun q hq => ((hO9.keep hA3).lt q hq).1), hB4.grown hg5 hB4.size (fun q hq => Nat.le_trans hb1.size ((hO9.keep hA3).lt q hq).1)⟩
                    case measure => simp [intOf]; omega
                  · have HZ : Hid (alikeF evs k j = false) := by unfold Hid; rw [HF.out]; simp [hlc]
                    have hlb : (X.lc == Y.lc) = false := by simp [hlc]
                    clear hlc Xm Ym
                    have h6 : Below wr.heap.size wr ((wr.alloc (.cells #[.int .i64 X.th, .int .i64 X.kd, .int .i64 X.lc, .int .i64 X.vl, .bool X.aq, .bool X.rl, .bool X.ex] 52)).alloc (.cells #[.int .i64 Y.th, .int .i64 Y.kd, .int .i64 Y.lc, .int .i64 Y.vl, .bool Y.aq, .bool Y.rl, .bool Y.ex] 52)) := ((Below.refl _ _).alloc (Nat.le_refl _) _).alloc (by simp) _
                    have hO9 := hO'.keep h6
                    have hb9 := Below.thru hbi h6 (Nat.le_refl _)
                    have hB9 := Below.thru hBi h6 (Nat.le_refl _)
                    go_wp2
                    go_roundw
                    case rel => exact ⟨j + 1, out', by omega, by go_num, hO9, by rw [HOUT'.out, rowP_no HZ.out], by omega, hb9, hB9⟩
                    case measure => simp [intOf]; omega
                · have Y1 : (Y.kd == 1) = false := by simp [Yk]
                  by_cases Yq : Y.kd = 2
                  · have Ym : memB Y = true := by unfold memB; simp [Yq]
                    have Y2 : (Y.kd == 2) = true := by simp [Yq]
                    clear Yk Yq
                    by_cases hlc : X.lc = Y.lc
                    · have HZ : Hid (alikeF evs k j = true) := by unfold Hid; rw [HF.out]; simp [Xm, Ym, hlc]
                      have hlb : (X.lc == Y.lc) = true := by simp [hlc]
                      clear hlc Xm Ym
                      obtain ⟨w6, hw6⟩ : ∃ w6, w6 = ((wr.alloc (.cells #[.int .i64 X.th, .int .i64 X.kd, .int .i64 X.lc, .int .i64 X.vl, .bool X.aq, .bool X.rl, .bool X.ex] 52)).alloc (.cells #[.int .i64 Y.th, .int .i64 Y.kd, .int .i64 Y.lc, .int .i64 Y.vl, .bool Y.aq, .bool Y.rl, .bool Y.ex] 52)) := ⟨_, rfl⟩
                      have s6 : w6.heap.size = wr.heap.size + 1 + 1 := by rw [hw6]; simp
                      have h6 : Below wr.heap.size wr w6 := by rw [hw6]; exact ((Below.refl _ _).alloc (Nat.le_refl _) _).alloc (by simp) _
                      have HW6 : Hid _ := hw6
                      clear hw6
                      have hO9 := hO'.keep h6
                      have hb9 := Below.thru hbi h6 (Nat.le_refl _)
                      have hB9 := Below.thru hBi h6 (Nat.le_refl _)
                      go_wp2_with (at_builtin; rw [← HW6.out]; have hA3 := below_new w6 (.cells #[.int .i64 (k : Int), .int .i64 (j : Int)] 83); have hB4 := Below.thru hB9 hA3 (Nat.le_refl _); have hb4 := Below.thru hb9 hA3 (Nat.le_refl _); refine wpList_pair (by rfl) (.tmp 62) (.tmp 66) (by rfl) w1.heap.size (.slice pa' out'.length ca') (wr.heap.size + 1 + 1) k j (by rfl) (by rfl) (hO9.keep hA3) (by rw [← s6]; simp) (by rw [← s6]; simp) (by omega) hb4.size ?_; intro p5 c5 w5 hO5 hg5)
                      go_roundw
                      case rel => exact ⟨j + 1, out' ++ [(k, j)], by omega, by go_num, hO5, by rw [HOUT'.out, rowP_yes HZ.out, List.append_assoc], by simp only [List.length_append, List.length_cons, List.length_nil]; omega, hb4.grown hg5 hb4.size (fun q hq => ((hO9.keep hA3).lt q hq).1), hB4.grown hg5 hB4.size (fun q hq => Nat.le_trans hb1.size ((hO9.keep hA3).lt q hq).1)⟩
                      case measure => simp [intOf]; omega
                    · have HZ : Hid (alikeF evs k j = false) := by unfold Hid; rw [HF.out]; simp [hlc]
                      have hlb : (X.lc == Y.lc) = false := by simp [hlc]
                      clear hlc Xm Ym
                      have h6 : Below wr.heap.size wr ((wr.alloc (.cells #[.int .i64 X.th, .int .i64 X.kd, .int .i64 X.lc, .int .i64 X.vl, .bool X.aq, .bool X.rl, .bool X.ex] 52)).alloc (.cells #[.int .i64 Y.th, .int .i64 Y.kd, .int .i64 Y.lc, .int .i64 Y.vl, .bool Y.aq, .bool Y.rl, .bool Y.ex] 52)) := ((Below.refl _ _).alloc (Nat.le_refl _) _).alloc (by simp) _
                      have hO9 := hO'.keep h6
                      have hb9 := Below.thru hbi h6 (Nat.le_refl _)
                      have hB9 := Below.thru hBi h6 (Nat.le_refl _)
                      go_wp2
                      go_roundw
                      case rel => exact ⟨j + 1, out', by omega, by go_num, hO9, by rw [HOUT'.out, rowP_no HZ.out], by omega, hb9, hB9⟩
                      case measure => simp [intOf]; omega
                  · have Ym : memB Y = false := by unfold memB; simp [Yk, Yq]
                    have Y2 : (Y.kd == 2) = false := by simp [Yq]
                    clear Yk Yq
                    have HZ : Hid (alikeF evs k j = false) := by unfold Hid; rw [HF.out]; simp [Ym]
                    clear Xm Ym
                    have h6 : Below wr.heap.size wr ((wr.alloc (.cells #[.int .i64 X.th, .int .i64 X.kd, .int .i64 X.lc, .int .i64 X.vl, .bool X.aq, .bool X.rl, .bool X.ex] 52)).alloc (.cells #[.int .i64 Y.th, .int .i64 Y.kd, .int .i64 Y.lc, .int .i64 Y.vl, .bool Y.aq, .bool Y.rl, .bool Y.ex] 52)) := ((Below.refl _ _).alloc (Nat.le_refl _) _).alloc (by simp) _
                    have hO9 := hO'.keep h6
                    have hb9 := Below.thru hbi h6 (Nat.le_refl _)
                    have hB9 := Below.thru hBi h6 (Nat.le_refl _)
                    go_wp2
                    go_roundw
                    case rel => exact ⟨j + 1, out', by omega, by go_num, hO9, by rw [HOUT'.out, rowP_no HZ.out], by omega, hb9, hB9⟩
                    case measure => simp [intOf]; omega
              · have Xm : memB X = false := by unfold memB; simp [Xk, Xq]
                have X2 : (X.kd == 2) = false := by simp [Xq]
                clear Xk Xq
                have HZ : Hid (alikeF evs k j = false) := by unfold Hid; rw [HF.out]; simp [Xm]
                clear Xm
                have h6 : Below wr.heap.size wr ((wr.alloc (.cells #[.int .i64 X.th, .int .i64 X.kd, .int .i64 X.lc, .int .i64 X.vl, .bool X.aq, .bool X.rl, .bool X.ex] 52)).alloc (.cells #[.int .i64 Y.th, .int .i64 Y.kd, .int .i64 Y.lc, .int .i64 Y.vl, .bool Y.aq, .bool Y.rl, .bool Y.ex] 52)) := ((Below.refl _ _).alloc (Nat.le_refl _) _).alloc (by simp) _
                have hO9 := hO'.keep h6
                have hb9 := Below.thru hbi h6 (Nat.le_refl _)
                have hB9 := Below.thru hBi h6 (Nat.le_refl _)
                go_wp2
                go_roundw
                case rel => exact ⟨j + 1, out', by omega, by go_num, hO9, by rw [HOUT'.out, rowP_no HZ.out], by omega, hb9, hB9⟩
                case measure => simp [intOf]; omega
        · have e : j = evs.length := by omega
          have hjn' : ¬ (j : Int) < (evs.length : Int) := by omega
          go_wp2
          go_roundw
          case rel => exact ⟨k + 1, out', by omega, by go_num, hO', by rw [HOUT'.out, pairsTo_succ, e], by omega, hbi, hBi⟩
          case measure => simp [intOf]; omega
    · have e : k = evs.length := by omega
      have hlt' : ¬ (k : Int) < (evs.length : Int) := by omega
      have hout2 : out = pairsF evs.length (alikeF evs) := by rw [← pairsTo_all, HOUT.out, e]
      have hMade := fun W (hb : Below w2.heap.size w2 W) => Made_any evs.length pa ca out W (by omega) (hO.sl.any.keep hb) (by rw [hout2]; exact pairsF_in) (by omega)
      rw [hout2] at hMade
      have HM : Hid _ := hMade
      have HO2 : Hid _ := hout2
      clear hMade hout2 e
      go_wp2_with (go_at_call 33; rw [HO2.out]; refine (HM.out _ (Below.refl _ _)).mono ?_; rintro e w3 ⟨v, rfl, hV, hb3⟩)
      go_ret
      exact ⟨v, rfl, by rw [← HMK.out]; exact hV, Below.thru hB hb3 (Nat.le_refl _)⟩
end Go.Proofs.YtcalinfdckklfaaGreatDoor
