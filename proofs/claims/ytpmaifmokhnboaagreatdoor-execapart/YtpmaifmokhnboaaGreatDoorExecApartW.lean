/- ExecApart, walked: it answers true. -/
import Derived.Test.YtpmaifmokhnboaaGreatDoorExecE
import Derived.Test.YtpmaifmokhnboaaGreatDoorValsFacts
import Derived.Test.YtpmaifmokhnboaaGreatDoorTestP
import Derived.Test.YtpmaifmokhnboaaGreatDoorExecF
import Derived.Test.YtpmaifmokhnboaaGreatDoorRelR
import Derived.Test.YtpmaifmokhnboaaGreatDoorExecPoM
namespace Go.Proofs.YtpmaifmokhnboaaGreatDoor
open Go.RowKit
attribute [local go_sem] Ext.cell Ext.frozen

set_option maxRecDepth 20000 in
set_option maxHeartbeats 2000000 in
theorem stores_any (a : Ev) (w : World) : Calls Tryz.prog 31 #[.agg a.cells.toArray] w fun e w' => e = .returned (.bool (a.ex && (a.kd == 2))) ∧ Below w.heap.size w w' := by
  obtain ⟨th, kd, lc, vl, aq, rl, ex⟩ := a
  have hb1 := below_new w (.cells #[.int .i64 th, .int .i64 kd, .int .i64 lc, .int .i64 vl, .bool aq, .bool rl, .bool ex] 52)
  show Calls _ _ #[.agg #[.int .i64 th, .int .i64 kd, .int .i64 lc, .int .i64 vl, .bool aq, .bool rl, .bool ex]] _ fun e w' => e = .returned (.bool (ex && (kd == 2))) ∧ _
  cases ex
  · go_enter Tryz.func31, Tryz.ntmps31
    go_wp2
    go_ret
    exact ⟨rfl, hb1⟩
  · go_enter Tryz.func31, Tryz.ntmps31
    go_wp2
    go_ret
    exact ⟨rfl, hb1⟩
theorem sl_two0i {w : World} {b : Nat} {t : TypeId} {x y : Int} (h : Blk w b #[.int .i64 x, .int .i64 y] t) : Sl IntE w (.slice (some ⟨b, 0, none⟩) [x, y].length 2) [x, y] := by
  refine ⟨_, 2, rfl, ⟨(fun e => by cases e), Nat.le_refl _⟩, fun _ => ⟨b, 0, rfl, trivial, fun i hi => ?_⟩⟩
  have hi' : i < 2 := hi
  match i, hi' with
  | 0, _ | 1, _ =>
    refine ⟨_, rfl, fun j u hu => ?_⟩
    rw [Blk.cell h]
    match j, hu with
    | 0, hu => exact hu
    | j + 1, hu => simp at hu

set_option maxRecDepth 20000 in
set_option maxHeartbeats 64000000 in
theorem ExecApart_true (pi pt : Option Addr) (ci ct : Nat) (xs : List Int) (ts : List (List Ins)) (n1 : Nat) (w : World) (T : FEnv w) (hi : Sl IntE w (.slice pi xs.length ci) xs) (ht : Sl ThrE w (.slice pt ts.length ct) ts) (hz : ∀ x ∈ xs, InZ x) (hn1 : n1 < 65536) :
    Calls Tryz.prog 7 #[.agg #[.slice pi xs.length ci, .slice pt ts.length ct], .int .u16 (n1 : Int)] w fun e w' => e = .returned (.bool true) ∧ Below w.heap.size w w' := by
  have hb1 := below_new w (.cells #[.slice pi xs.length ci, .slice pt ts.length ct] 63)
  have k1 : Blk (w.alloc (.cells #[.slice pi xs.length ci, .slice pt ts.length ct] 63)) w.heap.size #[.slice pi xs.length ci, .slice pt ts.length ct] 63 := Blk.new
  have hF := fun W (hB : Below w.heap.size w W) => Few_any pi pt ci ct xs ts W (ht.keep hB)
  have HF : Hid _ := hF
  clear hF
  have hne : ∀ w, Nonempty (Ext w) := ext_some
  have F1 := trivial
  cases hfew : fewB xs ts
  · have HW : Hid _ := hfew
    clear hfew
    go_enter Tryz.func7, Tryz.ntmps7
    go_wp2_with (first
      | (go_at_call 8; clear F1; refine (shown10_any _ (T.below hb1)).mono ?_; rintro e w1 ⟨rfl, hb2⟩; have B1 := Below.thru hb1 hb2 (Nat.le_refl _); have kk := k1.keep hb2; have x0 : w1.cell? ⟨w.heap.size, 0, none⟩ = some (.slice pi xs.length ci) := kk.cell 0; have x1 : w1.cell? ⟨w.heap.size, 1, none⟩ = some (.slice pt ts.length ct) := kk.cell 1; have lx := cell_lt x0; have F2 := trivial)
      | (go_at_call 20; clear F2; refine (HF.out _ B1).mono ?_; rintro e w2 ⟨rfl, hb3⟩; rw [HW.out]; have B2 := Below.thru B1 hb3 (Nat.le_refl _)))
    go_ret
    exact ⟨rfl, B2⟩
  · obtain ⟨hS, hfl, -, -⟩ := few_size hfew
    have HW : Hid _ := hfew
    clear hfew
    have hA := fun W (hB : Below w.heap.size w W) => All_any pi pt ci ct xs ts W (T.below hB) (hi.keep hB) (ht.keep hB) (by omega) hz
    by_cases h0 : (ofZ xs ts).2 = 0
    · have hmem := fun x (h : x ∈ (allZ xs ts).1) => allZ_mem h
      have hfac := fun x (h : x ∈ (allZ xs ts).1) => ap_facts h
      have hchk := check_facts (of_check h0).1
      have hsome := (of_vals h0).2
      rcases allZ_len h0 with ⟨-, hz2, hz1⟩ | ⟨-, hz0⟩
      · have hpos : 1 ≤ (allZ xs ts).1.length := by rw [hz1]; exact manyZ_pos hsome
        generalize allZ xs ts = z at *
        obtain ⟨zl, ze⟩ := z
        have hze : ze = 0 := hz2
        replace hpos : 1 ≤ zl.length := hpos
        clear hz1 hz2
        subst hze
        have HA : Hid _ := hA
        clear hA hsome
        have hk0 : n1 % zl.length < zl.length := Nat.mod_lt _ (by omega)
        have hmod : (n1 : Int) % (zl.length : Int) = ((n1 % zl.length : Nat) : Int) := by omega
        obtain ⟨k, hk⟩ : ∃ k, n1 % zl.length = k := ⟨_, rfl⟩
        rw [hk] at hk0 hmod
        have hzl0 : ((zl.length : Int) == 0) = false := by rw [beq_eq_false_iff_ne]; omega
        have hxz := List.getElem_mem hk0
        obtain ⟨h3, q, hway, hxe⟩ := hmem _ hxz
        have hfx := hfac _ hxz
        clear hway hxe
        have HMOD : Hid _ := hmod
        clear hmem hxz hk hfac
        obtain ⟨x, hxx⟩ : ∃ x, zl[k] = x := ⟨_, rfl⟩
        rw [hxx] at hfx
        have HXX : Hid _ := hxx
        clear hxx
        go_enter Tryz.func7, Tryz.ntmps7
        go_wp2_with (first
          | (go_at_call 8; clear F1; refine (shown10_any _ (T.below hb1)).mono ?_; rintro e w1 ⟨rfl, hb2⟩; have B1 := Below.thru hb1 hb2 (Nat.le_refl _); have kk := k1.keep hb2; have x0 : w1.cell? ⟨w.heap.size, 0, none⟩ = some (.slice pi xs.length ci) := kk.cell 0; have x1 : w1.cell? ⟨w.heap.size, 1, none⟩ = some (.slice pt ts.length ct) := kk.cell 1; have lx := cell_lt x0; have F2 := trivial)
          | (go_at_call 20; clear F2; refine (HF.out _ B1).mono ?_; rintro e w2 ⟨rfl, hb3⟩; rw [HW.out]; have B2 := Below.thru B1 hb3 (Nat.le_refl _); replace x0 := cell_keep x0 hb3; replace x1 := cell_keep x1 hb3; replace lx := cell_lt x0; have k2 := kk.keep hb3; have F3 := trivial)
          | (go_at_call 21; clear F3; refine (HA.out _ B2).mono ?_; rintro e w3 ⟨u3, rfl, hU3, hb4⟩; obtain ⟨p3, c3, rfl⟩ := hU3.len; have B3 := Below.thru B2 hb4 (Nat.le_refl _); replace x0 := cell_keep x0 hb4; replace x1 := cell_keep x1 hb4; replace lx := cell_lt x0; have k3 := k2.keep hb4; obtain ⟨xb, xo, r, rfl, -, hX, hat⟩ := (ex_at hU3).2 k hk0; rw [HXX.out] at hX; have q0 := hat.c0; have q1 := hat.c1; have q2 := hat.c2; have q3 := hat.c3; have q4 := hat.c4; have q5 := hat.c5; have q6 := hat.c6; have lq := cell_lt q0; have F4 := trivial)
          | (clear F4; refine wpList_storeB (by rfl) 42 (.tmp 8) (.tmp 45) (by rfl) w3.heap.size (exC r) _ 42 (by rfl) (by rfl) Blk.new (by kernel_rfl) (by rfl) hX.one ?_; intro w4 kx oL zL; simp only [Act.put]; have b4 : Below w3.heap.size w3 w4 := (below_new _ _).trans (oL.below (by simp) (fun k hk => by omega)); have B4 := Below.thru B3 b4 (Nat.le_refl _); have k4 := k3.keep b4; have X4 := hX.keep b4; replace x0 := cell_keep x0 b4; replace x1 := cell_keep x1 b4; replace lx := cell_lt x0; have y0 : w4.cell? ⟨w3.heap.size, 0, none⟩ = some (r 0) := kx.cell 0; have y1 : w4.cell? ⟨w3.heap.size, 1, none⟩ = some (r 1) := kx.cell 1; have y2 : w4.cell? ⟨w3.heap.size, 2, none⟩ = some (r 2) := kx.cell 2; have y3 : w4.cell? ⟨w3.heap.size, 3, none⟩ = some (r 3) := kx.cell 3; have y4 : w4.cell? ⟨w3.heap.size, 4, none⟩ = some (r 4) := kx.cell 4; have y5 : w4.cell? ⟨w3.heap.size, 5, none⟩ = some (r 5) := kx.cell 5; have y6 : w4.cell? ⟨w3.heap.size, 6, none⟩ = some (r 6) := kx.cell 6; have ly := kx.lt; clear zL oL; have F5 := trivial))
        obtain ⟨xe, po, ad, da, ct, rm, xg⟩ := x
        have hs0 : Sl EvE w4 (r 0) xe := X4.e0.any
        obtain ⟨p0, c0, e0⟩ := hs0.len
        have hs1 : Sl U32E w4 (r 1) po := X4.e1.any
        obtain ⟨p1, c1, e1⟩ := hs1.len
        have hs2 : Sl U32E w4 (r 2) ad := X4.e2.any
        obtain ⟨p2, c2, e2⟩ := hs2.len
        have hs3 : Sl U32E w4 (r 3) da := X4.e3.any
        obtain ⟨p3, c3, e3⟩ := hs3.len
        have hs4 : Sl U32E w4 (r 4) ct := X4.e4.any
        obtain ⟨p4, c4, e4⟩ := hs4.len
        have hs5 : Sl U32E w4 (r 5) rm := X4.e5.any
        obtain ⟨p5, c5, e5⟩ := hs5.len
        have hs6 : Sl (SlE IntE) w4 (r 6) xg := X4.e6.any
        obtain ⟨p6, c6, e6⟩ := hs6.len
        have XX : ExZ (fun _ => True) w4 r ⟨xe, po, ad, da, ct, rm, xg⟩ := X4.any
        have hexC : exC r = #[.slice p0 xe.length c0, .slice p1 po.length c1, .slice p2 ad.length c2, .slice p3 da.length c3, .slice p4 ct.length c4, .slice p5 rm.length c5, .slice p6 xg.length c6] := by unfold exC; rw [e0, e1, e2, e3, e4, e5, e6]
        rw [e0] at y0 hs0
        rw [e1] at y1 hs1
        rw [e2] at y2 hs2
        rw [e3] at y3 hs3
        rw [e4] at y4 hs4
        rw [e5] at y5 hs5
        rw [e6] at y6 hs6
        obtain ⟨f0, f1, f2, f3, f4⟩ := hfx
        simp only at f0 f1 f2 f3 f4
        obtain ⟨MM, hMM⟩ : ∃ v, kdM xe (fun e => [(1 : Int), 2].contains e.kd) = v := ⟨_, rfl⟩
        have HMM : Hid (∀ b W, Below w4.heap.size w4 W → Blk W b #[.int .i64 1, .int .i64 2] 3 → Calls Tryz.prog 12 #[.agg #[.slice p0 xe.length c0, .slice p1 po.length c1, .slice p2 ad.length c2, .slice p3 da.length c3, .slice p4 ct.length c4, .slice p5 rm.length c5, .slice p6 xg.length c6], .slice (some ⟨b, 0, none⟩) 2 2] W fun e w' => e = .returned (.int .u32 (MM : Nat)) ∧ Below W.heap.size W w') := fun b W hB hk => by
          rw [← hMM, ← hexC]
          exact Kinds_any r ⟨xe, po, ad, da, ct, rm, xg⟩ (some ⟨b, 0, none⟩) 2 [(1 : Int), 2] W (XX.keep hB) (by show xe.length ≤ 32; omega) (sl_two0i hk) (by decide)
        have lMM : MM < 4294967296 := by rw [← hMM]; exact kdM_lt (by omega)
        rw [hMM] at f3
        obtain ⟨O1, hO1⟩ : ∃ v, orL ad da = v := ⟨_, rfl⟩
        have HO1 : Hid (∀ p q c d W, Sl U32E W (.slice p ad.length c) ad → Sl U32E W (.slice q da.length d) da → Calls Tryz.prog 23 #[.slice p ad.length c, .slice q da.length d] W (Tl W O1)) := fun p q c d W h k => by rw [← hO1]; exact Or_l p q c d ad da W h k
        obtain ⟨O2, hO2⟩ : ∃ v, orL ct rm = v := ⟨_, rfl⟩
        have HO2 : Hid (∀ p q c d W, Sl U32E W (.slice p ct.length c) ct → Sl U32E W (.slice q rm.length d) rm → Calls Tryz.prog 23 #[.slice p ct.length c, .slice q rm.length d] W (Tl W O2)) := fun p q c d W h k => by rw [← hO2]; exact Or_l p q c d ct rm W h k
        rw [hO1, hO2] at f1
        obtain ⟨A0, hA0⟩ : ∃ v, orL O1 O2 = v := ⟨_, rfl⟩
        have HA0 : Hid (∀ p q c d W, Sl U32E W (.slice p O1.length c) O1 → Sl U32E W (.slice q O2.length d) O2 → Calls Tryz.prog 23 #[.slice p O1.length c, .slice q O2.length d] W (Tl W A0)) := fun p q c d W h k => by rw [← hA0]; exact Or_l p q c d O1 O2 W h k
        rw [hA0] at f1
        obtain ⟨AL, hAL⟩ : ∃ v, orL A0 po = v := ⟨_, rfl⟩
        have HAL : Hid (∀ p q c d W, Sl U32E W (.slice p A0.length c) A0 → Sl U32E W (.slice q po.length d) po → Calls Tryz.prog 23 #[.slice p A0.length c, .slice q po.length d] W (Tl W AL)) := fun p q c d W h k => by rw [← hAL]; exact Or_l p q c d A0 po W h k
        rw [hAL] at f1
        obtain ⟨OWN, hOWN⟩ : ∃ v, kdM xe (fun e => e.ex && (e.kd == 2)) = v := ⟨_, rfl⟩
        have HOWN : Hid (∀ W, Below w4.heap.size w4 W → Calls Tryz.prog 30 #[.agg #[.slice p0 xe.length c0, .slice p1 po.length c1, .slice p2 ad.length c2, .slice p3 da.length c3, .slice p4 ct.length c4, .slice p5 rm.length c5, .slice p6 xg.length c6], .func (.func 31) #[] #[]] W fun e w' => e = .returned (.int .u32 (OWN : Nat)) ∧ Below W.heap.size W w') := fun W hB => by
          rw [← hOWN, ← hexC]
          exact Mask_any r ⟨xe, po, ad, da, ct, rm, xg⟩ 31 #[] (fun e => e.ex && (e.kd == 2)) W (XX.keep hB) (by show xe.length ≤ 32; omega) (fun args w => by kernel_rfl) (fun e _ W' _ => stores_any e W')
        rw [hOWN] at f2
        obtain ⟨INN, hINN⟩ : ∃ v, mkR xe.length (innerF xe) = v := ⟨_, rfl⟩
        have HINN : Hid (∀ W, Below w4.heap.size w4 W → Calls Tryz.prog 18 #[.agg #[.slice p0 xe.length c0, .slice p1 po.length c1, .slice p2 ad.length c2, .slice p3 da.length c3, .slice p4 ct.length c4, .slice p5 rm.length c5, .slice p6 xg.length c6]] W fun e w' => ∃ v, e = .returned v ∧ SlA (fun k => W.heap.size ≤ k) U32E w' v INN ∧ Below W.heap.size W w') := fun W hB => by
          rw [← hINN, ← hexC]
          exact Inner_any r ⟨xe, po, ad, da, ct, rm, xg⟩ W (XX.keep hB) (by show xe.length ≤ 32; omega)
        obtain ⟨ALI, hALI⟩ : ∃ v, mkR xe.length (alikeF xe) = v := ⟨_, rfl⟩
        have HALI : Hid (∀ W, Below w4.heap.size w4 W → Calls Tryz.prog 16 #[.agg #[.slice p0 xe.length c0, .slice p1 po.length c1, .slice p2 ad.length c2, .slice p3 da.length c3, .slice p4 ct.length c4, .slice p5 rm.length c5, .slice p6 xg.length c6]] W fun e w' => ∃ v, e = .returned v ∧ SlA (fun k => W.heap.size ≤ k) U32E w' v ALI ∧ Below W.heap.size W w') := fun W hB => by
          rw [← hALI, ← hexC]
          exact Alike_any r ⟨xe, po, ad, da, ct, rm, xg⟩ W (XX.keep hB) (by show xe.length ≤ 32; omega)
        rw [hINN] at f1
        rw [hALI] at f3
        obtain ⟨PR, hPR⟩ : ∃ v, pairsL rm = v := ⟨_, rfl⟩
        have hpl : PR.length ≤ 1024 := by rw [← hPR]; exact pairsL_len rm
        rw [hPR] at f2 f4
        have HPR : Hid (∀ p c W, Sl U32E W (.slice p rm.length c) rm → Calls Tryz.prog 32 #[.slice p rm.length c] W fun e w' => ∃ p' c', e = .returned (.slice p' PR.length c') ∧ Sl PairE w' (.slice p' PR.length c') PR ∧ Below W.heap.size W w') := fun p c W h => by rw [← hPR]; exact Pairs_l p c rm W h
        have HF2 : Hid _ := f2
        have HF4 : Hid _ := f4
        obtain ⟨A4, hA4⟩ : ∃ v, andL AL INN = v := ⟨_, rfl⟩
        have HA4 : Hid (∀ p q c d W, Sl U32E W (.slice p AL.length c) AL → Sl U32E W (.slice q INN.length d) INN → Calls Tryz.prog 28 #[.slice p AL.length c, .slice q INN.length d] W (Tl W A4)) := fun p q c d W h k => by rw [← hA4]; exact And_l p q c d AL INN W h k
        rw [hA4] at f1
        obtain ⟨N5, hN5⟩ : ∃ v, onlyL ALI MM MM = v := ⟨_, rfl⟩
        have HN5 : Hid (∀ p c W, Sl U32E W (.slice p ALI.length c) ALI → Calls Tryz.prog 29 #[.slice p ALI.length c, .int .u32 (MM : Int), .int .u32 (MM : Int)] W (Tl W N5)) := fun p c W h => by rw [← hN5]; exact Only_l p c ALI W h MM MM lMM lMM
        rw [hN5] at f3
        have HS1 : Hid (∀ p q c d W, Sl U32E W (.slice p A4.length c) A4 → Sl U32E W (.slice q AL.length d) AL → Calls Tryz.prog 26 #[.slice p A4.length c, .slice q AL.length d] W fun e w' => e = .returned (.bool true) ∧ Below W.heap.size W w') := fun p q c d W h k => Same_t p q c d A4 AL W h k f1
        have HS3 : Hid (∀ p q c d W, Sl U32E W (.slice p N5.length c) N5 → Sl U32E W (.slice q ALI.length d) ALI → Calls Tryz.prog 26 #[.slice p N5.length c, .slice q ALI.length d] W fun e w' => e = .returned (.bool true) ∧ Below W.heap.size W w') := fun p q c d W h k => Same_t p q c d N5 ALI W h k f3
        simp only [e0, e1, e2, e3, e4, e5, e6]
        clear f1 f2 f3 f4 hMM hOWN hO1 hO2 hA0 hAL hINN hALI hA4 hN5 hPR hexC e0 e1 e2 e3 e4 e5 e6 XX X4 hX kx q0 q1 q2 q3 q4 q5 q6 lq x0 x1 lx
        refine wp_region_mix [([0, 1, 2, 3, 5, 6, 7, 8, 11, 12], 4), ([], 9), ([], 10), ([], 13)] [14] (by kernel_rfl) (by kernel_rfl) (fun _ _ d _ _ h => by cases d <;> exact h) ?_
        dsimp only [List.map, opAt]
        have C10 : Below w4.heap.size w4 w4.drew := Below.drew (Below.refl _ _)
        refine wpMix_stage ?_
        repeat (go_big_quiet_step (fail))
        refine wpQuiet_nil ?_
        go_wp2_with (go_at_call 23; refine (HO1.out p2 p3 c2 c3 _ (hs2.keep C10) (hs3.keep C10)).mono ?_; rintro e v11w ⟨P11, D11, rfl, V11, b11⟩)
        have C11 := Below.thru C10 b11 (Nat.le_refl _)
        refine ⟨C11, ?_⟩
        refine wpMix_stage ?_
        repeat (go_big_quiet_step (fail))
        refine wpQuiet_nil ?_
        go_wp2_with (go_at_call 23; refine (HO2.out p4 p5 c4 c5 _ (hs4.keep C11) (hs5.keep C11)).mono ?_; rintro e v12w ⟨P12, D12, rfl, V12, b12⟩)
        have C12 := Below.thru C11 b12 (Nat.le_refl _)
        refine ⟨C12, ?_⟩
        refine wpMix_stage ?_
        repeat (go_big_quiet_step (fail))
        refine wpQuiet_nil ?_
        go_wp2_with (go_at_call 23; refine (HA0.out P11 P12 D11 D12 _ (V11.keep b12) V12).mono ?_; rintro e v13w ⟨P13, D13, rfl, V13, b13⟩)
        have C13 := Below.thru C12 b13 (Nat.le_refl _)
        refine ⟨C13, ?_⟩
        refine wpMix_stage ?_
        repeat (go_big_quiet_step (fail))
        refine wpQuiet_nil ?_
        go_wp2_with (go_at_call 23; refine (HAL.out P13 p1 D13 c1 _ V13 (hs1.keep C13)).mono ?_; rintro e v14w ⟨P14, D14, rfl, V14, b14⟩)
        have C14 := Below.thru C13 b14 (Nat.le_refl _)
        refine ⟨C14, ?_⟩
        refine wpMix_last ?_
        repeat (go_big_quiet_step (fail))
        refine wpQuiet_nil ?_
        replace y0 := cell_keep y0 C14
        replace y1 := cell_keep y1 C14
        replace y2 := cell_keep y2 C14
        replace y3 := cell_keep y3 C14
        replace y4 := cell_keep y4 C14
        replace y5 := cell_keep y5 C14
        replace y6 := cell_keep y6 C14
        replace ly := cell_lt y0
        have grm := (hs5.keep C14)
        have gAL := V14
        go_wp2_with (first
          | (go_at_call 12; refine (HMM.out _ _ (Below.thru C14 (below_new _ _) (Nat.le_refl _)) Blk.new).mono ?_; rintro e w6 ⟨rfl, hb6⟩; have C6 := Below.thru (below_new v14w (.cells #[.int .i64 1, .int .i64 2] 3)) hb6 (Nat.le_refl _); have D6 := Below.thru C14 C6 (Nat.le_refl _); replace y0 := cell_keep y0 C6; replace y1 := cell_keep y1 C6; replace y2 := cell_keep y2 C6; replace y3 := cell_keep y3 C6; replace y4 := cell_keep y4 C6; replace y5 := cell_keep y5 C6; replace y6 := cell_keep y6 C6; replace ly := cell_lt y0; have grm6 := grm.keep C6; have gAL6 := gAL.keep C6; have F6 := trivial)
          | (go_at_call 30; clear F6; refine (HOWN.out _ D6).mono ?_; rintro e w7 ⟨rfl, hb7⟩; have D7 := Below.thru D6 hb7 (Nat.le_refl _); replace y0 := cell_keep y0 hb7; replace y1 := cell_keep y1 hb7; replace y2 := cell_keep y2 hb7; replace y3 := cell_keep y3 hb7; replace y4 := cell_keep y4 hb7; replace y5 := cell_keep y5 hb7; replace y6 := cell_keep y6 hb7; replace ly := cell_lt y0; have grm7 := grm6.keep hb7; have gAL7 := gAL6.keep hb7; have F7 := trivial)
          | (go_at_call 32; clear F7; refine (HPR.out _ _ _ grm7).mono ?_; rintro e w8 ⟨pp, cp, rfl, hPP, hb8⟩; have D8 := Below.thru D7 hb8 (Nat.le_refl _); replace y0 := cell_keep y0 hb8; replace y1 := cell_keep y1 hb8; replace y2 := cell_keep y2 hb8; replace y3 := cell_keep y3 hb8; replace y4 := cell_keep y4 hb8; replace y5 := cell_keep y5 hb8; replace y6 := cell_keep y6 hb8; replace ly := cell_lt y0; have gAL8 := gAL7.keep hb8; have F8 := trivial))
        go_loopw [12, 14] (fun m i wr => ∃ j : Nat, j ≤ PR.length ∧ i = .int .i64 j ∧ m = .int .u32 (toM (PR.take j) : Nat) ∧ wr = w8) (fun _ i _ => PR.length - (Go.RowKit.intOf i).toNat)
        case atStart => exact ⟨0, Nat.zero_le _, rfl, rfl, rfl⟩
        case round =>
          obtain ⟨j, hj, rfl, rfl, rfl⟩ := hrel
          by_cases hjl : j < PR.length
          · have hjl' : (j : Int) < (PR.length : Int) := by omega
            obtain ⟨bp, op, rfl, -, g1⟩ := (pair_at hPP).2 j hjl
            have hx32 := HF4.out _ (List.getElem_mem hjl)
            have hnx := toM_next (List.getElem?_eq_getElem hjl)
            have hlm : toM (PR.take j) < 4294967296 := toM_lt fun x hx => HF4.out x (List.mem_of_mem_take hx)
            generalize toM (PR.take j) = M at *
            generalize PR[j].2 = z at g1 hx32 hnx
            have hpw := pow_u32 (k := z) hx32
            have h2 : 2 ^ z < 4294967296 := by have := Nat.pow_lt_pow_right (a := 2) (m := z) (n := 32) (by decide) (by omega); simpa using this
            have hor := or_u32 hlm h2
            have HOR : Hid _ := hor
            have HNX : Hid _ := hnx
            have lg := cell_lt g1
            clear hnx hor h2 hlm
            go_wp2
            go_roundw
            case rel => exact ⟨j + 1, by omega, by go_num, by rw [HNX.out, ← HOR.out]; simp, trivial⟩
            case measure => simp [Go.RowKit.intOf]; omega
          · have hjl' : ¬ (j : Int) < (PR.length : Int) := by omega
            have e : PR.take j = PR := List.take_of_length_le (by omega)
            rw [e, HF2.out]
            clear e
            go_wp2
            refine wp_region_mix [([0, 1, 2, 3, 6], 4), ([], 5), ([], 7), ([8, 9, 10, 11, 12, 13, 14, 15, 17, 18, 20], 16), ([], 19), ([], 21), ([], 22)] [23, 24] (by kernel_rfl) (by kernel_rfl) (fun _ _ d _ _ h => by cases d <;> exact h) ?_
            dsimp only [List.map, opAt]
            have C30 : Below wr.heap.size wr wr.drew := Below.drew (Below.refl _ _)
            refine wpMix_stage ?_
            repeat (go_big_quiet_step (fail))
            refine wpQuiet_nil ?_
            go_wp2_with (go_at_call 18; refine (HINN.out _ (Below.thru D8 C30 (Nat.le_refl _))).mono ?_; rintro e v31w ⟨u31, rfl, V31, b31⟩)
            obtain ⟨P31, D31, rfl⟩ := V31.len
            have C31 := Below.thru C30 b31 (Nat.le_refl _)
            refine ⟨C31, ?_⟩
            refine wpMix_stage ?_
            repeat (go_big_quiet_step (fail))
            refine wpQuiet_nil ?_
            go_wp2_with (go_at_call 28; refine (HA4.out P14 P31 D14 D31 _ (gAL8.keep C31) V31.any).mono ?_; rintro e v32w ⟨P32, D32, rfl, V32, b32⟩)
            have C32 := Below.thru C31 b32 (Nat.le_refl _)
            refine ⟨C32, ?_⟩
            refine wpMix_stage ?_
            repeat (go_big_quiet_step (fail))
            refine wpQuiet_nil ?_
            go_wp2_with (go_at_call 26; refine (HS1.out P32 P14 D32 D14 _ V32 (gAL8.keep C32)).mono ?_; rintro e v33w ⟨rfl, b33⟩)
            have C33 := Below.thru C32 b33 (Nat.le_refl _)
            refine ⟨C33, ?_⟩
            refine wpMix_stage ?_
            repeat (go_big_quiet_step (fail))
            refine wpQuiet_nil ?_
            go_wp2_with (go_at_call 16; refine (HALI.out _ (Below.thru D8 C33 (Nat.le_refl _))).mono ?_; rintro e v34w ⟨u34, rfl, V34, b34⟩)
            obtain ⟨P34, D34, rfl⟩ := V34.len
            have C34 := Below.thru C33 b34 (Nat.le_refl _)
            refine ⟨C34, ?_⟩
            refine wpMix_stage ?_
            repeat (go_big_quiet_step (fail))
            refine wpQuiet_nil ?_
            go_wp2_with (go_at_call 29; refine (HN5.out P34 D34 _ V34.any).mono ?_; rintro e v35w ⟨P35, D35, rfl, V35, b35⟩)
            have C35 := Below.thru C34 b35 (Nat.le_refl _)
            refine ⟨C35, ?_⟩
            refine wpMix_stage ?_
            repeat (go_big_quiet_step (fail))
            refine wpQuiet_nil ?_
            go_wp2_with (go_at_call 16; refine (HALI.out _ (Below.thru D8 C35 (Nat.le_refl _))).mono ?_; rintro e v36w ⟨u36, rfl, V36, b36⟩)
            obtain ⟨P36, D36, rfl⟩ := V36.len
            have C36 := Below.thru C35 b36 (Nat.le_refl _)
            refine ⟨C36, ?_⟩
            refine wpMix_stage ?_
            repeat (go_big_quiet_step (fail))
            refine wpQuiet_nil ?_
            go_wp2_with (go_at_call 26; refine (HS3.out P35 P36 D35 D36 _ (V35.keep b36) V36.any).mono ?_; rintro e v37w ⟨rfl, b37⟩)
            have C37 := Below.thru C36 b37 (Nat.le_refl _)
            refine ⟨C37, ?_⟩
            refine wpMix_last ?_
            repeat (go_big_quiet_step (fail))
            refine wpQuiet_nil ?_
            go_wp2
            go_ret
            exact ⟨rfl, Below.thru (Below.thru B4 D8 (Nat.le_refl _)) C37 (Nat.le_refl _)⟩
      · rw [hz0] at hA
        have HA : Hid _ := hA
        clear hA hz0 h0
        go_enter Tryz.func7, Tryz.ntmps7
        go_wp2_with (first
          | (go_at_call 8; clear F1; refine (shown10_any _ (T.below hb1)).mono ?_; rintro e w1 ⟨rfl, hb2⟩; have B1 := Below.thru hb1 hb2 (Nat.le_refl _); have kk := k1.keep hb2; have x0 : w1.cell? ⟨w.heap.size, 0, none⟩ = some (.slice pi xs.length ci) := kk.cell 0; have x1 : w1.cell? ⟨w.heap.size, 1, none⟩ = some (.slice pt ts.length ct) := kk.cell 1; have lx := cell_lt x0; have F2 := trivial)
          | (go_at_call 20; clear F2; refine (HF.out _ B1).mono ?_; rintro e w2 ⟨rfl, hb3⟩; rw [HW.out]; have B2 := Below.thru B1 hb3 (Nat.le_refl _); replace x0 := cell_keep x0 hb3; replace x1 := cell_keep x1 hb3; replace lx := cell_lt x0; have k2 := kk.keep hb3; have F3 := trivial)
          | (go_at_call 21; clear F3; refine (HA.out _ B2).mono ?_; rintro e w3 ⟨u3, rfl, hU3, hb4⟩; obtain ⟨p3, c3, rfl⟩ := hU3.len; have B3 := Below.thru B2 hb4 (Nat.le_refl _); replace x0 := cell_keep x0 hb4; replace x1 := cell_keep x1 hb4; replace lx := cell_lt x0; have k3 := k2.keep hb4; have F4 := trivial))
        go_ret
        exact ⟨rfl, B3⟩
    · have hz0 := allZ_bad h0
      have hzb : ((ofZ xs ts).2 != 0) = true := by simp [h0]
      rw [hz0] at hA
      generalize ofZ xs ts = z at *
      have HA : Hid _ := hA
      clear hA hz0 h0
      go_enter Tryz.func7, Tryz.ntmps7
      go_wp2_with (first
        | (go_at_call 8; clear F1; refine (shown10_any _ (T.below hb1)).mono ?_; rintro e w1 ⟨rfl, hb2⟩; have B1 := Below.thru hb1 hb2 (Nat.le_refl _); have kk := k1.keep hb2; have x0 : w1.cell? ⟨w.heap.size, 0, none⟩ = some (.slice pi xs.length ci) := kk.cell 0; have x1 : w1.cell? ⟨w.heap.size, 1, none⟩ = some (.slice pt ts.length ct) := kk.cell 1; have lx := cell_lt x0; have F2 := trivial)
        | (go_at_call 20; clear F2; refine (HF.out _ B1).mono ?_; rintro e w2 ⟨rfl, hb3⟩; rw [HW.out]; have B2 := Below.thru B1 hb3 (Nat.le_refl _); replace x0 := cell_keep x0 hb3; replace x1 := cell_keep x1 hb3; replace lx := cell_lt x0; have k2 := kk.keep hb3; have F3 := trivial)
        | (go_at_call 21; clear F3; refine (HA.out _ B2).mono ?_; rintro e w3 ⟨u3, rfl, hU3, hb4⟩; obtain ⟨p3, c3, rfl⟩ := hU3.len; have B3 := Below.thru B2 hb4 (Nat.le_refl _); replace x0 := cell_keep x0 hb4; replace x1 := cell_keep x1 hb4; replace lx := cell_lt x0; have k3 := k2.keep hb4; have F4 := trivial))
      go_ret
      exact ⟨rfl, B3⟩
end Go.Proofs.YtpmaifmokhnboaaGreatDoor
