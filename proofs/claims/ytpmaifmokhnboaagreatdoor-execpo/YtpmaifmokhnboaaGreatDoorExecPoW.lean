/- ExecPo, walked: it answers true. -/
import Derived.Test.YtpmaifmokhnboaaGreatDoorExecE
import Derived.Test.YtpmaifmokhnboaaGreatDoorValsFacts
import Derived.Test.YtpmaifmokhnboaaGreatDoorTestP
import Derived.Test.YtpmaifmokhnboaaGreatDoorExecF
import Derived.Test.YtpmaifmokhnboaaGreatDoorRelR
import Derived.Test.YtpmaifmokhnboaaGreatDoorExecPoM
namespace Go.Proofs.YtpmaifmokhnboaaGreatDoor
open Go.RowKit
attribute [local go_sem] Ext.cell Ext.frozen

theorem sl_one0i {w : World} {b : Nat} {t : TypeId} {x : Int} (h : Blk w b #[.int .i64 x] t) : Sl IntE w (.slice (some ⟨b, 0, none⟩) [x].length 1) [x] := sl_one0 h

set_option maxRecDepth 20000 in
set_option maxHeartbeats 64000000 in
theorem ExecPo_true (pi pt : Option Addr) (ci ct : Nat) (xs : List Int) (ts : List (List Ins)) (n1 : Nat) (w : World) (T : FEnv w) (hi : Sl IntE w (.slice pi xs.length ci) xs) (ht : Sl ThrE w (.slice pt ts.length ct) ts) (hz : ∀ x ∈ xs, InZ x) (hn1 : n1 < 65536) :
    Calls Tryz.prog 5 #[.agg #[.slice pi xs.length ci, .slice pt ts.length ct], .int .u16 (n1 : Int)] w fun e w' => e = .returned (.bool true) ∧ Below w.heap.size w w' := by
  have hb1 := below_new w (.cells #[.slice pi xs.length ci, .slice pt ts.length ct] 63)
  have k1 : Blk (w.alloc (.cells #[.slice pi xs.length ci, .slice pt ts.length ct] 63)) w.heap.size #[.slice pi xs.length ci, .slice pt ts.length ct] 63 := Blk.new
  have hF := fun W (hB : Below w.heap.size w W) => Few_any pi pt ci ct xs ts W (ht.keep hB)
  have HF : Hid _ := hF
  clear hF
  have hne : ∀ w, Nonempty (Ext w) := ext_some
  have F1 := trivial
  cases hfew : fewB xs ts
  · have HW : Hid _ := hfew
    clear hfew
    go_enter Tryz.func5, Tryz.ntmps5
    go_wp2_with (first
      | (go_at_call 8; clear F1; refine (shown10_any _ (T.below hb1)).mono ?_; rintro e w1 ⟨rfl, hb2⟩; have B1 := Below.thru hb1 hb2 (Nat.le_refl _); have kk := k1.keep hb2; have x0 : w1.cell? ⟨w.heap.size, 0, none⟩ = some (.slice pi xs.length ci) := kk.cell 0; have x1 : w1.cell? ⟨w.heap.size, 1, none⟩ = some (.slice pt ts.length ct) := kk.cell 1; have lx := cell_lt x0; have F2 := trivial)
      | (go_at_call 20; clear F2; refine (HF.out _ B1).mono ?_; rintro e w2 ⟨rfl, hb3⟩; rw [HW.out]; have B2 := Below.thru B1 hb3 (Nat.le_refl _)))
    go_ret
    exact ⟨rfl, B2⟩
  · obtain ⟨hS, hfl, -, -⟩ := few_size hfew
    have HW : Hid _ := hfew
    clear hfew
    have hA := fun W (hB : Below w.heap.size w W) => All_any pi pt ci ct xs ts W (T.below hB) (hi.keep hB) (ht.keep hB) (by omega) hz
    by_cases h0 : (ofZ xs ts).2 = 0
    · have hmem := fun x (h : x ∈ (allZ xs ts).1) => allZ_mem h
      have hfac := fun x (h : x ∈ (allZ xs ts).1) => po_facts h
      have hchk := check_facts (of_check h0).1
      have hsome := (of_vals h0).2
      rcases allZ_len h0 with ⟨-, hz2, hz1⟩ | ⟨-, hz0⟩
      · have hpos : 1 ≤ (allZ xs ts).1.length := by rw [hz1]; exact manyZ_pos hsome
        generalize allZ xs ts = z at *
        obtain ⟨zl, ze⟩ := z
        have hze : ze = 0 := hz2
        replace hpos : 1 ≤ zl.length := hpos
        clear hz1 hz2
        subst hze
        have HA : Hid _ := hA
        clear hA hsome
        have hk0 : n1 % zl.length < zl.length := Nat.mod_lt _ (by omega)
        have hmod : (n1 : Int) % (zl.length : Int) = ((n1 % zl.length : Nat) : Int) := by omega
        obtain ⟨k, hk⟩ : ∃ k, n1 % zl.length = k := ⟨_, rfl⟩
        rw [hk] at hk0 hmod
        have hzl0 : ((zl.length : Int) == 0) = false := by rw [beq_eq_false_iff_ne]; omega
        have hxz := List.getElem_mem hk0
        obtain ⟨h3, q, hway, hxe⟩ := hmem _ hxz
        have hfx := hfac _ hxz
        clear hway hxe
        have HMOD : Hid _ := hmod
        clear hmem hxz hk hfac
        obtain ⟨x, hxx⟩ : ∃ x, zl[k] = x := ⟨_, rfl⟩
        rw [hxx] at hfx
        have HXX : Hid _ := hxx
        clear hxx
        go_enter Tryz.func5, Tryz.ntmps5
        go_wp2_with (first
          | (go_at_call 8; clear F1; refine (shown10_any _ (T.below hb1)).mono ?_; rintro e w1 ⟨rfl, hb2⟩; have B1 := Below.thru hb1 hb2 (Nat.le_refl _); have kk := k1.keep hb2; have x0 : w1.cell? ⟨w.heap.size, 0, none⟩ = some (.slice pi xs.length ci) := kk.cell 0; have x1 : w1.cell? ⟨w.heap.size, 1, none⟩ = some (.slice pt ts.length ct) := kk.cell 1; have lx := cell_lt x0; have F2 := trivial)
          | (go_at_call 20; clear F2; refine (HF.out _ B1).mono ?_; rintro e w2 ⟨rfl, hb3⟩; rw [HW.out]; have B2 := Below.thru B1 hb3 (Nat.le_refl _); replace x0 := cell_keep x0 hb3; replace x1 := cell_keep x1 hb3; replace lx := cell_lt x0; have k2 := kk.keep hb3; have F3 := trivial)
          | (go_at_call 21; clear F3; refine (HA.out _ B2).mono ?_; rintro e w3 ⟨u3, rfl, hU3, hb4⟩; obtain ⟨p3, c3, rfl⟩ := hU3.len; have B3 := Below.thru B2 hb4 (Nat.le_refl _); replace x0 := cell_keep x0 hb4; replace x1 := cell_keep x1 hb4; replace lx := cell_lt x0; have k3 := k2.keep hb4; obtain ⟨xb, xo, r, rfl, -, hX, hat⟩ := (ex_at hU3).2 k hk0; rw [HXX.out] at hX; have q0 := hat.c0; have q1 := hat.c1; have q2 := hat.c2; have q3 := hat.c3; have q4 := hat.c4; have q5 := hat.c5; have q6 := hat.c6; have lq := cell_lt q0; have F4 := trivial)
          | (clear F4; refine wpList_storeB (by rfl) 42 (.tmp 8) (.tmp 41) (by rfl) w3.heap.size (exC r) _ 42 (by rfl) (by rfl) Blk.new (by kernel_rfl) (by rfl) hX.one ?_; intro w4 kx oL zL; simp only [Act.put]; have b4 : Below w3.heap.size w3 w4 := (below_new _ _).trans (oL.below (by simp) (fun k hk => by omega)); have B4 := Below.thru B3 b4 (Nat.le_refl _); have k4 := k3.keep b4; have X4 := hX.keep b4; replace x0 := cell_keep x0 b4; replace x1 := cell_keep x1 b4; replace lx := cell_lt x0; have y0 : w4.cell? ⟨w3.heap.size, 0, none⟩ = some (r 0) := kx.cell 0; have y1 : w4.cell? ⟨w3.heap.size, 1, none⟩ = some (r 1) := kx.cell 1; have y2 : w4.cell? ⟨w3.heap.size, 2, none⟩ = some (r 2) := kx.cell 2; have y3 : w4.cell? ⟨w3.heap.size, 3, none⟩ = some (r 3) := kx.cell 3; have y4 : w4.cell? ⟨w3.heap.size, 4, none⟩ = some (r 4) := kx.cell 4; have y5 : w4.cell? ⟨w3.heap.size, 5, none⟩ = some (r 5) := kx.cell 5; have y6 : w4.cell? ⟨w3.heap.size, 6, none⟩ = some (r 6) := kx.cell 6; have ly := kx.lt; clear zL oL; have F5 := trivial))
        obtain ⟨xe, po, ad, da, ct, rm, xg⟩ := x
        have hs0 : Sl EvE w4 (r 0) xe := X4.e0.any
        obtain ⟨p0, c0, e0⟩ := hs0.len
        have hs1 : Sl U32E w4 (r 1) po := X4.e1.any
        obtain ⟨p1, c1, e1⟩ := hs1.len
        have hs2 : Sl U32E w4 (r 2) ad := X4.e2.any
        obtain ⟨p2, c2, e2⟩ := hs2.len
        have hs3 : Sl U32E w4 (r 3) da := X4.e3.any
        obtain ⟨p3, c3, e3⟩ := hs3.len
        have hs4 : Sl U32E w4 (r 4) ct := X4.e4.any
        obtain ⟨p4, c4, e4⟩ := hs4.len
        have hs5 : Sl U32E w4 (r 5) rm := X4.e5.any
        obtain ⟨p5, c5, e5⟩ := hs5.len
        have hs6 : Sl (SlE IntE) w4 (r 6) xg := X4.e6.any
        obtain ⟨p6, c6, e6⟩ := hs6.len
        have XX : ExZ (fun _ => True) w4 r ⟨xe, po, ad, da, ct, rm, xg⟩ := X4.any
        have hexC : exC r = #[.slice p0 xe.length c0, .slice p1 po.length c1, .slice p2 ad.length c2, .slice p3 da.length c3, .slice p4 ct.length c4, .slice p5 rm.length c5, .slice p6 xg.length c6] := by unfold exC; rw [e0, e1, e2, e3, e4, e5, e6]
        rw [e0] at y0 hs0
        rw [e1] at y1 hs1
        rw [e2] at y2 hs2
        rw [e3] at y3 hs3
        rw [e4] at y4 hs4
        rw [e5] at y5 hs5
        rw [e6] at y6 hs6
        obtain ⟨f0, f1, f2, f3, f4, f5, f6, f7⟩ := hfx
        simp only at f0 f1 f2 f3 f4 f5 f6 f7
        obtain ⟨RD, hRD⟩ : ∃ v, kdM xe (fun e => [(1 : Int)].contains e.kd) = v := ⟨_, rfl⟩
        have HRD : Hid (∀ b W, Below w4.heap.size w4 W → Blk W b #[.int .i64 1] 3 → Calls Tryz.prog 12 #[.agg #[.slice p0 xe.length c0, .slice p1 po.length c1, .slice p2 ad.length c2, .slice p3 da.length c3, .slice p4 ct.length c4, .slice p5 rm.length c5, .slice p6 xg.length c6], .slice (some ⟨b, 0, none⟩) 1 1] W fun e w' => e = .returned (.int .u32 (RD : Nat)) ∧ Below W.heap.size W w') := fun b W hB hk => by
          rw [← hRD, ← hexC]
          exact Kinds_any r ⟨xe, po, ad, da, ct, rm, xg⟩ (some ⟨b, 0, none⟩) 1 [(1 : Int)] W (XX.keep hB) (by show xe.length ≤ 32; omega) (sl_one0i hk) (by decide)
        have lRD : RD < 4294967296 := by rw [← hRD]; exact kdM_lt (by omega)
        obtain ⟨WR, hWR⟩ : ∃ v, kdM xe (fun e => [(2 : Int)].contains e.kd) = v := ⟨_, rfl⟩
        have HWR : Hid (∀ b W, Below w4.heap.size w4 W → Blk W b #[.int .i64 2] 3 → Calls Tryz.prog 12 #[.agg #[.slice p0 xe.length c0, .slice p1 po.length c1, .slice p2 ad.length c2, .slice p3 da.length c3, .slice p4 ct.length c4, .slice p5 rm.length c5, .slice p6 xg.length c6], .slice (some ⟨b, 0, none⟩) 1 1] W fun e w' => e = .returned (.int .u32 (WR : Nat)) ∧ Below W.heap.size W w') := fun b W hB hk => by
          rw [← hWR, ← hexC]
          exact Kinds_any r ⟨xe, po, ad, da, ct, rm, xg⟩ (some ⟨b, 0, none⟩) 1 [(2 : Int)] W (XX.keep hB) (by show xe.length ≤ 32; omega) (sl_one0i hk) (by decide)
        have lWR : WR < 4294967296 := by rw [← hWR]; exact kdM_lt (by omega)
        rw [hRD] at f5 f6
        rw [hWR] at f6
        obtain ⟨IV, hIV⟩ : ∃ v, invL po = v := ⟨_, rfl⟩
        have HIV : Hid (∀ p c W, Sl U32E W (.slice p po.length c) po → Calls Tryz.prog 24 #[.slice p po.length c] W (Tl W IV)) := fun p c W h => by rw [← hIV]; exact Inv_l p c po W h
        rw [hIV] at f3
        obtain ⟨BO, hBO⟩ : ∃ v, orL po IV = v := ⟨_, rfl⟩
        have HBO : Hid (∀ p q c d W, Sl U32E W (.slice p po.length c) po → Sl U32E W (.slice q IV.length d) IV → Calls Tryz.prog 23 #[.slice p po.length c, .slice q IV.length d] W (Tl W BO)) := fun p q c d W h k => by rw [← hBO]; exact Or_l p q c d po IV W h k
        rw [hBO] at f3
        obtain ⟨O1, hO1⟩ : ∃ v, orL ad da = v := ⟨_, rfl⟩
        have HO1 : Hid (∀ p q c d W, Sl U32E W (.slice p ad.length c) ad → Sl U32E W (.slice q da.length d) da → Calls Tryz.prog 23 #[.slice p ad.length c, .slice q da.length d] W (Tl W O1)) := fun p q c d W h k => by rw [← hO1]; exact Or_l p q c d ad da W h k
        obtain ⟨O2, hO2⟩ : ∃ v, orL ct rm = v := ⟨_, rfl⟩
        have HO2 : Hid (∀ p q c d W, Sl U32E W (.slice p ct.length c) ct → Sl U32E W (.slice q rm.length d) rm → Calls Tryz.prog 23 #[.slice p ct.length c, .slice q rm.length d] W (Tl W O2)) := fun p q c d W h k => by rw [← hO2]; exact Or_l p q c d ct rm W h k
        rw [hO1, hO2] at f4 f5
        obtain ⟨AL, hAL⟩ : ∃ v, orL O1 O2 = v := ⟨_, rfl⟩
        have HAL : Hid (∀ p q c d W, Sl U32E W (.slice p O1.length c) O1 → Sl U32E W (.slice q O2.length d) O2 → Calls Tryz.prog 23 #[.slice p O1.length c, .slice q O2.length d] W (Tl W AL)) := fun p q c d W h k => by rw [← hAL]; exact Or_l p q c d O1 O2 W h k
        rw [hAL] at f4 f5
        obtain ⟨PL, hPL⟩ : ∃ v, plusL po = v := ⟨_, rfl⟩
        have HPL : Hid (∀ p c W, Sl U32E W (.slice p po.length c) po → Calls Tryz.prog 27 #[.slice p po.length c] W (Tl W PL)) := fun p c W h => by rw [← hPL]; exact Plus_l p c po W h
        rw [hPL] at f2
        obtain ⟨INN, hINN⟩ : ∃ v, mkR xe.length (innerF xe) = v := ⟨_, rfl⟩
        have HINN : Hid (∀ W, Below w4.heap.size w4 W → Calls Tryz.prog 18 #[.agg #[.slice p0 xe.length c0, .slice p1 po.length c1, .slice p2 ad.length c2, .slice p3 da.length c3, .slice p4 ct.length c4, .slice p5 rm.length c5, .slice p6 xg.length c6]] W fun e w' => ∃ v, e = .returned v ∧ SlA (fun k => W.heap.size ≤ k) U32E w' v INN ∧ Below W.heap.size W w') := fun W hB => by
          rw [← hINN, ← hexC]
          exact Inner_any r ⟨xe, po, ad, da, ct, rm, xg⟩ W (XX.keep hB) (by show xe.length ≤ 32; omega)
        obtain ⟨ALI, hALI⟩ : ∃ v, mkR xe.length (alikeF xe) = v := ⟨_, rfl⟩
        have HALI : Hid (∀ W, Below w4.heap.size w4 W → Calls Tryz.prog 16 #[.agg #[.slice p0 xe.length c0, .slice p1 po.length c1, .slice p2 ad.length c2, .slice p3 da.length c3, .slice p4 ct.length c4, .slice p5 rm.length c5, .slice p6 xg.length c6]] W fun e w' => ∃ v, e = .returned v ∧ SlA (fun k => W.heap.size ≤ k) U32E w' v ALI ∧ Below W.heap.size W w') := fun W hB => by
          rw [← hALI, ← hexC]
          exact Alike_any r ⟨xe, po, ad, da, ct, rm, xg⟩ W (XX.keep hB) (by show xe.length ≤ 32; omega)
        rw [hINN] at f3
        rw [hALI] at f7
        obtain ⟨A4, hA4⟩ : ∃ v, andL AL po = v := ⟨_, rfl⟩
        have HA4 : Hid (∀ p q c d W, Sl U32E W (.slice p AL.length c) AL → Sl U32E W (.slice q po.length d) po → Calls Tryz.prog 28 #[.slice p AL.length c, .slice q po.length d] W (Tl W A4)) := fun p q c d W h k => by rw [← hA4]; exact And_l p q c d AL po W h k
        rw [hA4] at f4
        obtain ⟨N5, hN5⟩ : ∃ v, onlyL AL RD 4294967295 = v := ⟨_, rfl⟩
        have HN5 : Hid (∀ p c W, Sl U32E W (.slice p AL.length c) AL → Calls Tryz.prog 29 #[.slice p AL.length c, .int .u32 (RD : Int), .int .u32 4294967295] W (Tl W N5)) := fun p c W h => by rw [← hN5]; exact Only_l p c AL W h RD 4294967295 lRD (by decide)
        rw [hN5] at f5
        obtain ⟨N6, hN6⟩ : ∃ v, onlyL da RD WR = v := ⟨_, rfl⟩
        have HN6 : Hid (∀ p c W, Sl U32E W (.slice p da.length c) da → Calls Tryz.prog 29 #[.slice p da.length c, .int .u32 (RD : Int), .int .u32 (WR : Int)] W (Tl W N6)) := fun p c W h => by rw [← hN6]; exact Only_l p c da W h RD WR lRD lWR
        rw [hN6] at f6
        obtain ⟨A7, hA7⟩ : ∃ v, andL rm ALI = v := ⟨_, rfl⟩
        have HA7 : Hid (∀ p q c d W, Sl U32E W (.slice p rm.length c) rm → Sl U32E W (.slice q ALI.length d) ALI → Calls Tryz.prog 28 #[.slice p rm.length c, .slice q ALI.length d] W (Tl W A7)) := fun p q c d W h k => by rw [← hA7]; exact And_l p q c d rm ALI W h k
        rw [hA7] at f7
        have HAC : Hid (∀ p c W, Sl U32E W (.slice p po.length c) po → Calls Tryz.prog 25 #[.slice p po.length c] W fun e w' => e = .returned (.bool true) ∧ Below W.heap.size W w') := fun p c W h => by rw [← f1]; exact Acyclic_l p c po W h
        have HS2 : Hid (∀ p q c d W, Sl U32E W (.slice p PL.length c) PL → Sl U32E W (.slice q po.length d) po → Calls Tryz.prog 26 #[.slice p PL.length c, .slice q po.length d] W fun e w' => e = .returned (.bool true) ∧ Below W.heap.size W w') := fun p q c d W h k => Same_t p q c d PL po W h k f2
        have HS3 : Hid (∀ p q c d W, Sl U32E W (.slice p BO.length c) BO → Sl U32E W (.slice q INN.length d) INN → Calls Tryz.prog 26 #[.slice p BO.length c, .slice q INN.length d] W fun e w' => e = .returned (.bool true) ∧ Below W.heap.size W w') := fun p q c d W h k => Same_t p q c d BO INN W h k f3
        have HS4 : Hid (∀ p q c d W, Sl U32E W (.slice p A4.length c) A4 → Sl U32E W (.slice q AL.length d) AL → Calls Tryz.prog 26 #[.slice p A4.length c, .slice q AL.length d] W fun e w' => e = .returned (.bool true) ∧ Below W.heap.size W w') := fun p q c d W h k => Same_t p q c d A4 AL W h k f4
        have HS5 : Hid (∀ p q c d W, Sl U32E W (.slice p N5.length c) N5 → Sl U32E W (.slice q AL.length d) AL → Calls Tryz.prog 26 #[.slice p N5.length c, .slice q AL.length d] W fun e w' => e = .returned (.bool true) ∧ Below W.heap.size W w') := fun p q c d W h k => Same_t p q c d N5 AL W h k f5
        have HS6 : Hid (∀ p q c d W, Sl U32E W (.slice p N6.length c) N6 → Sl U32E W (.slice q da.length d) da → Calls Tryz.prog 26 #[.slice p N6.length c, .slice q da.length d] W fun e w' => e = .returned (.bool true) ∧ Below W.heap.size W w') := fun p q c d W h k => Same_t p q c d N6 da W h k f6
        have HS7 : Hid (∀ p q c d W, Sl U32E W (.slice p A7.length c) A7 → Sl U32E W (.slice q rm.length d) rm → Calls Tryz.prog 26 #[.slice p A7.length c, .slice q rm.length d] W fun e w' => e = .returned (.bool true) ∧ Below W.heap.size W w') := fun p q c d W h k => Same_t p q c d A7 rm W h k f7
        simp only [e0, e1, e2, e3, e4, e5, e6]
        clear f1 f2 f3 f4 f5 f6 f7 hRD hWR hIV hBO hO1 hO2 hAL hPL hINN hALI hA4 hN5 hN6 hA7 hexC e0 e1 e2 e3 e4 e5 e6 XX X4 hX kx q0 q1 q2 q3 q4 q5 q6 lq x0 x1 lx
        go_wp2_with (go_at_call 12; refine (HRD.out _ _ (below_new _ _) Blk.new).mono ?_; rintro e w5 ⟨rfl, hb5⟩; have C5 := Below.thru (below_new w4 (.cells #[.int .i64 1] 3)) hb5 (Nat.le_refl _); replace y0 := cell_keep y0 C5; replace y1 := cell_keep y1 C5; replace y2 := cell_keep y2 C5; replace y3 := cell_keep y3 C5; replace y4 := cell_keep y4 C5; replace y5 := cell_keep y5 C5; replace y6 := cell_keep y6 C5; replace ly := cell_lt y0)
        refine wp_region_mix [([0, 1, 2, 3], 4), ([], 5)] [6] (by kernel_rfl) (by kernel_rfl) (fun _ _ d _ _ h => by cases d <;> exact h) ?_
        dsimp only [List.map, opAt]
        have C10 : Below w5.heap.size w5 w5.drew := Below.drew (Below.refl _ _)
        refine wpMix_stage ?_
        repeat (go_big_quiet_step (fail))
        refine wpQuiet_nil ?_
        go_wp2_with (go_at_call 24; refine (HIV.out p1 c1 _ ((hs1.keep C5).keep C10)).mono ?_; rintro e v11w ⟨P11, D11, rfl, V11, b11⟩)
        have C11 := Below.thru C10 b11 (Nat.le_refl _)
        refine ⟨C11, ?_⟩
        refine wpMix_stage ?_
        repeat (go_big_quiet_step (fail))
        refine wpQuiet_nil ?_
        go_wp2_with (go_at_call 23; refine (HBO.out p1 P11 c1 D11 _ ((hs1.keep C5).keep C11) V11).mono ?_; rintro e v12w ⟨P12, D12, rfl, V12, b12⟩)
        have C12 := Below.thru C11 b12 (Nat.le_refl _)
        refine ⟨C12, ?_⟩
        refine wpMix_last ?_
        repeat (go_big_quiet_step (fail))
        refine wpQuiet_nil ?_
        replace y0 := cell_keep y0 C12
        replace y1 := cell_keep y1 C12
        replace y2 := cell_keep y2 C12
        replace y3 := cell_keep y3 C12
        replace y4 := cell_keep y4 C12
        replace y5 := cell_keep y5 C12
        replace y6 := cell_keep y6 C12
        replace ly := cell_lt y0
        have g0 := ((hs1.keep C5).keep C12)
        have g1 := ((hs2.keep C5).keep C12)
        have g2 := ((hs3.keep C5).keep C12)
        have g3 := ((hs4.keep C5).keep C12)
        have g4 := ((hs5.keep C5).keep C12)
        have gBO := V12
        go_wp2
        refine wp_region_mix [([0, 1, 2, 3, 5, 6, 7, 8], 4), ([], 9), ([], 10)] [11] (by kernel_rfl) (by kernel_rfl) (fun _ _ d _ _ h => by cases d <;> exact h) ?_
        dsimp only [List.map, opAt]
        have C20 : Below v12w.heap.size v12w v12w.drew := Below.drew (Below.refl _ _)
        refine wpMix_stage ?_
        repeat (go_big_quiet_step (fail))
        refine wpQuiet_nil ?_
        go_wp2_with (go_at_call 23; refine (HO1.out p2 p3 c2 c3 _ (g1.keep C20) (g2.keep C20)).mono ?_; rintro e v21w ⟨P21, D21, rfl, V21, b21⟩)
        have C21 := Below.thru C20 b21 (Nat.le_refl _)
        refine ⟨C21, ?_⟩
        refine wpMix_stage ?_
        repeat (go_big_quiet_step (fail))
        refine wpQuiet_nil ?_
        go_wp2_with (go_at_call 23; refine (HO2.out p4 p5 c4 c5 _ (g3.keep C21) (g4.keep C21)).mono ?_; rintro e v22w ⟨P22, D22, rfl, V22, b22⟩)
        have C22 := Below.thru C21 b22 (Nat.le_refl _)
        refine ⟨C22, ?_⟩
        refine wpMix_stage ?_
        repeat (go_big_quiet_step (fail))
        refine wpQuiet_nil ?_
        go_wp2_with (go_at_call 23; refine (HAL.out P21 P22 D21 D22 _ (V21.keep b22) V22).mono ?_; rintro e v23w ⟨P23, D23, rfl, V23, b23⟩)
        have C23 := Below.thru C22 b23 (Nat.le_refl _)
        refine ⟨C23, ?_⟩
        refine wpMix_last ?_
        repeat (go_big_quiet_step (fail))
        refine wpQuiet_nil ?_
        replace y0 := cell_keep y0 C23
        replace y1 := cell_keep y1 C23
        replace y2 := cell_keep y2 C23
        replace y3 := cell_keep y3 C23
        replace y4 := cell_keep y4 C23
        replace y5 := cell_keep y5 C23
        replace y6 := cell_keep y6 C23
        replace ly := cell_lt y0
        have j0 := (g0.keep C23)
        have j1 := (g1.keep C23)
        have j2 := (g2.keep C23)
        have j3 := (g3.keep C23)
        have j4 := (g4.keep C23)
        have jBO := (gBO.keep C23)
        have jAL := V23
        have D7 : Below w4.heap.size w4 v23w := Below.thru (Below.thru C5 C12 (Nat.le_refl _)) C23 (Nat.le_refl _)
        go_wp2_with (go_at_call 12; refine (HWR.out _ _ (Below.thru D7 (below_new _ _) (Nat.le_refl _)) Blk.new).mono ?_; rintro e w8 ⟨rfl, hb8⟩; have C8 := Below.thru (below_new v23w (.cells #[.int .i64 2] 3)) hb8 (Nat.le_refl _); replace y0 := cell_keep y0 C8; replace y1 := cell_keep y1 C8; replace y2 := cell_keep y2 C8; replace y3 := cell_keep y3 C8; replace y4 := cell_keep y4 C8; replace y5 := cell_keep y5 C8; replace y6 := cell_keep y6 C8; replace ly := cell_lt y0)
        have D8 := Below.thru D7 C8 (Nat.le_refl _)
        refine wp_region_mix [([0, 1, 2, 3], 4), ([5, 6, 7, 8, 10, 11], 9), ([], 12), ([13, 14, 15, 16], 17), ([], 18), ([19, 20, 21, 22, 23, 25], 24), ([], 26), ([27, 28, 29, 30, 32], 31), ([], 33), ([34, 35, 36, 37, 38, 39, 41, 42], 40), ([], 43), ([44, 45, 46, 47, 48, 51, 52], 49), ([], 50), ([], 53)] [54, 55] (by kernel_rfl) (by kernel_rfl) (fun _ _ d _ _ h => by cases d <;> exact h) ?_
        dsimp only [List.map, opAt]
        have C30 : Below w8.heap.size w8 w8.drew := Below.drew (Below.refl _ _)
        refine wpMix_stage ?_
        repeat (go_big_quiet_step (fail))
        refine wpQuiet_nil ?_
        go_wp2_with (go_at_call 25; refine (HAC.out p1 c1 _ ((j0.keep C8).keep C30)).mono ?_; rintro e v31w ⟨rfl, b31⟩)
        have C31 := Below.thru C30 b31 (Nat.le_refl _)
        refine ⟨C31, ?_⟩
        refine wpMix_stage ?_
        repeat (go_big_quiet_step (fail))
        refine wpQuiet_nil ?_
        go_wp2_with (go_at_call 27; refine (HPL.out p1 c1 _ ((j0.keep C8).keep C31)).mono ?_; rintro e v32w ⟨P32, D32, rfl, V32, b32⟩)
        have C32 := Below.thru C31 b32 (Nat.le_refl _)
        refine ⟨C32, ?_⟩
        refine wpMix_stage ?_
        repeat (go_big_quiet_step (fail))
        refine wpQuiet_nil ?_
        go_wp2_with (go_at_call 26; refine (HS2.out P32 p1 D32 c1 _ V32 ((j0.keep C8).keep C32)).mono ?_; rintro e v33w ⟨rfl, b33⟩)
        have C33 := Below.thru C32 b33 (Nat.le_refl _)
        refine ⟨C33, ?_⟩
        refine wpMix_stage ?_
        repeat (go_big_quiet_step (fail))
        refine wpQuiet_nil ?_
        go_wp2_with (go_at_call 18; refine (HINN.out _ (Below.thru D8 C33 (Nat.le_refl _))).mono ?_; rintro e v34w ⟨u34, rfl, V34, b34⟩)
        obtain ⟨P34, D34, rfl⟩ := V34.len
        have C34 := Below.thru C33 b34 (Nat.le_refl _)
        refine ⟨C34, ?_⟩
        refine wpMix_stage ?_
        repeat (go_big_quiet_step (fail))
        refine wpQuiet_nil ?_
        go_wp2_with (go_at_call 26; refine (HS3.out P12 P34 D12 D34 _ ((jBO.keep C8).keep C34) V34.any).mono ?_; rintro e v35w ⟨rfl, b35⟩)
        have C35 := Below.thru C34 b35 (Nat.le_refl _)
        refine ⟨C35, ?_⟩
        refine wpMix_stage ?_
        repeat (go_big_quiet_step (fail))
        refine wpQuiet_nil ?_
        go_wp2_with (go_at_call 28; refine (HA4.out P23 p1 D23 c1 _ ((jAL.keep C8).keep C35) ((j0.keep C8).keep C35)).mono ?_; rintro e v36w ⟨P36, D36, rfl, V36, b36⟩)
        have C36 := Below.thru C35 b36 (Nat.le_refl _)
        refine ⟨C36, ?_⟩
        refine wpMix_stage ?_
        repeat (go_big_quiet_step (fail))
        refine wpQuiet_nil ?_
        go_wp2_with (go_at_call 26; refine (HS4.out P36 P23 D36 D23 _ V36 ((jAL.keep C8).keep C36)).mono ?_; rintro e v37w ⟨rfl, b37⟩)
        have C37 := Below.thru C36 b37 (Nat.le_refl _)
        refine ⟨C37, ?_⟩
        refine wpMix_stage ?_
        repeat (go_big_quiet_step (fail))
        refine wpQuiet_nil ?_
        go_wp2_with (go_at_call 29; refine (HN5.out P23 D23 _ ((jAL.keep C8).keep C37)).mono ?_; rintro e v38w ⟨P38, D38, rfl, V38, b38⟩)
        have C38 := Below.thru C37 b38 (Nat.le_refl _)
        refine ⟨C38, ?_⟩
        refine wpMix_stage ?_
        repeat (go_big_quiet_step (fail))
        refine wpQuiet_nil ?_
        go_wp2_with (go_at_call 26; refine (HS5.out P38 P23 D38 D23 _ V38 ((jAL.keep C8).keep C38)).mono ?_; rintro e v39w ⟨rfl, b39⟩)
        have C39 := Below.thru C38 b39 (Nat.le_refl _)
        refine ⟨C39, ?_⟩
        refine wpMix_stage ?_
        repeat (go_big_quiet_step (fail))
        refine wpQuiet_nil ?_
        go_wp2_with (go_at_call 29; refine (HN6.out p3 c3 _ ((j2.keep C8).keep C39)).mono ?_; rintro e v40w ⟨P40, D40, rfl, V40, b40⟩)
        have C40 := Below.thru C39 b40 (Nat.le_refl _)
        refine ⟨C40, ?_⟩
        refine wpMix_stage ?_
        repeat (go_big_quiet_step (fail))
        refine wpQuiet_nil ?_
        go_wp2_with (go_at_call 26; refine (HS6.out P40 p3 D40 c3 _ V40 ((j2.keep C8).keep C40)).mono ?_; rintro e v41w ⟨rfl, b41⟩)
        have C41 := Below.thru C40 b41 (Nat.le_refl _)
        refine ⟨C41, ?_⟩
        refine wpMix_stage ?_
        repeat (go_big_quiet_step (fail))
        refine wpQuiet_nil ?_
        go_wp2_with (go_at_call 16; refine (HALI.out _ (Below.thru D8 C41 (Nat.le_refl _))).mono ?_; rintro e v42w ⟨u42, rfl, V42, b42⟩)
        obtain ⟨P42, D42, rfl⟩ := V42.len
        have C42 := Below.thru C41 b42 (Nat.le_refl _)
        refine ⟨C42, ?_⟩
        refine wpMix_stage ?_
        repeat (go_big_quiet_step (fail))
        refine wpQuiet_nil ?_
        go_wp2_with (go_at_call 28; refine (HA7.out p5 P42 c5 D42 _ ((j4.keep C8).keep C42) V42.any).mono ?_; rintro e v43w ⟨P43, D43, rfl, V43, b43⟩)
        have C43 := Below.thru C42 b43 (Nat.le_refl _)
        refine ⟨C43, ?_⟩
        refine wpMix_stage ?_
        repeat (go_big_quiet_step (fail))
        refine wpQuiet_nil ?_
        go_wp2_with (go_at_call 26; refine (HS7.out P43 p5 D43 c5 _ V43 ((j4.keep C8).keep C43)).mono ?_; rintro e v44w ⟨rfl, b44⟩)
        have C44 := Below.thru C43 b44 (Nat.le_refl _)
        refine ⟨C44, ?_⟩
        refine wpMix_last ?_
        repeat (go_big_quiet_step (fail))
        refine wpQuiet_nil ?_
        go_wp2
        go_ret
        exact ⟨rfl, Below.thru (Below.thru B4 D8 (Nat.le_refl _)) C44 (Nat.le_refl _)⟩
      · rw [hz0] at hA
        have HA : Hid _ := hA
        clear hA hz0 h0
        go_enter Tryz.func5, Tryz.ntmps5
        go_wp2_with (first
          | (go_at_call 8; clear F1; refine (shown10_any _ (T.below hb1)).mono ?_; rintro e w1 ⟨rfl, hb2⟩; have B1 := Below.thru hb1 hb2 (Nat.le_refl _); have kk := k1.keep hb2; have x0 : w1.cell? ⟨w.heap.size, 0, none⟩ = some (.slice pi xs.length ci) := kk.cell 0; have x1 : w1.cell? ⟨w.heap.size, 1, none⟩ = some (.slice pt ts.length ct) := kk.cell 1; have lx := cell_lt x0; have F2 := trivial)
          | (go_at_call 20; clear F2; refine (HF.out _ B1).mono ?_; rintro e w2 ⟨rfl, hb3⟩; rw [HW.out]; have B2 := Below.thru B1 hb3 (Nat.le_refl _); replace x0 := cell_keep x0 hb3; replace x1 := cell_keep x1 hb3; replace lx := cell_lt x0; have k2 := kk.keep hb3; have F3 := trivial)
          | (go_at_call 21; clear F3; refine (HA.out _ B2).mono ?_; rintro e w3 ⟨u3, rfl, hU3, hb4⟩; obtain ⟨p3, c3, rfl⟩ := hU3.len; have B3 := Below.thru B2 hb4 (Nat.le_refl _); replace x0 := cell_keep x0 hb4; replace x1 := cell_keep x1 hb4; replace lx := cell_lt x0; have k3 := k2.keep hb4; have F4 := trivial))
        go_ret
        exact ⟨rfl, B3⟩
    · have hz0 := allZ_bad h0
      have hzb : ((ofZ xs ts).2 != 0) = true := by simp [h0]
      rw [hz0] at hA
      generalize ofZ xs ts = z at *
      have HA : Hid _ := hA
      clear hA hz0 h0
      go_enter Tryz.func5, Tryz.ntmps5
      go_wp2_with (first
        | (go_at_call 8; clear F1; refine (shown10_any _ (T.below hb1)).mono ?_; rintro e w1 ⟨rfl, hb2⟩; have B1 := Below.thru hb1 hb2 (Nat.le_refl _); have kk := k1.keep hb2; have x0 : w1.cell? ⟨w.heap.size, 0, none⟩ = some (.slice pi xs.length ci) := kk.cell 0; have x1 : w1.cell? ⟨w.heap.size, 1, none⟩ = some (.slice pt ts.length ct) := kk.cell 1; have lx := cell_lt x0; have F2 := trivial)
        | (go_at_call 20; clear F2; refine (HF.out _ B1).mono ?_; rintro e w2 ⟨rfl, hb3⟩; rw [HW.out]; have B2 := Below.thru B1 hb3 (Nat.le_refl _); replace x0 := cell_keep x0 hb3; replace x1 := cell_keep x1 hb3; replace lx := cell_lt x0; have k2 := kk.keep hb3; have F3 := trivial)
        | (go_at_call 21; clear F3; refine (HA.out _ B2).mono ?_; rintro e w3 ⟨u3, rfl, hU3, hb4⟩; obtain ⟨p3, c3, rfl⟩ := hU3.len; have B3 := Below.thru B2 hb4 (Nat.le_refl _); replace x0 := cell_keep x0 hb4; replace x1 := cell_keep x1 hb4; replace lx := cell_lt x0; have k3 := k2.keep hb4; have F4 := trivial))
      go_ret
      exact ⟨rfl, B3⟩
end Go.Proofs.YtpmaifmokhnboaaGreatDoor
