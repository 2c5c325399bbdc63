/- FlowRun2, FlowShown: what is used of them. -/
import Derived.Test.YtcalinfdckklfaaGreatDoorPk21
import Derived.Test.YtcalinfdckklfaaGreatDoorPk1
import Derived.Test.YtcalinfdckklfaaGreatDoorPk14
namespace Go.Proofs.YtcalinfdckklfaaGreatDoor
open Go.RowKit
attribute [local go_sem] Ext.cell Ext.frozen

theorem Bar.only {S : Nat → Prop} {w w' : World} (T : Bar w) (ho : Only S w w') (hS : ¬ S 1) : Bar w' := by
  have k : ∀ o, w'.cell? ⟨1, o, none⟩ = w.cell? ⟨1, o, none⟩ := fun o => World.cell?_of_block (w := w) (a := ⟨1, o, none⟩) (ho.block _ (cell_lt T.1) hS)
  exact ⟨(k _).trans T.1, (k _).trans T.2.1, (k _).trans T.2.2⟩
theorem one16 {w : World} {b base : Nat} {locs : Int} {vv lv : Value} {r : Nat → Value} {s : St} (h : RunAt w b base locs vv lv r s) : (trC r s).all (·.oneCell') = true := by
  obtain ⟨p0, c0, h0⟩ := h.five.e0.len
  obtain ⟨p1, c1, h1⟩ := h.five.e1.len
  obtain ⟨p2, c2, h2⟩ := h.five.e2.len
  obtain ⟨p3, c3, h3⟩ := h.five.e3.len
  obtain ⟨p4, c4, h4⟩ := h.five.e4.len
  simp [trC, Value.oneCell', h0, h1, h2, h3, h4]

set_option maxHeartbeats 8000000 in
theorem run_some (p pv pl : Option Addr) (c cv cl : Nat) (th : List Ins) (locs : Int) (vals : List Int) (lucks : List Bool) (w : World) (T : Tab w) (Tb : Bar w) (ht : Sl InsE w (.slice p th.length c) th) (hv : Sl IntE w (.slice pv vals.length cv) vals) (hl : Sl BoolE w (.slice pl lucks.length cl) lucks)
    (nv : vals.length ≤ 1000000) (nl : lucks.length ≤ 1000000) (hm : mayT th locs = true) :
    Calls Tryz.prog 67 #[.slice p th.length c, .int .i64 locs, .slice pv vals.length cv, .slice pl lucks.length cl] w fun e w' => ∃ r, e = .returned (trV r (St.run th locs vals lucks th.length .zero)) ∧ TrO w' w.heap.size r (St.run th locs vals lucks th.length .zero) ∧ Below w.heap.size w w' := by
  obtain ⟨R, hR⟩ : ∃ R, St.run th locs vals lucks th.length .zero = R := ⟨_, rfl⟩
  rw [hR]
  have HR : Hid _ := hR
  clear hR
  have hok : (th.length ≤ 8 ∧ locs ≤ 3) ∧ ∀ k x, th[k]? = some x → InsOk locs (th.length - 1 - k) x := by
    unfold mayT at hm
    simp only [Bool.and_eq_true, decide_eq_true_eq] at hm
    exact ⟨⟨hm.1.1, hm.1.2.2⟩, mayF_at hm.2⟩
  obtain ⟨⟨h8, h3⟩, hok⟩ := hok
  have HOk : Hid _ := hok
  have HM : Hid _ := hm
  clear hm hok
  have hb0 := below_new w (.cells #[.slice none 0 0, .slice none 0 0, .slice none 0 0, .slice none 0 0, .slice none 0 0, .int .i64 0, .int .i64 0, .int .i64 0, .int .i64 0, .int .u32 0, .int .u32 0, .int .u32 0, .int .u32 0, .int .i64 0, .int .i64 0, .int .i64 0] 37)
  have k0 : TrB (w.alloc (.cells #[.slice none 0 0, .slice none 0 0, .slice none 0 0, .slice none 0 0, .slice none 0 0, .int .i64 0, .int .i64 0, .int .i64 0, .int .i64 0, .int .u32 0, .int .u32 0, .int .u32 0, .int .u32 0, .int .i64 0, .int .i64 0, .int .i64 0] 37)) w.heap.size (fun _ => .slice none 0 0) .zero 37 := Blk.new
  have F1 := trivial
  have F2 := trivial
  go_enter Tryz.func67, Tryz.ntmps67
  go_wp2_with (first
    | (go_at_call 84; clear F1; refine (may_any _ _ _ _ _ (T.below hb0) (ht.keep hb0)).mono ?_; rintro e w1 ⟨rfl, hb1⟩; rw [HM.out])
    | (clear F2; refine wpList_storeB (by rfl) 142 (.tmp 9) (.tmp 19) (by rfl) w1.heap.size #[.slice none 0 0, .slice none 0 0, .slice none 0 0, .slice none 0 0, .slice none 0 0, .int .i64 0, .int .i64 0, .int .i64 0, .int .i64 0, .int .u32 0, .int .u32 0, .int .u32 0, .int .u32 0, .int .i64 0, .int .i64 0, .int .i64 0, .int .i64 locs, .slice pv vals.length cv, .slice pl lucks.length cl, .int .i64 0, .int .u32 0, .int .i64 (-1)] #[.slice none 0 0, .slice none 0 0, .slice none 0 0, .slice none 0 0, .slice none 0 0, .int .i64 0, .int .i64 0, .int .i64 0, .int .i64 0, .int .u32 0, .int .u32 0, .int .u32 0, .int .u32 0, .int .i64 0, .int .i64 0, .int .i64 0, .int .i64 0, .slice none 0 0, .slice none 0 0, .int .i64 0, .int .u32 0, .int .i64 0] 142 (by rfl) (by rfl) Blk.new (by kernel_rfl) rfl (by simp [Value.oneCell']) ?_; intro w2 kR oR zR; simp only [Act.put]))
  have k1 := k0.keep hb1
  have B1 : Below w.heap.size w w1 := Below.thru hb0 hb1 (Nat.le_refl _)
  have T1 := T.below B1
  have Tb1 := Tb.below B1
  have ht1 := ht.keep B1
  have hv1 := (hv.keep B1).old
  have hl1 := (hl.keep B1).old
  have hT : ¬ w1.heap.size ≤ 0 := by have := T1.pos; omega
  have hn0 : w.heap.size < w1.heap.size := k1.lt
  have B2 : Below w1.heap.size w1 w2 := (below_new _ _).trans (oR.below (by simp) (fun k hk => by omega))
  have h2 : RunAt w2 w1.heap.size (w1.heap.size + 1) locs (.slice pv vals.length cv) (.slice pl lucks.length cl) (fun _ => .slice none 0 0) .zero := ⟨kR, run_five _ _, Nat.lt_succ_self _, by rw [zR]; simp⟩
  clear oR zR kR hb0 hb1 k0 T Tb ht hv hl
  go_loopw [10] (fun _ wr => ∃ (s : St) (r : Nat → Value) (n : Nat), RunAt wr w1.heap.size (w1.heap.size + 1) locs (.slice pv vals.length cv) (.slice pl lucks.length cl) r s ∧ StOk th.length vals lucks s ∧ th.length ≤ s.next + n ∧ St.run th locs vals lucks n s = R ∧ Below w1.heap.size w1 wr) (fun _ wr => th.length - nextOf w1.heap.size wr)
  case atStart => exact ⟨_, _, th.length, h2, stOk_zero _ _ _, by omega, HR.out, B2⟩
  case round =>
    obtain ⟨s, r, n, hA, hS, hn, hrun, hB⟩ := hrel
    have HRun : Hid _ := hrun
    have HA := hA
    clear hrun h2 B2
    obtain ⟨⟨m0, m1, m2, -⟩, -, -, m6, -⟩ := hA.blk.more
    simp only [St.tail] at m0 m1 m2 m6
    have lB := hA.blk.lt
    by_cases hgo : s.more = 0 ∧ s.next < th.length
    · obtain ⟨hmore, hlt⟩ := hgo
      rw [hmore] at m2
      have hmz : (s.more == 0) = true := by rw [hmore]; rfl
      have f6 := hA.blk.frozen 19
      have hnx := hS.nx
      have hwr : wrap64 ((s.next : Int) + 1) = (s.next : Int) + 1 := wrap_is (by omega) (by omega)
      obtain ⟨ub, uo, rfl, e0, e1, e2, e3, e4, e5⟩ := (ins_at (ht1.keep hB)).2 s.next hlt
      have hOk := HOk.out s.next th[s.next] (List.getElem?_eq_getElem hlt)
      obtain ⟨n', rfl⟩ : ∃ n', n = n' + 1 := by
        cases n with
        | zero => exact absurd hlt (Nat.not_lt_of_le hn)
        | succ m => exact ⟨m, rfl⟩
      have hrun := HRun.out
      rw [run_step hmore hlt] at hrun
      generalize hx : th[s.next] = x at e0 e1 e2 e3 e4 e5 hOk hrun
      have HRun' : Hid _ := hrun
      have HOk' : Hid _ := hOk
      clear hx hrun hOk hmz HRun
      have hub := cell_lt e0
      have B5 := below_new (wr.setCell ⟨w1.heap.size, 19, none⟩ (.int .i64 ((s.next : Int) + 1))) (.cells #[.int .i64 x.op, .int .i64 x.d, .int .i64 x.a, .int .i64 x.b, .int .i64 x.l, .int .i64 x.i] 72)
      have h5 : RunAt ((wr.setCell ⟨w1.heap.size, 19, none⟩ (.int .i64 ((s.next : Int) + 1))).alloc (.cells #[.int .i64 x.op, .int .i64 x.d, .int .i64 x.a, .int .i64 x.b, .int .i64 x.l, .int .i64 x.i] 72)) w1.heap.size (w1.heap.size + 1) locs (.slice pv vals.length cv) (.slice pl lucks.length cl) r s.inc := (hA.setNext (n := (s.next : Int) + 1) (k := s.next + 1) rfl).keep B5
      have O5 : Only (RS w1.heap.size r) wr ((wr.setCell ⟨w1.heap.size, 19, none⟩ (.int .i64 ((s.next : Int) + 1))).alloc (.cells #[.int .i64 x.op, .int .i64 x.d, .int .i64 x.a, .int .i64 x.b, .int .i64 x.l, .int .i64 x.i] 72)) := (only_set (r := r)).trans (Below.only B5 : Only (RS w1.heap.size r) _ _) (fun _ h => .inl h)
      have kI5 : InsB ((wr.setCell ⟨w1.heap.size, 19, none⟩ (.int .i64 ((s.next : Int) + 1))).alloc (.cells #[.int .i64 x.op, .int .i64 x.d, .int .i64 x.a, .int .i64 x.b, .int .i64 x.l, .int .i64 x.i] 72)) wr.heap.size x.op x.d x.a x.b x.l x.i := Blk.newAt (by simp)
      go_wp2
      obtain ⟨w5, hw5⟩ : ∃ w5, w5 = (wr.setCell ⟨w1.heap.size, 19, none⟩ (.int .i64 ((s.next : Int) + 1))).alloc (.cells #[.int .i64 x.op, .int .i64 x.d, .int .i64 x.a, .int .i64 x.b, .int .i64 x.l, .int .i64 x.i] 72) := ⟨_, rfl⟩
      rw [← hw5] at h5 O5 kI5 ⊢
      clear hw5 B5 e0 e1 e2 e3 e4 e5 m0 m1 m2 m6 f6 lB hub
      have hB5 : Below w1.heap.size w1 w5 := hB.trans (O5.below (by have := hA.blk.lt; omega) (fun k hk => (hA.rs hk).1))
      have hne : ∀ w, Nonempty (Ext w) := ext_some
      have hne2 : Nonempty AnyW := anyW_some
      obtain ⟨y0, y1, y2, y3, y4, y5⟩ := kI5.cells
      have lI := kI5.lt
      have hcf := act_call x.op
      refine wp_region_mixL [([0, 2], 1, false), ([], 3, true)] [] [3] (by kernel_rfl) (by kernel_rfl) (fun _ _ d _ _ h => by cases d <;> exact h) ?_
      dsimp only [mapL, List.map, opAt]
      refine wpMixL_stage ?_
      repeat (go_big_quiet_step (fail))
      refine wpQuiet_nil ?_
      go_wp2_with (go_at_call 85; refine (action_any _ _ _ _ _ _ _ _ HOk'.out.op).mono ?_; rintro e w6 ⟨rfl, hb6⟩)
      have B6 : Below w5.heap.size w5 w6 := Below.thru (Below.drew (Below.refl _ _)) hb6 (Nat.le_refl _)
      refine ⟨.inr B6, ?_⟩
      refine wpMixL_stage ?_
      refine wpQuiet_nil ?_
      have h6 := h5.keep B6
      have hB6 : Below w1.heap.size w1 w6 := hB5.trans (B6.mono (Nat.le_of_lt h5.blk.lt))
      have HStep : Hid (Calls _ _ _ _ _) := step_run x (n := th.length) (T1.below hB6) (Tb1.below hB6) hT h6 (hS.inc hlt) h8 (by rw [show th.length - s.inc.next = th.length - 1 - s.next by simp only [St.inc]; omega]; exact HOk'.out) (by omega) (hv1.agree (Below.agreeAt hB6 fun _ h => h)) (hl1.agree (Below.agreeAt hB6 fun _ h => h)) nv nl
      go_wp2_with fail
      refine HStep.out.mono ?_
      rintro e w7 ⟨rfl, hp⟩
      obtain ⟨r7, h7, O7, S7⟩ := hp
      have hB7 : Below w1.heap.size w1 w7 := hB6.trans (O7.below (Nat.le_of_lt h6.blk.lt) (fun k hk => (h6.rs hk).1))
      have hS7 : StOk th.length vals lucks (s.inc.step locs vals lucks x) := (hS.inc hlt).step (by rw [show th.length - s.inc.next = th.length - 1 - s.next by simp only [St.inc]; omega]; exact HOk'.out)
      have hnx7 : s.next + 1 ≤ (s.inc.step locs vals lucks x).next := step_next (s := s.inc)
      have hno : nextOf w1.heap.size w7 = (s.inc.step locs vals lucks x).next := next_of h7
      have hno' : nextOf w1.heap.size wr = s.next := next_of hA
      go_wp2
      refine ⟨.inl trivial, ?_⟩
      refine wpMixL_last ?_
      refine wpQuiet_nil ?_
      go_wp2
      go_roundw
      case rel => exact ⟨_, _, n', h7, hS7, by omega, HRun'.out, hB7⟩
      case measure => rw [hno, hno']; omega
    · have hR : R = s := by
        rw [← HRun.out]
        exact run_done (by omega) n
      have lk := (k1.keep hB)
      obtain ⟨x0, x1, x2, x3, x4⟩ := hA.blk.rows
      obtain ⟨⟨x5, x6, x7, x8⟩, x9, xa, xb, xc⟩ := hA.blk.regs
      simp only [St.tail] at x5 x6 x7 x8 x9 xa xb xc
      have HRs : Hid _ := hR
      clear hR
      have hgo' : (s.more == 0) = false ∨ ((s.more == 0) = true ∧ ¬ s.next < th.length) := by
        by_cases h : s.more = 0
        · exact .inr ⟨by rw [h]; rfl, fun h' => hgo ⟨h, h'⟩⟩
        · exact .inl (by simpa using h)
      clear hgo
      have F3 := trivial
      rcases hgo' with hg | ⟨hg, hg2⟩
      all_goals
        go_wp2_with (clear F3; refine wpList_storeB (by rfl) 37 (.tmp 8) (.tmp 45) (by rfl) w.heap.size (trC r s) (trC (fun _ => .slice none 0 0) .zero) 37 (by rfl) (by rfl) lk (by kernel_rfl) rfl (one16 hA) ?_; intro wL kL oL zL; simp only [Act.put])
        have kL' : TrB wL w.heap.size r s 37 := kL
        obtain ⟨x0, x1, x2, x3, x4⟩ := kL'.rows
        obtain ⟨⟨x5, x6, x7, x8⟩, x9, xa, xb, xc⟩ := kL'.regs
        obtain ⟨xd, xe, xf⟩ := kL'.more
        refine bodyPost_ret (v := trV r s) (by simp [results, Tryz.results67, go_sem, trV, trC, x0, x1, x2, x3, x4, x5, x6, x7, x8, x9, xa, xb, xc, xd, xe, xf]) rfl ⟨r, by rw [HRs.out], ?_, ?_⟩
        · rw [HRs.out]
          exact ⟨_, by omega, hA.five.only oL (fun i k hi hk e => by have := (hA.five.lt hi hk).1; omega)⟩
        · exact (B1.trans (hB.mono (Nat.le_of_lt hn0))).trans (oL.below (Nat.le_trans B1.size hB.size) (fun k hk => by omega))

theorem Run_own (p pv pl : Option Addr) (c cv cl : Nat) (th : List Ins) (locs : Int) (vals : List Int) (lucks : List Bool) (w : World) (T : Tab w) (Tb : Bar w) (ht : Sl InsE w (.slice p th.length c) th) (hv : Sl IntE w (.slice pv vals.length cv) vals) (hl : Sl BoolE w (.slice pl lucks.length cl) lucks)
    (nv : vals.length ≤ 1000000) (nl : lucks.length ≤ 1000000) :
    Calls Tryz.prog 67 #[.slice p th.length c, .int .i64 locs, .slice pv vals.length cv, .slice pl lucks.length cl] w fun e w' => ∃ r, e = .returned (trV r (runT th locs vals lucks)) ∧ TrO w' w.heap.size r (runT th locs vals lucks) ∧ Below w.heap.size w w' := by
  unfold runT
  split
  · rename_i h
    exact run_some p pv pl c cv cl th locs vals lucks w T Tb ht hv hl nv nl h
  · rename_i h
    exact run_zero p pv pl c cv cl th locs vals lucks w T ht (by simpa using h)
end Go.Proofs.YtcalinfdckklfaaGreatDoor
namespace Go.Proofs.YtcalinfdckklfaaGreatDoor
open Go.RowKit
attribute [local go_sem] Ext.cell Ext.frozen

/-- The variables that the calls read. -/
structure FEnv (w : World) : Prop where
  tab : Tab w
  bar : Bar w
theorem FEnv.below {w w' : World} (h : FEnv w) (hb : Below w.heap.size w w') : FEnv w' := ⟨h.tab.below hb, h.bar.below hb⟩

end Go.Proofs.YtcalinfdckklfaaGreatDoor
