/- What write does, and what reaches answers. -/
import Derived.Test.YtgaannoghefbbaaDoorFlowAdd
namespace Go.Proofs.YtgaannoghefbbaaDoor
open Go.RowKit
attribute [local go_sem] Ext.cell Ext.frozen

/-- An instruction as an argument. -/
def insA (x : Ins) : Value := .agg #[.int .i64 x.op, .int .i64 x.d, .int .i64 x.a, .int .i64 x.b, .int .i64 x.l, .int .i64 x.i]
structure LenOk (s : St) : Prop where
  ev : s.evs.length ≤ 1000000
  ad : s.ad.length = s.evs.length
  da : s.da.length = s.evs.length
  ct : s.ct.length = s.evs.length
  pa : s.pa.length = s.evs.length

theorem add_run (e : Ev) (a d q : Int) {w : World} {b base : Nat} {locs : Int} {vv lv : Value} {r : Nat → Value} {s : St} (h : RunAt w b base locs vv lv r s) (hl : LenOk s) :
    Calls Tryd.prog 57 #[.pointer (some ⟨b, 0, none⟩), .agg #[.int .i64 e.th, .int .i64 e.kd, .int .i64 e.lc, .int .i64 e.vl, .bool e.aq, .bool e.rl, .bool e.ex], .int .u32 a, .int .u32 d, .int .i64 q] w fun x w' =>
      x = .returned (.tuple #[]) ∧ Post b base locs vv lv r w (s.add e a d q) w' := by
  refine (add_any e a d q b base r s.evs s.ad s.da s.ct s.pa _ w h.blk h.five h.lt h.bs hl.ev (by rw [hl.ad]; exact hl.ev) (by rw [hl.da]; exact hl.ev) (by rw [hl.ct]; exact hl.ev) (by rw [hl.pa]; exact hl.ev)).mono ?_
  rintro x w' ⟨hx, r', h1, h2, h3, h4⟩
  exact ⟨hx, r', ⟨h1, h2, h.lt, Nat.le_trans h.bs h3.size⟩, h3, h4⟩

set_option maxHeartbeats 4000000 in
theorem write_run (x : Ins) (q : Int) {w : World} {b base : Nat} {locs : Int} {vv lv : Value} {r : Nat → Value} {s : St} (T : Tab w) (h : RunAt w b base locs vv lv r s) (hl : LenOk s) (hL : locs < 9223372036854775808) :
    Calls Tryd.prog 59 #[.pointer (some ⟨b, 0, none⟩), .agg #[.int .i64 x.op, .int .i64 x.d, .int .i64 x.a, .int .i64 x.b, .int .i64 x.l, .int .i64 x.i], .int .i64 q] w fun y w' =>
      y = .returned (.tuple #[]) ∧ Post b base locs vv lv r w (s.write locs x q) w' := by
  have hGet := fun n w => Get_any s.v s.d n w
  have hPl := fun w T => Place_any s.v s.d x.op x.d x.a x.b x.l x.i locs w T hL
  unfold fileV at hGet hPl
  have HGet : Hid _ := hGet
  have HPl : Hid _ := hPl
  clear hGet hPl
  have hne : ∀ w, Nonempty (Ext w) := ext_some
  go_enter Tryd.func59, Tryd.ntmps59
  go_wp2
  obtain ⟨w1, hw1, B1, kI⟩ : ∃ w1, w1 = w.alloc (.cells #[.int .i64 x.op, .int .i64 x.d, .int .i64 x.a, .int .i64 x.b, .int .i64 x.l, .int .i64 x.i] 29) ∧ Below w.heap.size w w1 ∧ InsB w1 w.heap.size x.op x.d x.a x.b x.l x.i :=
    ⟨_, rfl, below_new _ _, Blk.new⟩
  rw [← hw1]
  clear hw1
  have h1 := h.keep B1
  have T1 := T.below B1
  obtain ⟨y0, y1, y2, y3, y4, y5⟩ := kI.cells
  have lI := kI.lt
  have lB := h1.blk.lt
  obtain ⟨⟨r0, r1, r2, r3⟩, r4, r5, r6, r7⟩ := h1.blk.regs
  simp only [St.tail] at r0 r1 r2 r3 r4 r5 r6 r7
  refine wp_region_ext (by kernel_rfl) (by kernel_rfl) ?_
  repeat (go_big_quiet_step ((go_at_call 61; exact calls_ext (HGet.out _ _))))
  refine wpQuiet_nil ?_
  rintro _ ⟨p, rfl⟩
  have B2 : Below w.heap.size w p.wd := Below.thru B1 p.ok (Nat.le_refl _)
  have kI2 := kI.keep p.ok
  obtain ⟨w2, hw2⟩ : ∃ w2, w2 = p.wd := ⟨_, rfl⟩
  rw [← hw2] at B2 kI2 ⊢
  clear hw2 y0 y1 y2 y3 y4 y5 r0 r1 r2 r3 r4 r5 r6 r7 lI lB kI h1 T1 B1 p w1
  have h2 := h.keep B2
  have T2 := T.below B2
  obtain ⟨y0, y1, y2, y3, y4, y5⟩ := kI2.cells
  have lI := kI2.lt
  have lB := h2.blk.lt
  obtain ⟨⟨r0, r1, r2, r3⟩, r4, r5, r6, r7⟩ := h2.blk.regs
  obtain ⟨⟨-, -, -, m3⟩, -⟩ := h2.blk.more
  simp only [St.tail] at r0 r1 r2 r3 r4 r5 r6 r7 m3
  go_wp2
  refine wp_region_ext (by kernel_rfl) (by kernel_rfl) ?_
  repeat (go_big_quiet_step ((go_at_call 56; exact calls_ext (HPl.out _ (T2.below (Ext.ok _))))))
  refine wpQuiet_nil ?_
  rintro _ ⟨p, rfl⟩
  have B3 : Below w.heap.size w p.wd := Below.thru B2 p.ok (Nat.le_refl _)
  have kI3 := kI2.keep p.ok
  obtain ⟨w3, hw3⟩ : ∃ w3, w3 = p.wd := ⟨_, rfl⟩
  rw [← hw3] at B3 kI3 ⊢
  clear hw3 y0 y1 y2 y3 y4 y5 r0 r1 r2 r3 r4 r5 r6 r7 m3 lI lB kI2 h2 T2 B2 p w2
  obtain ⟨y0, y1, y2, y3, y4, y5⟩ := kI3.cells
  have lI := kI3.lt
  have B4 : Below w.heap.size w (w3.alloc (.cells #[.int .i64 0, .int .i64 2, .int .i64 (placeZ s.v x.op x.a x.l locs), .int .i64 (atR s.v x.b), .bool false, .bool (x.op == 8), .bool (x.op == 10)] 42)) := Below.thru B3 (below_new _ _) (Nat.le_refl _)
  have HAdd : Hid (Calls _ _ _ _ _) := add_run (wrEv locs x s) (placeD s.d x.op x.a locs) (atR s.d x.b) q (h.keep B4) hl
  go_wp2_with fail
  refine HAdd.out.mono ?_
  rintro e w5 ⟨rfl, hp⟩
  go_wp2
  go_returns
  exact ⟨rfl, Post.ahead B4 hp⟩

theorem lc_at {s : St} {k : Nat} (hk : k < s.evs.length) : s.lcAt (k : Nat) = s.evs[k].lc := by
  unfold St.lcAt
  simp [hk]

set_option maxHeartbeats 4000000 in
theorem reaches_run (x : Ins) (q : Int) {w : World} {b base : Nat} {locs : Int} {vv lv : Value} {r : Nat → Value} {s : St} (T : Tab w) (h : RunAt w b base locs vv lv r s) (hL : locs < 9223372036854775808) (hq : -1 ≤ q ∧ q < s.evs.length) :
    Calls Tryd.prog 60 #[.pointer (some ⟨b, 0, none⟩), .agg #[.int .i64 x.op, .int .i64 x.d, .int .i64 x.a, .int .i64 x.b, .int .i64 x.l, .int .i64 x.i], .int .i64 q] w fun y w' =>
      y = .returned (.bool (!(q == -1) && (s.lcAt q == placeZ s.v x.op x.a x.l locs))) ∧ Below w.heap.size w w' := by
  by_cases hq1 : q = -1
  · subst hq1
    go_enter Tryd.func60, Tryd.ntmps60
    go_wp2
    go_returns
    exact ⟨rfl, by go_grown⟩
  obtain ⟨k, rfl⟩ : ∃ k : Nat, q = (k : Int) := ⟨q.toNat, by omega⟩
  have hk : k < s.evs.length := by omega
  have hqb : (((k : Int)) == -1) = false := by simp
  rw [lc_at hk, show (!((k : Int) == -1) && (s.evs[k].lc == placeZ s.v x.op x.a x.l locs)) = (s.evs[k].lc == placeZ s.v x.op x.a x.l locs) by rw [hqb]; rfl]
  clear hq hq1
  have hPl := fun w T => Place_any s.v s.d x.op x.d x.a x.b x.l x.i locs w T hL
  unfold fileV at hPl
  have HPl : Hid _ := hPl
  clear hPl
  have hne : ∀ w, Nonempty (Ext w) := ext_some
  go_enter Tryd.func60, Tryd.ntmps60
  go_wp2
  obtain ⟨w1, hw1, B1, kI⟩ : ∃ w1, w1 = w.alloc (.cells #[.int .i64 x.op, .int .i64 x.d, .int .i64 x.a, .int .i64 x.b, .int .i64 x.l, .int .i64 x.i] 29) ∧ Below w.heap.size w w1 ∧ InsB w1 w.heap.size x.op x.d x.a x.b x.l x.i :=
    ⟨_, rfl, below_new _ _, Blk.new⟩
  rw [← hw1]
  clear hw1
  have h1 := h.keep B1
  have T1 := T.below B1
  obtain ⟨y0, y1, y2, y3, y4, y5⟩ := kI.cells
  have lI := kI.lt
  have lB := h1.blk.lt
  obtain ⟨⟨r0, r1, r2, r3⟩, r4, r5, r6, r7⟩ := h1.blk.regs
  obtain ⟨⟨-, -, -, m3⟩, -⟩ := h1.blk.more
  simp only [St.tail] at r0 r1 r2 r3 r4 r5 r6 r7 m3
  refine wp_region_ext (by kernel_rfl) (by kernel_rfl) ?_
  repeat (go_big_quiet_step ((go_at_call 56; exact calls_ext (HPl.out _ (T1.below (Ext.ok _))))))
  refine wpQuiet_nil ?_
  rintro _ ⟨p, rfl⟩
  have B2 : Below w.heap.size w p.wd := Below.thru B1 p.ok (Nat.le_refl _)
  obtain ⟨w2, hw2⟩ : ∃ w2, w2 = p.wd := ⟨_, rfl⟩
  rw [← hw2] at B2 ⊢
  clear hw2 y0 y1 y2 y3 y4 y5 r0 r1 r2 r3 r4 r5 r6 r7 m3 lI lB kI h1 T1 B1 p w1
  have h2 := h.keep B2
  obtain ⟨x0, -, -, -, -⟩ := h2.blk.rows
  obtain ⟨p0, c0, e0⟩ := h2.five.e0.len
  have hs := h2.five.e0.sl
  rw [e0] at x0 hs
  obtain ⟨g, o, rfl, -, -, g2, -⟩ := (ev_at hs).2 k hk
  clear hs e0 h2
  have lB := cell_lt x0
  have lG := cell_lt g2
  go_wp2
  go_returns
  exact ⟨rfl, B2⟩
end Go.Proofs.YtgaannoghefbbaaDoor
