/- What a load does. -/
import Derived.Test.YtgaannoghefbbaaDoorFlowWrite
namespace Go.Proofs.YtgaannoghefbbaaDoor
open Go.RowKit
attribute [local go_sem] Ext.cell Ext.frozen

section
variable {w : World} {b base : Nat} {locs : Int} {vv lv : Value} {r : Nat → Value} {s : St}
theorem RunAt.setMore (h : RunAt w b base locs vv lv r s) (n : Int) : RunAt (w.setCell ⟨b, 15, none⟩ (.int .i64 n)) b base locs vv lv r { s with more := n } :=
  ⟨h.blk.setMore n, h.five.set h.lt _, h.lt, by simpa [World.setCell] using h.bs⟩
theorem RunAt.setVals (h : RunAt w b base locs vv lv r s) {n : Int} {k : Nat} (hn : n = (k : Int)) : RunAt (w.setCell ⟨b, 13, none⟩ (.int .i64 n)) b base locs vv lv r { s with vals := k } := by
  subst hn; exact ⟨h.blk.setVals k, h.five.set h.lt _, h.lt, by simpa [World.setCell] using h.bs⟩
theorem RunAt.setLucks (h : RunAt w b base locs vv lv r s) {n : Int} {k : Nat} (hn : n = (k : Int)) : RunAt (w.setCell ⟨b, 14, none⟩ (.int .i64 n)) b base locs vv lv r { s with lucks := k } := by
  subst hn; exact ⟨h.blk.setLucks k, h.five.set h.lt _, h.lt, by simpa [World.setCell] using h.bs⟩
theorem RunAt.setNext (h : RunAt w b base locs vv lv r s) {n : Int} {k : Nat} (hn : n = (k : Int)) : RunAt (w.setCell ⟨b, 19, none⟩ (.int .i64 n)) b base locs vv lv r { s with next := k } := by
  subst hn; exact ⟨h.blk.setNext k, h.five.set h.lt _, h.lt, by simpa [World.setCell] using h.bs⟩
theorem RunAt.setCtrl (h : RunAt w b base locs vv lv r s) (n : Int) : RunAt (w.setCell ⟨b, 20, none⟩ (.int .u32 n)) b base locs vv lv r { s with ctrl := n } :=
  ⟨h.blk.setCtrl n, h.five.set h.lt _, h.lt, by simpa [World.setCell] using h.bs⟩
theorem RunAt.setOpn (h : RunAt w b base locs vv lv r s) (n : Int) : RunAt (w.setCell ⟨b, 21, none⟩ (.int .i64 n)) b base locs vv lv r { s with opn := n } :=
  ⟨h.blk.setOpn n, h.five.set h.lt _, h.lt, by simpa [World.setCell] using h.bs⟩
theorem RunAt.putR (h : RunAt w b base locs vv lv r s) (v d : Nat → Int) : RunAt (putR w b v d) b base locs vv lv r { s with v := v, d := d } :=
  ⟨h.blk.putR v d, h.five.putR h.lt v d, h.lt, Nat.le_trans h.bs (only_putR (r := r)).size⟩
end

theorem pow_small {k : Nat} (h : k < 31) : (2 : Int) ^ k % 4294967296 = 2 ^ k := by
  have e : (2 : Int) ^ k = ((2 ^ k : Nat) : Int) := by simp
  have l : 2 ^ k < 2 ^ 31 := Nat.pow_lt_pow_right (by decide) h
  rw [e]
  exact Int.emod_eq_of_lt (Int.natCast_nonneg _) (Int.lt_trans (Int.ofNat_lt.2 l) (by decide))
theorem Tab.only {S : Nat → Prop} {w w' : World} (T : Tab w) (ho : Only S w w') (hS : ¬ S 1) : Tab w' := by
  have k : ∀ o, w'.cell? ⟨1, o, none⟩ = w.cell? ⟨1, o, none⟩ := fun o => World.cell?_of_block (w := w) (a := ⟨1, o, none⟩) (ho.block _ T.pos hS)
  exact ⟨Nat.lt_of_lt_of_le T.pos ho.size, fun op a b => (k _).trans (T.name op a b), fun op a b => (k _).trans (T.kind op a b), fun op a b => (k _).trans (T.fields op a b)⟩

set_option maxHeartbeats 4000000 in
theorem load_ends (x : Ins) {w : World} {b base : Nat} {locs : Int} {pv : Option Addr} {cv : Nat} {vals : List Int} {lv : Value} {r : Nat → Value} {s : St} (h : RunAt w b base locs (.slice pv vals.length cv) lv r s) (hv : s.vals = vals.length) :
    Calls Tryd.prog 40 #[.pointer (some ⟨b, 0, none⟩), .agg #[.int .i64 x.op, .int .i64 x.d, .int .i64 x.a, .int .i64 x.b, .int .i64 x.l, .int .i64 x.i]] w fun y w' =>
      y = .returned (.tuple #[]) ∧ Post b base locs (.slice pv vals.length cv) lv r w { s with more := 1 } w' := by
  have hvb : ((s.vals : Int) == (vals.length : Int)) = true := by rw [hv]; simp
  clear hv
  have hne : ∀ w, Nonempty (Ext w) := ext_some
  go_enter Tryd.func40, Tryd.ntmps40
  go_wp2
  obtain ⟨w1, hw1, B1⟩ : ∃ w1, w1 = w.alloc (.cells #[.int .i64 x.op, .int .i64 x.d, .int .i64 x.a, .int .i64 x.b, .int .i64 x.l, .int .i64 x.i] 29) ∧ Below w.heap.size w w1 := ⟨_, rfl, below_new _ _⟩
  rw [← hw1]
  clear hw1
  have h1 := h.keep B1
  have lB := h1.blk.lt
  obtain ⟨⟨m0, -, -, -⟩, m4, -⟩ := h1.blk.more
  simp only [St.tail] at m0 m4
  refine wp_region_ext (by kernel_rfl) (by kernel_rfl) ?_
  repeat (go_big_quiet_step (fail))
  refine wpQuiet_nil ?_
  rintro _ ⟨p, rfl⟩
  have B2 : Below w.heap.size w p.wd := Below.thru B1 p.ok (Nat.le_refl _)
  have h2 := h.keep B2
  obtain ⟨⟨-, -, k2, -⟩, -⟩ := h2.blk.more
  have f2 := h2.blk.frozen 15
  simp only [St.tail] at k2
  go_wp2
  go_returns
  exact ⟨rfl, r, h2.setMore 1, (Below.only B2).trans only_set (fun _ h => .inl h), fun _ h => .inl h⟩

set_option maxHeartbeats 8000000 in
theorem load_takes (x : Ins) {w : World} {b base : Nat} {locs : Int} {pv : Option Addr} {cv : Nat} {vals : List Int} {lv : Value} {r : Nat → Value} {s : St} (T : Tab w) (hT : ¬ b ≤ 1) (h : RunAt w b base locs (.slice pv vals.length cv) lv r s) (hl : LenOk s) (h31 : s.evs.length < 31) (hL : locs < 9223372036854775808)
    (hsl : SlA (fun k => k < b) IntE w (.slice pv vals.length cv) vals) (hv : s.vals < vals.length) (hn : vals.length ≤ 1000000) :
    Calls Tryd.prog 40 #[.pointer (some ⟨b, 0, none⟩), .agg #[.int .i64 x.op, .int .i64 x.d, .int .i64 x.a, .int .i64 x.b, .int .i64 x.l, .int .i64 x.i]] w fun y w' =>
      y = .returned (.tuple #[]) ∧ Post b base locs (.slice pv vals.length cv) lv r w (s.load locs (vals.getD s.vals 0) x) w' := by
  have hvb : ((s.vals : Int) == (vals.length : Int)) = false := by simp; omega
  obtain ⟨z, hz⟩ : ∃ z, vals.getD s.vals 0 = z := ⟨_, rfl⟩
  have hz' : vals[s.vals] = z := by rw [← hz]; simp [hv]
  rw [hz]
  have hwr : wrap64 ((s.vals : Int) + 1) = ((s.vals + 1 : Nat) : Int) := wrap_is (by omega) (by omega)
  clear hz
  have hp2 : (2 : Int) ^ s.evs.length % 4294967296 = 2 ^ s.evs.length := pow_small h31
  have hPl := fun w T => Place_any s.v s.d x.op x.d x.a x.b x.l x.i locs w T hL
  have hSet := fun n y1 y2 w => Set_any s.v s.d n y1 y2 w
  unfold fileV at hPl hSet
  have HPl : Hid _ := hPl
  have HSet : Hid _ := hSet
  clear hPl hSet
  have hne : ∀ w, Nonempty (Ext w) := ext_some
  have hne2 : Nonempty AnyW := anyW_some
  go_enter Tryd.func40, Tryd.ntmps40
  go_wp2
  obtain ⟨w1, hw1, B1, kI⟩ : ∃ w1, w1 = w.alloc (.cells #[.int .i64 x.op, .int .i64 x.d, .int .i64 x.a, .int .i64 x.b, .int .i64 x.l, .int .i64 x.i] 29) ∧ Below w.heap.size w w1 ∧ InsB w1 w.heap.size x.op x.d x.a x.b x.l x.i :=
    ⟨_, rfl, below_new _ _, Blk.new⟩
  rw [← hw1]
  clear hw1
  have h1 := h.keep B1
  have lB := h1.blk.lt
  obtain ⟨⟨m0, -, -, -⟩, m4, -⟩ := h1.blk.more
  simp only [St.tail] at m0 m4
  refine wp_region_ext (by kernel_rfl) (by kernel_rfl) ?_
  repeat (go_big_quiet_step (fail))
  refine wpQuiet_nil ?_
  rintro _ ⟨p, rfl⟩
  have B2 : Below w.heap.size w p.wd := Below.thru B1 p.ok (Nat.le_refl _)
  have kI2 := kI.keep p.ok
  obtain ⟨w2, hw2⟩ : ∃ w2, w2 = p.wd := ⟨_, rfl⟩
  rw [← hw2] at B2 kI2 ⊢
  clear hw2 m0 m4 lB h1 kI B1 p w1
  have h2 := h.keep B2
  have lB := h2.blk.lt
  obtain ⟨⟨m0, -, -, -⟩, m4, -⟩ := h2.blk.more
  simp only [St.tail] at m0 m4
  obtain ⟨g, o, rfl, gz⟩ := (ints_at (hsl.keep B2)).2 s.vals hv
  rw [hz'] at gz
  have lG := cell_lt gz
  go_wp2
  refine wp_region_ext (by kernel_rfl) (by kernel_rfl) ?_
  repeat (go_big_quiet_step (fail))
  refine wpQuiet_nil ?_
  rintro _ ⟨p, rfl⟩
  have B3 : Below w.heap.size w p.wd := Below.thru B2 p.ok (Nat.le_refl _)
  have kI3 := kI2.keep p.ok
  obtain ⟨w3, hw3⟩ : ∃ w3, w3 = p.wd := ⟨_, rfl⟩
  rw [← hw3] at B3 kI3 ⊢
  clear hw3 m0 m4 lB lG gz h2 kI2 B2 p w2
  have h3 := h.keep B3
  have lB := h3.blk.lt
  obtain ⟨⟨m0, -, -, -⟩, -⟩ := h3.blk.more
  have f0 := h3.blk.frozen 13
  obtain ⟨x0, -⟩ := h3.blk.rows
  obtain ⟨p0, c0, e0⟩ := h3.five.e0.len
  rw [e0] at x0
  simp only [St.tail] at m0
  obtain ⟨y0, y1, y2, y3, y4, y5⟩ := kI3.cells
  go_wp2
  have hnI : ¬ RS b r w.heap.size := fun hk => by have := (h.rs hk).2; omega
  have h4 := h3.setVals (n := (s.vals : Int) + 1) (k := s.vals + 1) rfl
  have O4 : Only (RS b r) w (w3.setCell ⟨b, 13, none⟩ (.int .i64 ((s.vals : Int) + 1))) := (Below.only B3).trans only_set (fun _ h => .inl h)
  have kI4 : InsB (w3.setCell ⟨b, 13, none⟩ (.int .i64 ((s.vals : Int) + 1))) w.heap.size x.op x.d x.a x.b x.l x.i := Blk.only kI3 (only_set (r := r)) hnI
  have T4 : Tab (w3.setCell ⟨b, 13, none⟩ (.int .i64 ((s.vals : Int) + 1))) := (T.below B3).only only_set fun hk => hT (h.rs hk).1
  obtain ⟨w4, hw4⟩ : ∃ w4, w4 = w3.setCell ⟨b, 13, none⟩ (.int .i64 ((s.vals : Int) + 1)) := ⟨_, rfl⟩
  rw [← hw4] at h4 O4 kI4 T4 ⊢
  clear hw4 m0 f0 x0 e0 y0 y1 y2 y3 y4 y5 lB h3 kI3 B3 w3 hvb hwr
  obtain ⟨y0, y1, y2, y3, y4, y5⟩ := kI4.cells
  have lI := kI4.lt
  have lB := h4.blk.lt
  obtain ⟨⟨r0, r1, r2, r3⟩, r4, r5, r6, r7⟩ := h4.blk.regs
  obtain ⟨⟨-, -, -, m3⟩, -⟩ := h4.blk.more
  simp only [St.tail] at r0 r1 r2 r3 r4 r5 r6 r7 m3
  refine wp_region_ext (by kernel_rfl) (by kernel_rfl) ?_
  repeat (go_big_quiet_step ((go_at_call 56; exact calls_ext (HPl.out _ (T4.below (Ext.ok _))))))
  refine wpQuiet_nil ?_
  rintro _ ⟨p, rfl⟩
  have h5 := h4.keep p.ok
  have O5 : Only (RS b r) w p.wd := O4.trans (Below.only p.ok) (fun _ h => .inl h)
  have kI5 := kI4.keep p.ok
  have T5 := T4.below p.ok
  obtain ⟨w5, hw5⟩ : ∃ w5, w5 = p.wd := ⟨_, rfl⟩
  rw [← hw5] at h5 O5 kI5 T5 ⊢
  clear hw5 y0 y1 y2 y3 y4 y5 r0 r1 r2 r3 r4 r5 r6 r7 m3 lI lB kI4 h4 T4 O4 p w4
  obtain ⟨y0, y1, y2, y3, y4, y5⟩ := kI5.cells
  have lI := kI5.lt
  have HAdd : Hid (Calls _ _ _ _ _) := add_run (rdEv locs z x s) (placeD s.d x.op x.a locs) 0 (-1) h5 ⟨hl.ev, hl.ad, hl.da, hl.ct, hl.pa⟩
  go_wp2_with (go_at_call 57; refine HAdd.out.mono ?_; rintro e w6 ⟨rfl, hp⟩)
  obtain ⟨r6, h6, O6', S6⟩ := hp
  have O6 : Only (RS b r) w w6 := O5.trans O6' (fun _ h => .inl h)
  have S6' : ∀ k, RS b r6 k → RS b r k ∨ w.heap.size ≤ k := fun k hk => by rcases S6 k hk with h | h; exact .inl h; exact .inr (Nat.le_trans O5.size h)
  have kI6 : InsB w6 w.heap.size x.op x.d x.a x.b x.l x.i := Blk.only kI5 O6' hnI
  have T6 : Tab w6 := T5.only O6' fun hk => hT (h.rs hk).1
  clear y0 y1 y2 y3 y4 y5 lI kI5 T5 h5 O5 O6' S6 HAdd HPl w5
  obtain ⟨y0, y1, y2, y3, y4, y5⟩ := kI6.cells
  have lI := kI6.lt
  have lB := h6.blk.lt
  obtain ⟨⟨r0, r1, r2, r3⟩, r4, r5, r6', r7⟩ := h6.blk.regs
  simp only [St.tail, St.add] at r0 r1 r2 r3 r4 r5 r6' r7
  refine wp_region_mixL [([0, 1, 2, 3, 4, 5, 6, 7, 8, 9, 10], 11, false), ([12, 13, 14], 15, true)] [] [15] (by kernel_rfl) (by kernel_rfl) (fun _ _ d _ _ h => by cases d <;> exact h) ?_
  dsimp only [mapL, List.map, opAt]
  refine wpMixL_stage ?_
  repeat (go_big_quiet_step (fail))
  refine wpQuiet_nil ?_
  go_wp2_with (go_at_call 58; refine (HSet.out _ _ _ _).mono ?_; rintro e w7 ⟨rfl, hb7⟩)
  have B7 : Below w6.heap.size w6 w7 := Below.thru (Below.drew (Below.refl _ _)) hb7 (Nat.le_refl _)
  refine ⟨.inr B7, ?_⟩
  refine wpMixL_stage ?_
  repeat (go_big_quiet_step (fail))
  refine wpQuiet_nil ?_
  have h7 := h6.keep B7
  obtain ⟨⟨t0, t1, t2, t3⟩, t4, t5, t6, t7⟩ := h7.blk.regs
  have u0 := h7.blk.frozen 5
  have u1 := h7.blk.frozen 6
  have u2 := h7.blk.frozen 7
  have u3 := h7.blk.frozen 8
  have u4 := h7.blk.frozen 9
  have u5 := h7.blk.frozen 10
  have u6 := h7.blk.frozen 11
  have u7 := h7.blk.frozen 12
  go_wp2
  have h8 := h7.putR (upd s.v x.d z) (upd s.d x.d (2 ^ s.evs.length))
  have O8 : Only (RS b r) w (putR w7 b (upd s.v x.d z) (upd s.d x.d (2 ^ s.evs.length))) := O6.trans ((Below.only B7 : Only (RS b r6) w6 w7).trans only_putR fun _ h => .inl h) S6'
  obtain ⟨w8, hw8⟩ : ∃ w8, w8 = putR w7 b (upd s.v x.d z) (upd s.d x.d (2 ^ s.evs.length)) := ⟨_, rfl⟩
  rw [← hw8] at h8 O8
  unfold putR at hw8
  rw [← hw8]
  clear hw8 t0 t1 t2 t3 t4 t5 t6 t7 u0 u1 u2 u3 u4 u5 u6 u7 r0 r1 r2 r3 r4 r5 r6' r7 y0 y1 y2 y3 y4 y5 lI lB h7 h6 B7 hb7 O6 kI6 T6
  refine ⟨.inl trivial, ?_⟩
  refine wpMixL_last ?_
  refine wpQuiet_nil ?_
  by_cases h9 : x.op = 9
  · have hb9 : (x.op == 9) = true := by rw [h9]; rfl
    have lB := h8.blk.lt
    have f8 := h8.blk.frozen 21
    obtain ⟨-, -, -, -, -, m8⟩ := h8.blk.more
    have E : Hid (s.load locs z x = { ((({ s with vals := s.vals + 1 } : St).add (rdEv locs z x s) (placeD s.d x.op x.a locs) 0 (-1)).set x.d z (2 ^ s.evs.length)) with opn := (s.evs.length : Nat) }) := if_pos h9
    clear h9
    go_wp2
    go_returns
    refine ⟨rfl, r6, ?_, O8.trans only_set S6', S6'⟩
    rw [E.out]
    exact h8.setOpn _
  · have hb9 : (x.op == 9) = false := by simpa using h9
    have E : Hid (s.load locs z x = ((({ s with vals := s.vals + 1 } : St).add (rdEv locs z x s) (placeD s.d x.op x.a locs) 0 (-1)).set x.d z (2 ^ s.evs.length))) := if_neg h9
    clear h9
    go_wp2
    go_returns
    refine ⟨rfl, r6, ?_, O8, S6'⟩
    rw [E.out]
    exact h8
end Go.Proofs.YtgaannoghefbbaaDoor
