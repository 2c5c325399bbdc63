/- Contracts of package source: is it an event, may it be read, and whence a read may read. -/
import Derived.Test.YtgffeihfcmbobaaSrcM2
import Derived.BigQuiet
namespace Go.Proofs.Ytgffeihfcmbobaa
open Go.RowKit
attribute [local go_sem] Ext.cell Ext.frozen

def isEvB (l : List Ev) (k : Int) : Bool := decide (0 ≤ k) && decide (k < (l.length : Int))
def mayRB (l : List Ev) (init : List Int) (x : Ev) (k : Int) : Bool :=
  (x.kd == 1) && (if k = -1 then initB init x.lc x.vl else isEvB l k && ((l[k.toNat]?).map (isW x.lc x.vl)).getD false)
/-- An execution's cells, the events' slice known. -/
def exV (v : Value) (r : Nat → Value) : Value := .agg #[v, r 1, r 2, r 3, r 4, r 5, r 6]

theorem ex_cells {w : World} {b : Nat} {v : Value} {r : Nat → Value} {t : TypeId} (h : Blk w b #[v, r 1, r 2, r 3, r 4, r 5, r 6] t) : w.cell? ⟨b, 0, none⟩ = some v ∧ w.cell? ⟨b, 1, none⟩ = some (r 1) ∧ w.cell? ⟨b, 2, none⟩ = some (r 2) ∧ w.cell? ⟨b, 3, none⟩ = some (r 3) ∧ w.cell? ⟨b, 4, none⟩ = some (r 4) ∧ w.cell? ⟨b, 5, none⟩ = some (r 5) ∧ w.cell? ⟨b, 6, none⟩ = some (r 6) :=
  ⟨h.cell 0, h.cell 1, h.cell 2, h.cell 3, h.cell 4, h.cell 5, h.cell 6⟩

section
variable {ops : Array Oper} {rest : List Oper} {o : Oper} {a : Act} {w : World} {Q : Exit → Act → World → Prop}
def zeroX : Array Value := #[.slice none 0 0, .slice none 0 0, .slice none 0 0, .slice none 0 0, .slice none 0 0, .slice none 0 0, .slice none 0 0]
/-- An execution is stored into a new block. -/
theorem wpList_toldX {T : TypeId} (hi : (Try.prog.info? T).map (·.size) = some 7) (hgd : o.guard = none) (x y : Operand) (ho : o.op = .store T x y) (cells : Array Value) (hcs : cells.size = 7) (hone : cells.all (·.oneCell') = true) (hx : a.eval x = .pointer (some ⟨w.heap.size, 0, none⟩)) (hy : a.eval y = .agg cells)
    (h : ∀ w', Blk w' w.heap.size cells T → Below w.heap.size w w' → wpList Try.prog ops Q rest (a.put o.dst undef) w') : wpList Try.prog ops Q (o :: rest) a (w.alloc (.cells zeroX T (0, 0))) := by
  refine wpList_storeB hgd T x y ho w.heap.size cells zeroX T hx hy Blk.new (by rw [hcs]; exact hi) (by rw [hcs]; rfl) hone ?_
  intro w4 kL oL zL
  exact h w4 kL ((below_new _ _).trans (oL.below (by simp) (fun k hk => by omega)))
end

set_option maxHeartbeats 1000000 in
theorem isEvent_any (v : Value) (r : Nat → Value) (q : Option Addr) (c : Nat) (l : List Ev) (k : Int) (w : World) (hv : v = .slice q l.length c) :
    Calls Try.prog 24 #[exV v r, .int .i64 k] w fun e w' => e = .returned (.bool (isEvB l k)) ∧ Below w.heap.size w w' := by
  subst hv
  have hb1 := below_new w (.cells #[.slice q l.length c, r 1, r 2, r 3, r 4, r 5, r 6] 30)
  unfold exV isEvB
  by_cases h0 : 0 ≤ k
  · have d0 : decide (0 ≤ k) = true := decide_eq_true h0
    go_enter Try.func24, Try.ntmps24
    go_wp2
    go_ret
    exact ⟨by simp [h0], hb1⟩
  · have d0 : decide (0 ≤ k) = false := decide_eq_false h0
    go_enter Try.func24, Try.ntmps24
    go_wp2
    go_ret
    exact ⟨by simp, hb1⟩

theorem initB_at {init : List Int} {lc vl : Int} (h0 : 0 ≤ lc) (h1 : lc < (init.length : Int)) : initB init lc vl = (init.getD lc.toNat 0 == vl) := by
  unfold initB; rw [decide_eq_true h0, decide_eq_true h1]; rfl
theorem initB_no {init : List Int} {lc vl : Int} (h : ¬ (0 ≤ lc ∧ lc < (init.length : Int))) : initB init lc vl = false := by
  unfold initB
  by_cases h0 : 0 ≤ lc
  · rw [decide_eq_false (fun h1 => h ⟨h0, h1⟩)]; simp
  · rw [decide_eq_false h0]; rfl

set_option maxHeartbeats 4000000 in
theorem mayRead_any (v : Value) (r : Nat → Value) (q pi : Option Addr) (c ci : Nat) (l : List Ev) (init : List Int) (x : Ev) (k : Int) (w : World) (hv : v = .slice q l.length c) (hl : Sl EvE w (.slice q l.length c) l) (hi : Sl IntE w (.slice pi init.length ci) init) :
    Calls Try.prog 25 #[exV v r, .slice pi init.length ci, .agg x.cells.toArray, .int .i64 k] w fun e w' => e = .returned (.bool (mayRB l init x k)) ∧ Below w.heap.size w w' := by
  subst hv
  obtain ⟨w1, hw1⟩ : ∃ w1, w.alloc (.cells #[.slice q l.length c, r 1, r 2, r 3, r 4, r 5, r 6] 30) = w1 := ⟨_, rfl⟩
  have k1 : Blk w1 w.heap.size #[.slice q l.length c, r 1, r 2, r 3, r 4, r 5, r 6] 30 := by rw [← hw1]; exact Blk.new
  have b1 : Below w.heap.size w w1 := by rw [← hw1]; exact below_new _ _
  have s1 : w1.heap.size = w.heap.size + 1 := by rw [← hw1]; simp
  obtain ⟨w2, hw2⟩ : ∃ w2, w1.alloc (.cells x.cells.toArray 49) = w2 := ⟨_, rfl⟩
  have k2 : Blk w2 (w.heap.size + 1) x.cells.toArray 49 := by rw [← hw2]; exact Blk.newAt s1
  have b2 : Below w1.heap.size w1 w2 := by rw [← hw2]; exact below_new _ _
  have s2 : w2.heap.size = w.heap.size + 1 + 1 := by rw [← hw2]; simp [s1]
  have B2 : Below w.heap.size w w2 := Below.thru b1 b2 (Nat.le_refl _)
  obtain ⟨e0, e1, e2, e3, e4, e5, e6⟩ := ev_cells k2
  have k12 := k1.keep b2
  have c0 := k12.cell 0
  have c1 := k12.cell 1
  have c2 := k12.cell 2
  have c3 := k12.cell 3
  have c4 := k12.cell 4
  have c5 := k12.cell 5
  have c6 := k12.cell 6
  simp only [List.getElem?_toArray, List.getElem?_cons_zero, List.getElem?_cons_succ] at c0 c1 c2 c3 c4 c5 c6
  have le := k2.lt
  have lc := k12.lt
  have hl2 := hl.keep B2
  have hi2 := hi.keep B2
  clear k1 k2 k12 b1 b2 hl hi s2
  unfold exV mayRB
  by_cases hk : x.kd = 1
  · have d0 : (x.kd == 1) = true := by simp [hk]
    have d1 : (x.kd != 1) = false := by simp [hk]
    clear hk
    rw [d0, Bool.true_and]
    have hne : ∀ w, Nonempty (Ext w) := ext_some
    by_cases hk1 : k = -1
    · subst hk1
      rw [if_pos rfl]
      by_cases h0 : 0 ≤ x.lc
      · have f0 : decide (0 ≤ x.lc) = true := decide_eq_true h0
        by_cases h1 : x.lc < (init.length : Int)
        · have f1 : decide (x.lc < (init.length : Int)) = true := decide_eq_true h1
          rw [initB_at h0 h1]
          obtain ⟨ib, io, rfl, g0⟩ := (ints_at hi2).2 x.lc.toNat (by omega)
          have hg : init[x.lc.toNat]'(by omega) = init.getD x.lc.toNat 0 := by rw [List.getD_eq_getElem?_getD, List.getElem?_eq_getElem (by omega)]; rfl
          rw [hg] at g0
          generalize init.getD x.lc.toNat 0 = y at g0 ⊢
          have lg := cell_lt g0
          clear hg
          go_enter Try.func25, Try.ntmps25
          go_wp2
          refine wp_region_ext (by kernel_rfl) (by kernel_rfl) ?_
          repeat (go_big_quiet_step (fail))
          refine wpQuiet_nil ?_
          rintro _ ⟨rr, rfl⟩
          have RB := Below.thru B2 rr.ok (Nat.le_refl _)
          go_wp2
          go_ret
          exact ⟨rfl, RB⟩
        · have f1 : decide (x.lc < (init.length : Int)) = false := decide_eq_false h1
          rw [initB_no (fun h => h1 h.2)]
          clear h1
          go_enter Try.func25, Try.ntmps25
          go_wp2
          refine wp_region_ext (by kernel_rfl) (by kernel_rfl) ?_
          repeat (go_big_quiet_step (fail))
          refine wpQuiet_nil ?_
          rintro _ ⟨rr, rfl⟩
          have RB := Below.thru B2 rr.ok (Nat.le_refl _)
          go_wp2
          go_ret
          exact ⟨rfl, RB⟩
      · have f0 : decide (0 ≤ x.lc) = false := decide_eq_false h0
        rw [initB_no (fun h => h0 h.1)]
        clear h0
        go_enter Try.func25, Try.ntmps25
        go_wp2
        refine wp_region_ext (by kernel_rfl) (by kernel_rfl) ?_
        repeat (go_big_quiet_step (fail))
        refine wpQuiet_nil ?_
        rintro _ ⟨rr, rfl⟩
        have RB := Below.thru B2 rr.ok (Nat.le_refl _)
        go_wp2
        go_ret
        exact ⟨rfl, RB⟩
    · rw [if_neg hk1]
      have f1 : (k == -1) = false := by simp [hk1]
      have hE := isEvent_any (.slice q l.length c) r q c l k w2 rfl
      unfold exV at hE
      have HE : Hid (Calls _ _ _ _ _) := hE
      clear hE
      by_cases he : isEvB l k = true
      · rw [he, Bool.true_and]
        rw [he] at HE
        unfold isEvB at he
        simp only [Bool.and_eq_true, decide_eq_true_eq] at he
        obtain ⟨n, rfl⟩ : ∃ n : Nat, k = (n : Int) := ⟨k.toNat, by omega⟩
        have hn : n < l.length := by omega
        simp only [Int.toNat_natCast]
        rw [List.getElem?_eq_getElem hn]
        obtain ⟨eb, eo, rfl, g0, g1, g2, g3, g4, g5, g6⟩ := (ev_at hl2).2 n hn
        generalize l[n] = y at *
        have lg := cell_lt g0
        have hnz : (0 : Int) ≤ (n : Int) := by omega
        have hnl : (n : Int) < (l.length : Int) := by omega
        clear hk1
        have F1 := trivial
        show Calls _ _ _ _ (fun e w' => e = Ending.returned (Value.bool ((y.kd == 2) && ((y.lc == x.lc) && (y.vl == x.vl)))) ∧ Below w.heap.size w w')
        by_cases h1 : y.kd = 2
        · have j1 : (y.kd == 2) = true := by simp [h1]
          rw [j1, Bool.true_and]
          clear h1
          by_cases h2 : y.lc = x.lc
          · have j2 : (y.lc == x.lc) = true := by simp [h2]
            rw [j2, Bool.true_and]
            clear h2
            go_enter Try.func25, Try.ntmps25
            go_wp2_with (first
              | (go_at_call 24; clear F1; refine HE.out.mono ?_; rintro e w5 ⟨rfl, hb5⟩; have B5 := Below.thru B2 hb5 (Nat.le_refl _); have m0 := cell_keep g0 hb5; have m1 := cell_keep g1 hb5; have m2 := cell_keep g2 hb5; have m3 := cell_keep g3 hb5; have m4 := cell_keep g4 hb5; have m5 := cell_keep g5 hb5; have m6 := cell_keep g6 hb5; have lm := cell_lt m0; have n2 := cell_keep e2 hb5; have n3 := cell_keep e3 hb5; have ln := cell_lt n2; have q0 := cell_keep c0 hb5; have lq := cell_lt q0; have F2 := trivial)
              | (clear F2; refine wpList_toldE (w := w5) (by rfl) (.tmp 9) (.tmp 43) (by rfl) y (by rfl) (by rfl) ?_; intro w6 kE b6; simp only [Act.put]; obtain ⟨s0, s1, s2, s3, s4, s5, s6⟩ := ev_cells kE; have lE := kE.lt; have B6 := Below.thru B5 b6 (Nat.le_refl _); replace n2 := cell_keep n2 b6; replace n3 := cell_keep n3 b6; have ln := cell_lt n2; have F3 := trivial))
            go_ret
            exact ⟨rfl, B6⟩
          · have j2 : (y.lc == x.lc) = false := by simp [h2]
            rw [j2, Bool.false_and]
            clear h2
            go_enter Try.func25, Try.ntmps25
            go_wp2_with (first
              | (go_at_call 24; clear F1; refine HE.out.mono ?_; rintro e w5 ⟨rfl, hb5⟩; have B5 := Below.thru B2 hb5 (Nat.le_refl _); have m0 := cell_keep g0 hb5; have m1 := cell_keep g1 hb5; have m2 := cell_keep g2 hb5; have m3 := cell_keep g3 hb5; have m4 := cell_keep g4 hb5; have m5 := cell_keep g5 hb5; have m6 := cell_keep g6 hb5; have lm := cell_lt m0; have n2 := cell_keep e2 hb5; have n3 := cell_keep e3 hb5; have ln := cell_lt n2; have q0 := cell_keep c0 hb5; have lq := cell_lt q0; have F2 := trivial)
              | (clear F2; refine wpList_toldE (w := w5) (by rfl) (.tmp 9) (.tmp 43) (by rfl) y (by rfl) (by rfl) ?_; intro w6 kE b6; simp only [Act.put]; obtain ⟨s0, s1, s2, s3, s4, s5, s6⟩ := ev_cells kE; have lE := kE.lt; have B6 := Below.thru B5 b6 (Nat.le_refl _); replace n2 := cell_keep n2 b6; replace n3 := cell_keep n3 b6; have ln := cell_lt n2; have F3 := trivial))
            go_ret
            exact ⟨rfl, B6⟩
        · have j1 : (y.kd == 2) = false := by simp [h1]
          rw [j1, Bool.false_and]
          clear h1
          go_enter Try.func25, Try.ntmps25
          go_wp2_with (first
            | (go_at_call 24; clear F1; refine HE.out.mono ?_; rintro e w5 ⟨rfl, hb5⟩; have B5 := Below.thru B2 hb5 (Nat.le_refl _); have m0 := cell_keep g0 hb5; have m1 := cell_keep g1 hb5; have m2 := cell_keep g2 hb5; have m3 := cell_keep g3 hb5; have m4 := cell_keep g4 hb5; have m5 := cell_keep g5 hb5; have m6 := cell_keep g6 hb5; have lm := cell_lt m0; have n2 := cell_keep e2 hb5; have n3 := cell_keep e3 hb5; have ln := cell_lt n2; have q0 := cell_keep c0 hb5; have lq := cell_lt q0; have F2 := trivial)
            | (clear F2; refine wpList_toldE (w := w5) (by rfl) (.tmp 9) (.tmp 43) (by rfl) y (by rfl) (by rfl) ?_; intro w6 kE b6; simp only [Act.put]; obtain ⟨s0, s1, s2, s3, s4, s5, s6⟩ := ev_cells kE; have lE := kE.lt; have B6 := Below.thru B5 b6 (Nat.le_refl _); replace n2 := cell_keep n2 b6; replace n3 := cell_keep n3 b6; have ln := cell_lt n2; have F3 := trivial))
          go_ret
          exact ⟨rfl, B6⟩
      · have he : isEvB l k = false := by simpa using he
        rw [he, Bool.false_and]
        rw [he] at HE
        go_enter Try.func25, Try.ntmps25
        go_wp2_with (go_at_call 24; refine HE.out.mono ?_; rintro e w5 ⟨rfl, hb5⟩)
        go_ret
        exact ⟨rfl, Below.thru B2 hb5 (Nat.le_refl _)⟩
  · have d0 : (x.kd == 1) = false := by simp [hk]
    have d1 : (x.kd != 1) = true := by simp [hk]
    clear hk
    rw [d0, Bool.false_and]
    go_enter Try.func25, Try.ntmps25
    go_wp2
    go_ret
    exact ⟨rfl, B2⟩
end Go.Proofs.Ytgffeihfcmbobaa
