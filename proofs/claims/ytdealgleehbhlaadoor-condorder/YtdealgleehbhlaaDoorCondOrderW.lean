/- The walk of CondOrder. -/
import Derived.Test.YtdealgleehbhlaaDoorCondSetsW
namespace Go.Proofs.YtdealgleehbhlaaDoor
open Go.RowKit
attribute [local go_sem] Ext.cell Ext.frozen

theorem rises_at : ∀ {l : List Out} {k : Nat} (h : k + 1 < l.length), rises l → cmpO (l[k]'(by omega)) l[k + 1] = -1
  | [], _, h, _ => by simp at h
  | [_], _, h, _ => by simp at h
  | a :: b :: l, 0, _, hr => hr.1 b (by simp)
  | a :: b :: l, k + 1, h, hr => by
    have := rises_at (l := b :: l) (k := k) (by simpa using h) hr.2
    simpa using this

set_option maxRecDepth 100000 in
set_option maxHeartbeats 4000000 in
theorem CondOrder_true (u0 w0 : Value) (a : Out) (u1 w1 : Value) (b : Out) (q : Option Addr) (d : Nat) (os : List Out) (w : World) (E : Pow w) (ha : OutV w u0 w0 a) (hza : Ozb a) (hb : OutV w u1 w1 b) (hzb : Ozb b) (ho : Sl OutE w (.slice q os.length d) os) (hz : ∀ o ∈ os, Ozb o) :
    Calls Tryd.prog 5 #[.agg #[u0, w0], .agg #[u1, w1], .slice q os.length d] w fun e w' => e = .returned (.bool true) ∧ Below w.heap.size w w' := by
  have HZ : Hid _ := hz
  clear hz
  have hne : ∀ w, Nonempty (Ext w) := ext_some
  obtain ⟨p1, c1, rfl⟩ := ha.1.len
  obtain ⟨p2, c2, rfl⟩ := ha.2.len
  obtain ⟨p3, c3, rfl⟩ := hb.1.len
  obtain ⟨p4, c4, rfl⟩ := hb.2.len
  have hb1 := (((Below.refl w.heap.size w).alloc (Nat.le_refl _) (.cells #[.slice p1 a.regs.length c1, .slice p2 a.mem.length c2] 36)).alloc (by simp) (.cells #[.slice p3 b.regs.length c3, .slice p4 b.mem.length c4] 36))
  have k1 : Blk ((w.alloc (.cells #[.slice p1 a.regs.length c1, .slice p2 a.mem.length c2] 36)).alloc (.cells #[.slice p3 b.regs.length c3, .slice p4 b.mem.length c4] 36)) w.heap.size #[.slice p1 a.regs.length c1, .slice p2 a.mem.length c2] 36 := Blk.new.alloc _
  have k2 : Blk ((w.alloc (.cells #[.slice p1 a.regs.length c1, .slice p2 a.mem.length c2] 36)).alloc (.cells #[.slice p3 b.regs.length c3, .slice p4 b.mem.length c4] 36)) (w.heap.size + 1) #[.slice p3 b.regs.length c3, .slice p4 b.mem.length c4] 36 := Blk.newAt (by simp)
  have C0 := shown_any _ (E.below hb1)
  go_enter Tryd.func5, Tryd.ntmps5
  by_cases h50 : 50 < os.length
  · have h50' : (50 : Int) < (os.length : Int) := by omega
    go_wp2_with (go_at_call 9; refine C0.mono ?_; rintro e w2 ⟨rfl, hb2⟩)
    go_ret
    exact ⟨rfl, Below.thru hb1 hb2 (Nat.le_refl _)⟩
  · have h50' : ¬ (50 : Int) < (os.length : Int) := by omega
    have hl : (setO [] os).length ≤ 50 := by have := set_len (l := os) (acc := []); simp at this; omega
    have hzs : ∀ o ∈ setO [] os, Ozb o := fun o h => HZ.out o (by simpa using set_mem.1 h)
    have hri : rises (setO [] os) := set_rises trivial
    have hse := set_again os
    have hm1 : ∀ x ∈ setO [] os, x ∈ os := fun x h => by simpa using set_mem.1 h
    have hm2 : ∀ x ∈ os, x ∈ setO [] os := fun x h => set_mem.2 (.inr h)
    have CS := fun (w' : World) (h : Below w.heap.size w w') => Set_any q d os w' (ho.keep h) HZ.out (by omega)
    generalize setO [] os = ss at *
    have HZS : Hid _ := hzs
    have HRI : Hid _ := hri
    have HSE : Hid _ := hse
    have HM1 : Hid _ := hm1
    have HM2 : Hid _ := hm2
    have CS : Hid _ := CS
    clear hzs hri hse hm1 hm2
    go_wp2_with (first
      | (go_at_call 9; refine C0.mono ?_; rintro e w2 ⟨rfl, hb2⟩; have C1 := CS.out w2 (Below.thru hb1 hb2 (Nat.le_refl _)))
      | (go_at_call 21; refine C1.mono ?_; rintro e w3 ⟨v3, rfl, s3, hb3⟩; obtain ⟨ps, cs, rfl⟩ := s3.len))
    have hB3 : Below w.heap.size w w3 := Below.thru (Below.thru hb1 hb2 (Nat.le_refl _)) hb3 (Nat.le_refl _)
    have k13 := (k1.keep hb2).keep hb3
    have k23 := (k2.keep hb2).keep hb3
    clear C0 C1 CS k1 k2 hb1 hb2 hb3
    go_loopw [9] (fun i wr => ∃ k : Nat, (k = 0 ∨ k < ss.length) ∧ i = .int .i64 k ∧ Below w3.heap.size w3 wr) (fun i _ => ss.length - (intOf i).toNat)
    case atStart => exact ⟨0, .inl rfl, rfl, Below.refl _ _⟩
    case round =>
      obtain ⟨k, hk, rfl, hbr⟩ := hrel
      by_cases hlt : k + 1 < ss.length
      · obtain ⟨b1, o1, e1, u1, u2, f1, f2, hU1, hU2⟩ := (out_at (s3.keep hbr)).2 k (by omega)
        obtain ⟨b2, o2, rfl, x1, x2, g1, g2, hX1, hX2⟩ := (out_at (s3.keep hbr)).2 (k + 1) hlt
        simp only [Option.some.injEq, Addr.mk.injEq, and_true] at e1
        obtain ⟨rfl, rfl⟩ := e1
        have hzx := (HZS.out _ (List.getElem_mem (show k < ss.length by omega))).osz
        have hr := rises_at hlt HRI.out
        generalize ss[k] = x at hU1 hU2 hzx hr
        generalize ss[k + 1] = y at hX1 hX2 hr
        have hU : OutV wr u1 u2 x := ⟨hU1.any, hU2.any⟩
        have hX : OutV wr x1 x2 y := ⟨hX1.any, hX2.any⟩
        obtain ⟨pu, cu, rfl⟩ := hU1.len
        obtain ⟨pv, cv, rfl⟩ := hU2.len
        obtain ⟨px, cx, rfl⟩ := hX1.len
        obtain ⟨py, cy, rfl⟩ := hX2.len
        have z1 := cell_lt f1
        have hlt' : (k : Int) + 1 < (ss.length : Int) := by omega
        have hlt0 : (k : Int) < (ss.length : Int) := by omega
        have HC := fun q : Ext wr => Compare_any _ _ _ _ x y q.wd (hU.keep q.ok) (hX.keep q.ok) hzx
        rw [hr] at HC
        have HC : Hid _ := HC
        clear hr
        go_wp2
        refine wp_region_ext (by kernel_rfl) (by kernel_rfl) ?_
        repeat (go_big_quiet_step ((go_at_call 18; exact calls_ext (HC.out _))))
        refine wpQuiet_nil ?_
        rintro _ ⟨rr, rfl⟩
        go_wp2
        go_roundw
        case rel => exact ⟨k + 1, .inr (by omega), by go_num, Below.thru hbr rr.ok (Nat.le_refl _)⟩
        case measure => simp [intOf]; omega
      · have hlt' : ¬ (k : Int) + 1 < (ss.length : Int) := by omega
        have hBr : Below w.heap.size w wr := Below.thru hB3 hbr (Nat.le_refl _)
        have hA := ha.keep hBr
        have hB := hb.keep hBr
        have sr := s3.any.keep hbr
        have lr := ho.keep hBr
        have kr1 := k13.keep hbr
        have kr2 := k23.keep hbr
        have e1 : wr.cell? ⟨w.heap.size, 0, none⟩ = some (.slice p1 a.regs.length c1) := kr1.cell 0
        have e2 : wr.cell? ⟨w.heap.size, 1, none⟩ = some (.slice p2 a.mem.length c2) := kr1.cell 1
        have e3 : wr.cell? ⟨w.heap.size + 1, 0, none⟩ = some (.slice p3 b.regs.length c3) := kr2.cell 0
        have e4 : wr.cell? ⟨w.heap.size + 1, 1, none⟩ = some (.slice p4 b.mem.length c4) := kr2.cell 1
        have CAB := fun (w' : World) (h : Below wr.heap.size wr w') => Compare_any _ _ _ _ a b w' (hA.keep h) (hB.keep h) hza.osz
        have CBA := fun (w' : World) (h : Below wr.heap.size wr w') => Compare_any _ _ _ _ b a w' (hB.keep h) (hA.keep h) hzb.osz
        have CAA := fun (w' : World) (h : Below wr.heap.size wr w') => Compare_any _ _ _ _ a a w' (hA.keep h) (hA.keep h) hza.osz
        rw [cmpO_self] at CAA
        rw [cmpO_swap b a] at CBA
        obtain ⟨r, hr⟩ : ∃ r, cmpO a b = r := ⟨_, rfl⟩
        obtain ⟨s, hs⟩ : ∃ s, -r = s := ⟨_, rfl⟩
        have hrr := cmpO_range a b
        rw [hr] at CAB CBA hrr
        rw [hs] at CBA
        have hrs : (r = -1 ∧ s = 1) ∨ (r = 0 ∧ s = 0) ∨ (r = 1 ∧ s = -1) := by omega
        clear hs hrr
        have CS1 := fun (w' : World) (h : Below wr.heap.size wr w') => Subset_any ps q cs d ss os w' (sr.keep h) (lr.keep h) (fun o h => (HZS.out o h).osz) (by omega) (by omega) HM1.out
        have CS2 := fun (w' : World) (h : Below wr.heap.size wr w') => Subset_any q ps d cs os ss w' (lr.keep h) (sr.keep h) (fun o h => (HZ.out o h).osz) (by omega) (by omega) HM2.out
        have CS3 := fun (w' : World) (h : Below wr.heap.size wr w') => Set_any ps cs ss w' (sr.keep h) HZS.out (by omega)
        rw [HSE.out] at CS3
        have CS4 := fun (p' : Option Addr) (c' : Nat) (w' : World) (h0 : Sl OutE w' (.slice p' ss.length c') ss) (h : Below wr.heap.size wr w') => Same_any p' ps c' cs ss w' h0 (sr.keep h) (fun o h => (HZS.out o h).osz) (by omega)
        have CAB : Hid _ := CAB
        have CBA : Hid _ := CBA
        have CAA : Hid _ := CAA
        have CS1 : Hid _ := CS1
        have CS2 : Hid _ := CS2
        have CS3 : Hid _ := CS3
        have CS4 : Hid _ := CS4
        clear hr kr1 kr2 k13 k23
        rcases hrs with ⟨rfl, rfl⟩ | ⟨rfl, rfl⟩ | ⟨rfl, rfl⟩
        all_goals
          have F1 := trivial
          go_wp2_with (first
            | (go_at_call 18; clear F1; refine Calls.mono (CAB.out _ (Below.refl _ _)) ?_; rintro e w4 ⟨rfl, hb4⟩; have F2 := trivial; have f1 := cell_keep e1 hb4; have f2 := cell_keep e2 hb4; have f3 := cell_keep e3 hb4; have f4 := cell_keep e4 hb4)
            | (go_at_call 18; clear F2; refine Calls.mono (CBA.out _ hb4) ?_; rintro e w5 ⟨rfl, hb5⟩; have F3 := trivial; have hc5 := Below.thru hb4 hb5 (Nat.le_refl _); have g1 := cell_keep f1 hb5; have g2 := cell_keep f2 hb5)
            | (go_at_call 18; clear F3; refine Calls.mono (CAA.out _ hc5) ?_; rintro e w6 ⟨rfl, hb6⟩; have F4 := trivial; have hc6 := Below.thru hc5 hb6 (Nat.le_refl _))
            | (go_at_call 23; clear F4; refine Calls.mono (CS1.out _ hc6) ?_; rintro e w7 ⟨rfl, hb7⟩; have F5 := trivial; have hc7 := Below.thru hc6 hb7 (Nat.le_refl _))
            | (go_at_call 23; clear F5; refine Calls.mono (CS2.out _ hc7) ?_; rintro e w8 ⟨rfl, hb8⟩; have hc8 := Below.thru hc7 hb8 (Nat.le_refl _))
            | (go_at_call 21; refine Calls.mono (CS3.out _ hc8) ?_; rintro e w9 ⟨v9, rfl, s9, hb9⟩; have hc9 := Below.thru hc8 hb9 (Nat.le_refl _); obtain ⟨p9, c9, rfl⟩ := s9.len)
            | (go_at_call 20; refine Calls.mono (CS4.out _ _ _ s9.any hc9) ?_; rintro e w10 ⟨rfl, hb10⟩))
          go_ret
          exact ⟨rfl, Below.thru (Below.thru hBr hc9 (Nat.le_refl _)) hb10 (Nat.le_refl _)⟩
end Go.Proofs.YtdealgleehbhlaaDoor
