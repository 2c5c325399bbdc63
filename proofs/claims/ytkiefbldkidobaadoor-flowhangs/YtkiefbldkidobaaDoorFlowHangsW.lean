/- FlowHangs, walked: it answers true. -/
import Derived.Test.YtkiefbldkidobaaDoorFlowTold
import Derived.Test.YtkiefbldkidobaaDoorFlowMath4
namespace Go.Proofs.YtkiefbldkidobaaDoor
open Go.RowKit
attribute [local go_sem] Ext.cell Ext.frozen

theorem rd_next {l : List Ev} {k j : Nat} (h : rdAt (l.take (k + 1)) j) : rdAt (l.take k) j ∨ (j = k ∧ rdAt l k) := by
  obtain ⟨e, h1, h2⟩ := h
  rw [List.getElem?_take] at h1
  split at h1
  · by_cases hj : j < k
    · exact .inl ⟨e, by rw [List.getElem?_take, if_pos hj]; exact h1, h2⟩
    · have : j = k := by omega
      subst this
      exact .inr ⟨rfl, e, h1, h2⟩
  · cases h1
theorem msk_0 {l : List Ev} {m : Int} {L : Nat} (h : Msk l m) (hL : L < 4294967296) (hr : ∀ j, rdAt l j → L.testBit j = true) : bits .andNot .u32 m (L : Int) = 0 := by
  obtain ⟨n, rfl, h1, h2⟩ := h
  exact andNot_0 h1 hL fun j hj => hr j (h2 j hj)
theorem or_bit {L k : Nat} (hL : L < 4294967296) (hk : k < 32) : bits .or .u32 (L : Int) ((2 : Int) ^ k % 4294967296) = ((L ||| 2 ^ k : Nat) : Int) ∧ L ||| 2 ^ k < 4294967296 := by
  have h2 : 2 ^ k < 4294967296 := Nat.lt_of_lt_of_le (Nat.pow_lt_pow_right (by decide) hk) (by decide)
  have e : ((2 : Int) ^ k % 4294967296) = ((2 ^ k : Nat) : Int) := by
    rw [Int.emod_eq_of_lt]
    · simp
    · exact Int.pow_nonneg (by decide)
    · have : ((2 ^ k : Nat) : Int) < 4294967296 := by omega
      simpa using this
  rw [e]
  exact ⟨or_nat hL h2, Nat.or_lt_two_pow (n := 32) hL h2⟩

set_option maxRecDepth 20000 in
set_option maxHeartbeats 8000000 in
theorem FlowHangs_true (p pv pl : Option Addr) (c cv cl : Nat) (th : List Ins) (vals : List Int) (lucks : List Bool) (w : World) (T : FEnv w) (ht : Sl InsE w (.slice p th.length c) th) (hv : Sl IntE w (.slice pv vals.length cv) vals) (hl : Sl BoolE w (.slice pl lucks.length cl) lucks) :
    Calls Tryd.prog 5 #[.slice p th.length c, .slice pv vals.length cv, .slice pl lucks.length cl] w fun e w' => e = .returned (.bool true) ∧ Below w.heap.size w w' := by
  have hne : ∀ w, Nonempty (Ext w) := ext_some
  by_cases hn : th.length ≤ 8 ∧ vals.length ≤ 40 ∧ lucks.length ≤ 40
  · obtain ⟨n1, n2, n3⟩ := hn
    have n1' : (th.length : Int) ≤ 8 := by omega
    have n2' : (vals.length : Int) ≤ 40 := by omega
    have n3' : (lucks.length : Int) ≤ 40 := by omega
    have hO := (runT_ok th 2 vals lucks).1
    have lenD := (runT_ok th 2 vals lucks).2
    have hH := runT_hang th 2 vals lucks
    have l1 := hO.ad
    have l2 := hO.da
    have l3 := hO.ct
    have l4 := hO.pa
    have hD := fun W (hb : Below w.heap.size w W) => Run_any p pv pl c cv cl th 2 vals lucks W (T.below hb).tab (T.below hb).bar (ht.keep hb) (hv.keep hb) (hl.keep hb) (by omega) (by omega)
    generalize runT th 2 vals lucks = D at *
    clear hO
    have HD : Hid _ := hD
    have HL1 : Hid _ := l1
    have HL2 : Hid _ := l2
    have HL3 : Hid _ := l3
    have HL4 : Hid _ := l4
    clear hD l1 l2 l3 l4
    have lenD' : (D.evs.length : Int) ≤ 8 := by omega
    have hnn : ((D.evs.length : Int) != (D.evs.length : Int)) = false := by simp
    have F1 := trivial
    go_enter Tryd.func5, Tryd.ntmps5
    go_wp2_with (first
      | (go_at_call 9; clear F1; refine (shown8_any _ T).mono ?_; rintro e w1 ⟨rfl, hb1⟩; have F2 := trivial)
      | (go_at_call 12; clear F2; refine (HD.out _ hb1).mono ?_; rintro e w2 ⟨r, rfl, hT, hb2⟩; have B2 := Below.thru hb1 hb2 (Nat.le_refl _); have F3 := trivial)
      | (clear F3; refine wpList_told (w := w2) (by rfl) (.tmp 8) (.tmp 34) (by rfl) hT (by rfl) (by rfl) ?_; intro w4 kL hT4 B24; simp only [Act.put]; have B4 := Below.thru B2 B24 (Nat.le_refl _); obtain ⟨p0, c0, h0⟩ := hT4.e0.len; obtain ⟨p1, c1, h1⟩ := hT4.e1.len; obtain ⟨p2, c2, h2⟩ := hT4.e2.len; obtain ⟨p3, c3, h3⟩ := hT4.e3.len; obtain ⟨p4, c4, h4⟩ := hT4.e4.len; rw [HL1.out] at h1; rw [HL2.out] at h2; rw [HL3.out] at h3; rw [HL4.out] at h4; have s0 := hT4.e0; have s1 := hT4.e1; have s2 := hT4.e2; have s3 := hT4.e3; have s4 := hT4.e4; rw [h0] at s0; rw [h1] at s1; rw [h2] at s2; rw [h3] at s3; rw [h4] at s4; obtain ⟨x0, x1, x2, x3, x4⟩ := kL.rows; rw [h0] at x0; rw [h1] at x1; rw [h2] at x2; rw [h3] at x3; rw [h4] at x4; have lk := kL.lt; clear h0 h1 h2 h3 h4 hT4 hT))
    go_loopw [10, 11, 12] (fun a b i wr => ∃ (k L : Nat) (cz : Int), k ≤ D.evs.length ∧ i = .int .i64 k ∧ a = .int .u32 L ∧ b = .int .u32 cz ∧ L < 4294967296 ∧ (∀ j, rdAt (D.evs.take k) j → L.testBit j = true) ∧ ((k = 0 ∧ cz = 0) ∨ ∃ m, k = m + 1 ∧ D.ct[m]? = some cz) ∧ Below w4.heap.size w4 wr) (fun _ _ i _ => D.evs.length - (intOf i).toNat)
    case atStart => exact ⟨0, 0, 0, Nat.zero_le _, rfl, rfl, rfl, by decide, fun j h => by obtain ⟨e, h, _⟩ := h; simp at h, .inl ⟨rfl, rfl⟩, by go_grown⟩
    case round =>
      obtain ⟨k, L, cz, hk, rfl, rfl, rfl, hL, hrd, hcz, hB⟩ := hrel
      have HR : Hid _ := hrd
      have HZ : Hid _ := hcz
      clear hrd hcz
      replace x0 := cell_keep x0 hB
      replace x1 := cell_keep x1 hB
      replace x2 := cell_keep x2 hB
      replace x3 := cell_keep x3 hB
      replace x4 := cell_keep x4 hB
      replace lk := cell_lt x0
      by_cases hlt : k < D.evs.length
      · obtain ⟨gb, go, rfl, g0, g1, g2, g3, g4, g5, g6⟩ := (ev_at (s0.keep hB)).2 k hlt
        have k1 : k < D.ad.length := by rw [HL1.out]; exact hlt
        have k2 : k < D.da.length := by rw [HL2.out]; exact hlt
        have k3 : k < D.ct.length := by rw [HL3.out]; exact hlt
        have k4 : k < D.pa.length := by rw [HL4.out]; exact hlt
        obtain ⟨ab, ao, rfl, ma⟩ := (msk_at (s1.keep hB)).2 k k1
        obtain ⟨db, do_, rfl, md⟩ := (msk_at (s2.keep hB)).2 k k2
        obtain ⟨cb, co, rfl, mc⟩ := (msk_at (s3.keep hB)).2 k k3
        obtain ⟨qb, qo, rfl, mp⟩ := (ints_at (s4.keep hB)).2 k k4
        have hce : D.ct[k]? = some D.ct[k] := List.getElem?_eq_getElem k3
        have hee : D.evs[k]? = some D.evs[k] := List.getElem?_eq_getElem hlt
        have g := hH.ev k _ _ _ _ _ hee (List.getElem?_eq_getElem k1) (List.getElem?_eq_getElem k2) hce (List.getElem?_eq_getElem k4)
        have hS := (s0.keep hB)
        generalize D.evs[k] = e at *
        generalize D.ad[k] = a0 at *
        generalize D.da[k] = d0 at *
        generalize D.ct[k] = c0 at *
        generalize D.pa[k] = pz at *
        have q1 := msk_0 ((g.ma.or g.md).or g.mc) hL HR.out
        have q2 : bits .andNot .u32 cz c0 = 0 := by
          rcases HZ.out with ⟨_, h⟩ | ⟨m, rfl, h⟩
          · rw [h]
            obtain ⟨n, rfl, hn, _⟩ := g.mc
            exact andNot_0 (a := 0) (by decide) hn (fun j h => by simp at h)
          · exact (hH.grow m cz c0 h hce).zero
        have lg := cell_lt g1
        have la := cell_lt ma
        have ld := cell_lt md
        have lc := cell_lt mc
        have lp := cell_lt mp
        have hnx : ∀ j, rdAt (D.evs.take (k + 1)) j → rdAt (D.evs.take k) j ∨ (j = k ∧ e.kd = 1) := by
          intro j h
          rcases rd_next h with h | ⟨rfl, e', h1, h2⟩
          · exact .inl h
          · rw [hee] at h1
            exact .inr ⟨rfl, by rw [Option.some.inj h1]; exact h2⟩
        have HC : Hid _ := hce
        have hth : e.th = 0 := g.th
        obtain ⟨kd1, kd2⟩ := g.kd
        have gw := g.w
        have gp1 := g.p1
        have gp2 := g.p2
        have gp3 := g.p3
        clear g hce hee HZ k1 k2 k3 k4
        rw [hth] at g0
        by_cases hk1 : e.kd = 1
        · have hd0 : d0 = 0 := gw (by omega)
          rw [hd0] at md q1
          clear hd0 gw
          have hrdN : ∀ j, rdAt (D.evs.take (k + 1)) j → (L ||| 2 ^ k).testBit j = true := by
            intro j h
            rw [Nat.testBit_or, Bool.or_eq_true]
            rcases hnx j h with h | ⟨rfl, _⟩
            · exact .inl (HR.out j h)
            · exact .inr (by rw [Nat.testBit_two_pow]; simp)
          have hp0 : ¬ (0 ≤ pz) := fun h => by have := (gp1.1 h).1; omega
          have hp1 : decide (0 ≤ pz) = false := decide_eq_false hp0
          have hp2 : decide ((k : Int) ≤ pz) = false := decide_eq_false (by omega)
          clear hp0
          obtain ⟨hor, hor2⟩ := or_bit (k := k) hL (by omega)
          rw [hk1] at g1
          clear gp1 gp2 gp3 hnx
          clear hk1 kd1 kd2
          go_wp2
          obtain ⟨w5, hw5, kE, B5⟩ : ∃ w5, w5 = wr.alloc (.cells #[.int .i64 0, .int .i64 1, .int .i64 e.lc, .int .i64 e.vl, .bool e.aq, .bool e.rl, .bool e.ex] 47) ∧ Blk w5 wr.heap.size #[.int .i64 0, .int .i64 1, .int .i64 e.lc, .int .i64 e.vl, .bool e.aq, .bool e.rl, .bool e.ex] 47 ∧ Below wr.heap.size wr w5 := ⟨_, rfl, Blk.new, below_new _ _⟩
          rw [← hw5]
          clear hw5
          replace x0 := cell_keep x0 B5
          replace x1 := cell_keep x1 B5
          replace x2 := cell_keep x2 B5
          replace x3 := cell_keep x3 B5
          replace x4 := cell_keep x4 B5
          replace g0 := cell_keep g0 B5
          replace g1 := cell_keep g1 B5
          replace g2 := cell_keep g2 B5
          replace g3 := cell_keep g3 B5
          replace g4 := cell_keep g4 B5
          replace g5 := cell_keep g5 B5
          replace g6 := cell_keep g6 B5
          replace ma := cell_keep ma B5
          replace md := cell_keep md B5
          replace mc := cell_keep mc B5
          replace mp := cell_keep mp B5
          replace lk := cell_lt x0
          replace lg := cell_lt g1
          replace la := cell_lt ma
          replace ld := cell_lt md
          replace lc := cell_lt mc
          replace lp := cell_lt mp
          have ke := Blk.cell kE
          have e0 := (ke 0).trans rfl
          have e1 := (ke 1).trans rfl
          have e2 := (ke 2).trans rfl
          have e6 := (ke 6).trans rfl
          clear ke
          have le := Blk.lt kE
          refine wp_region_ext (by kernel_rfl) (by kernel_rfl) ?_
          repeat (go_big_quiet_step (fail))
          refine wpQuiet_nil ?_
          rintro _ ⟨rr, rfl⟩
          have r6 := rr.ok
          generalize rr.wd = w6 at *
          clear rr
          replace x0 := cell_keep x0 r6
          replace x1 := cell_keep x1 r6
          replace x2 := cell_keep x2 r6
          replace x3 := cell_keep x3 r6
          replace x4 := cell_keep x4 r6
          replace g0 := cell_keep g0 r6
          replace g1 := cell_keep g1 r6
          replace g2 := cell_keep g2 r6
          replace g3 := cell_keep g3 r6
          replace g4 := cell_keep g4 r6
          replace g5 := cell_keep g5 r6
          replace g6 := cell_keep g6 r6
          replace ma := cell_keep ma r6
          replace md := cell_keep md r6
          replace mc := cell_keep mc r6
          replace mp := cell_keep mp r6
          replace e0 := cell_keep e0 r6
          replace e1 := cell_keep e1 r6
          replace e2 := cell_keep e2 r6
          replace e6 := cell_keep e6 r6
          replace lk := cell_lt x0
          replace lg := cell_lt g1
          replace la := cell_lt ma
          replace ld := cell_lt md
          replace lc := cell_lt mc
          replace lp := cell_lt mp
          replace le := cell_lt e0
          go_wp2
          refine wp_region_ext (by kernel_rfl) (by kernel_rfl) ?_
          repeat (go_big_quiet_step (fail))
          refine wpQuiet_nil ?_
          rintro _ ⟨rr, rfl⟩
          have r7 := rr.ok
          generalize rr.wd = w7 at *
          clear rr
          replace x0 := cell_keep x0 r7
          replace x1 := cell_keep x1 r7
          replace x2 := cell_keep x2 r7
          replace x3 := cell_keep x3 r7
          replace x4 := cell_keep x4 r7
          replace g0 := cell_keep g0 r7
          replace g1 := cell_keep g1 r7
          replace g2 := cell_keep g2 r7
          replace g3 := cell_keep g3 r7
          replace g4 := cell_keep g4 r7
          replace g5 := cell_keep g5 r7
          replace g6 := cell_keep g6 r7
          replace ma := cell_keep ma r7
          replace md := cell_keep md r7
          replace mc := cell_keep mc r7
          replace mp := cell_keep mp r7
          replace e0 := cell_keep e0 r7
          replace e1 := cell_keep e1 r7
          replace e2 := cell_keep e2 r7
          replace e6 := cell_keep e6 r7
          replace lk := cell_lt x0
          replace lg := cell_lt g1
          replace la := cell_lt ma
          replace ld := cell_lt md
          replace lc := cell_lt mc
          replace lp := cell_lt mp
          replace le := cell_lt e0
          have BW : Below w4.heap.size w4 w7 := Below.thru (Below.thru (Below.thru hB B5 (Nat.le_refl _)) r6 (Nat.le_refl _)) r7 (Nat.le_refl _)
          go_wp2
          go_roundw
          case rel => exact ⟨k + 1, L ||| 2 ^ k, c0, by omega, by go_num, rfl, rfl, hor2, hrdN, .inr ⟨k, rfl, HC.out⟩, BW⟩
          case measure => simp [intOf]; omega
        · have hrdN : ∀ j, rdAt (D.evs.take (k + 1)) j → L.testBit j = true := fun j h => HR.out j ((hnx j h).resolve_right (fun h => hk1 h.2))
          by_cases hk2 : e.kd = 2
          · by_cases hex : e.ex = true
            · obtain ⟨f, hf, f1k, f6k, f2k⟩ := gp3 (gp1.2 ⟨hk2, hex⟩)
              obtain ⟨m, rfl⟩ : ∃ m : Nat, pz = (m : Int) := ⟨pz.toNat, by have := gp1.2 ⟨hk2, hex⟩; omega⟩
              have hmk : m < k := by rw [List.length_take] at gp2; omega
              have hmn : m < D.evs.length := by omega
              rw [Int.toNat_natCast, List.getElem?_take, if_pos hmk, List.getElem?_eq_getElem hmn] at hf
              obtain ⟨gb', go', hge, f0, f1, f2, f3, f4, f5, f6⟩ := (ev_at hS).2 m hmn
              obtain ⟨rfl, rfl⟩ : gb' = gb ∧ go' = go := by simp only [Option.some.injEq, Addr.mk.injEq, and_true] at hge; exact ⟨hge.1.symm, hge.2.symm⟩
              rw [Option.some.inj hf] at f1 f2 f6
              rw [f1k] at f1
              rw [f6k] at f6
              rw [f2k] at f2
              have lf := cell_lt f1
              have hp2 : decide (k ≤ m) = false := decide_eq_false (by omega)
              have hp3 : decide ((k : Int) ≤ (m : Int)) = false := decide_eq_false (by omega)
              rw [hk2] at g1
              rw [hex] at g6
              clear gp1 gp2 gp3 hnx
              clear hk1 hk2 hex kd1 kd2 gw hf f0 f3 f4 f5 hge f1k f6k f2k
              go_wp2
              obtain ⟨w5, hw5, kE, B5⟩ : ∃ w5, w5 = wr.alloc (.cells #[.int .i64 0, .int .i64 2, .int .i64 e.lc, .int .i64 e.vl, .bool e.aq, .bool e.rl, .bool true] 47) ∧ Blk w5 wr.heap.size #[.int .i64 0, .int .i64 2, .int .i64 e.lc, .int .i64 e.vl, .bool e.aq, .bool e.rl, .bool true] 47 ∧ Below wr.heap.size wr w5 := ⟨_, rfl, Blk.new, below_new _ _⟩
              rw [← hw5]
              clear hw5
              replace x0 := cell_keep x0 B5
              replace x1 := cell_keep x1 B5
              replace x2 := cell_keep x2 B5
              replace x3 := cell_keep x3 B5
              replace x4 := cell_keep x4 B5
              replace g0 := cell_keep g0 B5
              replace g1 := cell_keep g1 B5
              replace g2 := cell_keep g2 B5
              replace g3 := cell_keep g3 B5
              replace g4 := cell_keep g4 B5
              replace g5 := cell_keep g5 B5
              replace g6 := cell_keep g6 B5
              replace ma := cell_keep ma B5
              replace md := cell_keep md B5
              replace mc := cell_keep mc B5
              replace mp := cell_keep mp B5
              replace f1 := cell_keep f1 B5
              replace f2 := cell_keep f2 B5
              replace f6 := cell_keep f6 B5
              replace lk := cell_lt x0
              replace lg := cell_lt g1
              replace la := cell_lt ma
              replace ld := cell_lt md
              replace lc := cell_lt mc
              replace lp := cell_lt mp
              have ke := Blk.cell kE
              have e0 := (ke 0).trans rfl
              have e1 := (ke 1).trans rfl
              have e2 := (ke 2).trans rfl
              have e6 := (ke 6).trans rfl
              clear ke
              have le := Blk.lt kE
              replace lf := cell_lt f1
              refine wp_region_ext (by kernel_rfl) (by kernel_rfl) ?_
              repeat (go_big_quiet_step (fail))
              refine wpQuiet_nil ?_
              rintro _ ⟨rr, rfl⟩
              have r6 := rr.ok
              generalize rr.wd = w6 at *
              clear rr
              replace x0 := cell_keep x0 r6
              replace x1 := cell_keep x1 r6
              replace x2 := cell_keep x2 r6
              replace x3 := cell_keep x3 r6
              replace x4 := cell_keep x4 r6
              replace g0 := cell_keep g0 r6
              replace g1 := cell_keep g1 r6
              replace g2 := cell_keep g2 r6
              replace g3 := cell_keep g3 r6
              replace g4 := cell_keep g4 r6
              replace g5 := cell_keep g5 r6
              replace g6 := cell_keep g6 r6
              replace ma := cell_keep ma r6
              replace md := cell_keep md r6
              replace mc := cell_keep mc r6
              replace mp := cell_keep mp r6
              replace f1 := cell_keep f1 r6
              replace f2 := cell_keep f2 r6
              replace f6 := cell_keep f6 r6
              replace e0 := cell_keep e0 r6
              replace e1 := cell_keep e1 r6
              replace e2 := cell_keep e2 r6
              replace e6 := cell_keep e6 r6
              replace lk := cell_lt x0
              replace lg := cell_lt g1
              replace la := cell_lt ma
              replace ld := cell_lt md
              replace lc := cell_lt mc
              replace lp := cell_lt mp
              replace le := cell_lt e0
              replace lf := cell_lt f1
              go_wp2
              refine wp_region_ext (by kernel_rfl) (by kernel_rfl) ?_
              repeat (go_big_quiet_step (fail))
              refine wpQuiet_nil ?_
              rintro _ ⟨rr, rfl⟩
              have r7 := rr.ok
              generalize rr.wd = w7 at *
              clear rr
              replace x0 := cell_keep x0 r7
              replace x1 := cell_keep x1 r7
              replace x2 := cell_keep x2 r7
              replace x3 := cell_keep x3 r7
              replace x4 := cell_keep x4 r7
              replace g0 := cell_keep g0 r7
              replace g1 := cell_keep g1 r7
              replace g2 := cell_keep g2 r7
              replace g3 := cell_keep g3 r7
              replace g4 := cell_keep g4 r7
              replace g5 := cell_keep g5 r7
              replace g6 := cell_keep g6 r7
              replace ma := cell_keep ma r7
              replace md := cell_keep md r7
              replace mc := cell_keep mc r7
              replace mp := cell_keep mp r7
              replace f1 := cell_keep f1 r7
              replace f2 := cell_keep f2 r7
              replace f6 := cell_keep f6 r7
              replace e0 := cell_keep e0 r7
              replace e1 := cell_keep e1 r7
              replace e2 := cell_keep e2 r7
              replace e6 := cell_keep e6 r7
              replace lk := cell_lt x0
              replace lg := cell_lt g1
              replace la := cell_lt ma
              replace ld := cell_lt md
              replace lc := cell_lt mc
              replace lp := cell_lt mp
              replace le := cell_lt e0
              have BW : Below w4.heap.size w4 w7 := Below.thru (Below.thru (Below.thru hB B5 (Nat.le_refl _)) r6 (Nat.le_refl _)) r7 (Nat.le_refl _)
              go_wp2
              go_roundw
              case rel => exact ⟨k + 1, L, c0, by omega, by go_num, rfl, rfl, hL, hrdN, .inr ⟨k, rfl, HC.out⟩, BW⟩
              case measure => simp [intOf]; omega
            · have hex' : e.ex = false := by simpa using hex
              have hp0 : ¬ (0 ≤ pz) := fun h => hex (gp1.1 h).2
              have hp1 : decide (0 ≤ pz) = false := decide_eq_false hp0
              have hp2 : decide ((k : Int) ≤ pz) = false := decide_eq_false (by omega)
              clear hp0
              rw [hk2] at g1
              rw [hex'] at g6
              clear gp1 gp2 gp3 hnx
              clear hk1 hk2 hex hex' kd1 kd2 gw
              go_wp2
              obtain ⟨w5, hw5, kE, B5⟩ : ∃ w5, w5 = wr.alloc (.cells #[.int .i64 0, .int .i64 2, .int .i64 e.lc, .int .i64 e.vl, .bool e.aq, .bool e.rl, .bool false] 47) ∧ Blk w5 wr.heap.size #[.int .i64 0, .int .i64 2, .int .i64 e.lc, .int .i64 e.vl, .bool e.aq, .bool e.rl, .bool false] 47 ∧ Below wr.heap.size wr w5 := ⟨_, rfl, Blk.new, below_new _ _⟩
              rw [← hw5]
              clear hw5
              replace x0 := cell_keep x0 B5
              replace x1 := cell_keep x1 B5
              replace x2 := cell_keep x2 B5
              replace x3 := cell_keep x3 B5
              replace x4 := cell_keep x4 B5
              replace g0 := cell_keep g0 B5
              replace g1 := cell_keep g1 B5
              replace g2 := cell_keep g2 B5
              replace g3 := cell_keep g3 B5
              replace g4 := cell_keep g4 B5
              replace g5 := cell_keep g5 B5
              replace g6 := cell_keep g6 B5
              replace ma := cell_keep ma B5
              replace md := cell_keep md B5
              replace mc := cell_keep mc B5
              replace mp := cell_keep mp B5
              replace lk := cell_lt x0
              replace lg := cell_lt g1
              replace la := cell_lt ma
              replace ld := cell_lt md
              replace lc := cell_lt mc
              replace lp := cell_lt mp
              have ke := Blk.cell kE
              have e0 := (ke 0).trans rfl
              have e1 := (ke 1).trans rfl
              have e2 := (ke 2).trans rfl
              have e6 := (ke 6).trans rfl
              clear ke
              have le := Blk.lt kE
              refine wp_region_ext (by kernel_rfl) (by kernel_rfl) ?_
              repeat (go_big_quiet_step (fail))
              refine wpQuiet_nil ?_
              rintro _ ⟨rr, rfl⟩
              have r6 := rr.ok
              generalize rr.wd = w6 at *
              clear rr
              replace x0 := cell_keep x0 r6
              replace x1 := cell_keep x1 r6
              replace x2 := cell_keep x2 r6
              replace x3 := cell_keep x3 r6
              replace x4 := cell_keep x4 r6
              replace g0 := cell_keep g0 r6
              replace g1 := cell_keep g1 r6
              replace g2 := cell_keep g2 r6
              replace g3 := cell_keep g3 r6
              replace g4 := cell_keep g4 r6
              replace g5 := cell_keep g5 r6
              replace g6 := cell_keep g6 r6
              replace ma := cell_keep ma r6
              replace md := cell_keep md r6
              replace mc := cell_keep mc r6
              replace mp := cell_keep mp r6
              replace e0 := cell_keep e0 r6
              replace e1 := cell_keep e1 r6
              replace e2 := cell_keep e2 r6
              replace e6 := cell_keep e6 r6
              replace lk := cell_lt x0
              replace lg := cell_lt g1
              replace la := cell_lt ma
              replace ld := cell_lt md
              replace lc := cell_lt mc
              replace lp := cell_lt mp
              replace le := cell_lt e0
              go_wp2
              refine wp_region_ext (by kernel_rfl) (by kernel_rfl) ?_
              repeat (go_big_quiet_step (fail))
              refine wpQuiet_nil ?_
              rintro _ ⟨rr, rfl⟩
              have r7 := rr.ok
              generalize rr.wd = w7 at *
              clear rr
              replace x0 := cell_keep x0 r7
              replace x1 := cell_keep x1 r7
              replace x2 := cell_keep x2 r7
              replace x3 := cell_keep x3 r7
              replace x4 := cell_keep x4 r7
              replace g0 := cell_keep g0 r7
              replace g1 := cell_keep g1 r7
              replace g2 := cell_keep g2 r7
              replace g3 := cell_keep g3 r7
              replace g4 := cell_keep g4 r7
              replace g5 := cell_keep g5 r7
              replace g6 := cell_keep g6 r7
              replace ma := cell_keep ma r7
              replace md := cell_keep md r7
              replace mc := cell_keep mc r7
              replace mp := cell_keep mp r7
              replace e0 := cell_keep e0 r7
              replace e1 := cell_keep e1 r7
              replace e2 := cell_keep e2 r7
              replace e6 := cell_keep e6 r7
              replace lk := cell_lt x0
              replace lg := cell_lt g1
              replace la := cell_lt ma
              replace ld := cell_lt md
              replace lc := cell_lt mc
              replace lp := cell_lt mp
              replace le := cell_lt e0
              have BW : Below w4.heap.size w4 w7 := Below.thru (Below.thru (Below.thru hB B5 (Nat.le_refl _)) r6 (Nat.le_refl _)) r7 (Nat.le_refl _)
              go_wp2
              go_roundw
              case rel => exact ⟨k + 1, L, c0, by omega, by go_num, rfl, rfl, hL, hrdN, .inr ⟨k, rfl, HC.out⟩, BW⟩
              case measure => simp [intOf]; omega
          · have hd0 : d0 = 0 := gw (by omega)
            rw [hd0] at md q1
            clear hd0 gw
            have hp0 : ¬ (0 ≤ pz) := fun h => hk2 (gp1.1 h).1
            have hp1 : decide (0 ≤ pz) = false := decide_eq_false hp0
            have hp2 : decide ((k : Int) ≤ pz) = false := decide_eq_false (by omega)
            clear hp0
            have j1 : (e.kd == 1) = false := by simpa using hk1
            have j2 : (e.kd == 2) = false := by simpa using hk2
            have j3 : (e.kd != 2) = true := by simpa using hk2
            have j4 : decide (e.kd < 1) = false := decide_eq_false (by omega)
            have j5 : decide (6 < e.kd) = false := decide_eq_false (by omega)
            clear gp1 gp2 gp3 hnx
            clear hk1 hk2
            go_wp2
            obtain ⟨w5, hw5, kE, B5⟩ : ∃ w5, w5 = wr.alloc (.cells #[.int .i64 0, .int .i64 e.kd, .int .i64 e.lc, .int .i64 e.vl, .bool e.aq, .bool e.rl, .bool e.ex] 47) ∧ Blk w5 wr.heap.size #[.int .i64 0, .int .i64 e.kd, .int .i64 e.lc, .int .i64 e.vl, .bool e.aq, .bool e.rl, .bool e.ex] 47 ∧ Below wr.heap.size wr w5 := ⟨_, rfl, Blk.new, below_new _ _⟩
            rw [← hw5]
            clear hw5
            replace x0 := cell_keep x0 B5
            replace x1 := cell_keep x1 B5
            replace x2 := cell_keep x2 B5
            replace x3 := cell_keep x3 B5
            replace x4 := cell_keep x4 B5
            replace g0 := cell_keep g0 B5
            replace g1 := cell_keep g1 B5
            replace g2 := cell_keep g2 B5
            replace g3 := cell_keep g3 B5
            replace g4 := cell_keep g4 B5
            replace g5 := cell_keep g5 B5
            replace g6 := cell_keep g6 B5
            replace ma := cell_keep ma B5
            replace md := cell_keep md B5
            replace mc := cell_keep mc B5
            replace mp := cell_keep mp B5
            replace lk := cell_lt x0
            replace lg := cell_lt g1
            replace la := cell_lt ma
            replace ld := cell_lt md
            replace lc := cell_lt mc
            replace lp := cell_lt mp
            have ke := Blk.cell kE
            have e0 := (ke 0).trans rfl
            have e1 := (ke 1).trans rfl
            have e2 := (ke 2).trans rfl
            have e6 := (ke 6).trans rfl
            clear ke
            have le := Blk.lt kE
            refine wp_region_ext (by kernel_rfl) (by kernel_rfl) ?_
            repeat (go_big_quiet_step (fail))
            refine wpQuiet_nil ?_
            rintro _ ⟨rr, rfl⟩
            have r6 := rr.ok
            generalize rr.wd = w6 at *
            clear rr
            replace x0 := cell_keep x0 r6
            replace x1 := cell_keep x1 r6
            replace x2 := cell_keep x2 r6
            replace x3 := cell_keep x3 r6
            replace x4 := cell_keep x4 r6
            replace g0 := cell_keep g0 r6
            replace g1 := cell_keep g1 r6
            replace g2 := cell_keep g2 r6
            replace g3 := cell_keep g3 r6
            replace g4 := cell_keep g4 r6
            replace g5 := cell_keep g5 r6
            replace g6 := cell_keep g6 r6
            replace ma := cell_keep ma r6
            replace md := cell_keep md r6
            replace mc := cell_keep mc r6
            replace mp := cell_keep mp r6
            replace e0 := cell_keep e0 r6
            replace e1 := cell_keep e1 r6
            replace e2 := cell_keep e2 r6
            replace e6 := cell_keep e6 r6
            replace lk := cell_lt x0
            replace lg := cell_lt g1
            replace la := cell_lt ma
            replace ld := cell_lt md
            replace lc := cell_lt mc
            replace lp := cell_lt mp
            replace le := cell_lt e0
            go_wp2
            refine wp_region_ext (by kernel_rfl) (by kernel_rfl) ?_
            repeat (go_big_quiet_step (fail))
            refine wpQuiet_nil ?_
            rintro _ ⟨rr, rfl⟩
            have r7 := rr.ok
            generalize rr.wd = w7 at *
            clear rr
            replace x0 := cell_keep x0 r7
            replace x1 := cell_keep x1 r7
            replace x2 := cell_keep x2 r7
            replace x3 := cell_keep x3 r7
            replace x4 := cell_keep x4 r7
            replace g0 := cell_keep g0 r7
            replace g1 := cell_keep g1 r7
            replace g2 := cell_keep g2 r7
            replace g3 := cell_keep g3 r7
            replace g4 := cell_keep g4 r7
            replace g5 := cell_keep g5 r7
            replace g6 := cell_keep g6 r7
            replace ma := cell_keep ma r7
            replace md := cell_keep md r7
            replace mc := cell_keep mc r7
            replace mp := cell_keep mp r7
            replace e0 := cell_keep e0 r7
            replace e1 := cell_keep e1 r7
            replace e2 := cell_keep e2 r7
            replace e6 := cell_keep e6 r7
            replace lk := cell_lt x0
            replace lg := cell_lt g1
            replace la := cell_lt ma
            replace ld := cell_lt md
            replace lc := cell_lt mc
            replace lp := cell_lt mp
            replace le := cell_lt e0
            have BW : Below w4.heap.size w4 w7 := Below.thru (Below.thru (Below.thru hB B5 (Nat.le_refl _)) r6 (Nat.le_refl _)) r7 (Nat.le_refl _)
            go_wp2
            go_roundw
            case rel => exact ⟨k + 1, L, c0, by omega, by go_num, rfl, rfl, hL, hrdN, .inr ⟨k, rfl, HC.out⟩, BW⟩
            case measure => simp [intOf]; omega
      · have hR2 := HR.out
        rw [List.take_of_length_le (by omega)] at hR2
        have HR2 : Hid _ := hR2
        clear hR2 HR HZ
        obtain ⟨wq, rfl⟩ : ∃ x : World, x = wr := ⟨_, rfl⟩
        have kQ := TrB.keep kL hB
        go_wp2
        go_loopw [15] (fun i wr => ∃ m : Nat, m ≤ 4 ∧ i = .int .i64 m ∧ Below wq.heap.size wq wr) (fun i _ => 4 - (intOf i).toNat)
        case atStart => exact ⟨0, by decide, rfl, by go_grown⟩
        case round =>
          obtain ⟨m, hm, rfl, hC⟩ := hrel
          have kS := TrB.keep kQ hC
          have ls := kS.lt
          obtain ⟨-, z0, z1, z2, z3⟩ := kS.regs
          have y0 := msk_0 (hH.dep 0) hL HR2.out
          have y1 := msk_0 (hH.dep 1) hL HR2.out
          have y2 := msk_0 (hH.dep 2) hL HR2.out
          have y3 := msk_0 (hH.dep 3) hL HR2.out
          have hm' : m = 0 ∨ m = 1 ∨ m = 2 ∨ m = 3 ∨ m = 4 := by omega
          rcases hm' with rfl | rfl | rfl | rfl | rfl
          · go_wp2
            go_roundw
            case rel => exact ⟨1, by decide, by go_num, hC⟩
            case measure => simp [intOf]
          · go_wp2
            go_roundw
            case rel => exact ⟨2, by decide, by go_num, hC⟩
            case measure => simp [intOf]
          · go_wp2
            go_roundw
            case rel => exact ⟨3, by decide, by go_num, hC⟩
            case measure => simp [intOf]
          · go_wp2
            go_roundw
            case rel => exact ⟨4, by decide, by go_num, hC⟩
            case measure => simp [intOf]
          · go_wp2
            go_returns
            exact ⟨rfl, Below.thru (Below.thru B4 hB (Nat.le_refl _)) hC (Nat.le_refl _)⟩
  · have hcase : 8 < th.length ∨ (th.length ≤ 8 ∧ 40 < vals.length) ∨ (th.length ≤ 8 ∧ vals.length ≤ 40 ∧ 40 < lucks.length) := by omega
    rcases hcase with h | ⟨h1, h⟩ | ⟨h1, h2, h⟩
    · have n1' : ¬ (th.length : Int) ≤ 8 := by omega
      go_enter Tryd.func5, Tryd.ntmps5
      go_wp2_with (go_at_call 9; refine (shown8_any _ T).mono ?_; rintro e w1 ⟨rfl, hb1⟩)
      go_returns
      exact ⟨rfl, hb1⟩
    · have n1' : (th.length : Int) ≤ 8 := by omega
      have n2' : ¬ (vals.length : Int) ≤ 40 := by omega
      go_enter Tryd.func5, Tryd.ntmps5
      go_wp2_with (go_at_call 9; refine (shown8_any _ T).mono ?_; rintro e w1 ⟨rfl, hb1⟩)
      go_returns
      exact ⟨rfl, hb1⟩
    · have n1' : (th.length : Int) ≤ 8 := by omega
      have n2' : (vals.length : Int) ≤ 40 := by omega
      have n3' : ¬ (lucks.length : Int) ≤ 40 := by omega
      go_enter Tryd.func5, Tryd.ntmps5
      go_wp2_with (go_at_call 9; refine (shown8_any _ T).mono ?_; rintro e w1 ⟨rfl, hb1⟩)
      go_returns
      exact ⟨rfl, hb1⟩
end Go.Proofs.YtkiefbldkidobaaDoor
