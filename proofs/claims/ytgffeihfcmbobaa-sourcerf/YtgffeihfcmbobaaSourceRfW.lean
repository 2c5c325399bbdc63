/- SourceRf, walked. -/
import Derived.Test.YtgffeihfcmbobaaSrcShown
import Derived.Test.YtgffeihfcmbobaaSrcRf
import Derived.Test.YtgffeihfcmbobaaSrcM3
import Derived.BigQuiet
namespace Go.Proofs.Ytgffeihfcmbobaa
open Go.RowKit
attribute [local go_sem] Ext.cell Ext.frozen

theorem pairs_rf {n : Nat} (f : Nat → Nat → Bool) (hn : n ≤ 32) : pairsL (mkR n f) = pairsF n f := by
  unfold pairsL
  rw [mkR_sz _ hn]
  unfold pairsF
  have h : ∀ i ∈ List.range n, ((List.range n).filter (hasR (mkR n f) i)).map (fun k => (i, k)) = ((List.range n).filter (f i)).map fun k => (i, k) := fun i hi => by
    rw [List.filter_congr fun k hk => hasR_mk f hn (List.mem_range.1 hi) (List.mem_range.1 hk)]
  rw [List.flatMap_def, List.flatMap_def, List.map_congr_left h]
/-- How many read, of each event. -/
def cntA (ps : List (Nat × Nat)) : Array Value := ((List.range 24).map fun k => Value.int .i64 ((cntN ps k : Nat) : Int)).toArray
theorem cntA_at {ps : List (Nat × Nat)} {k : Nat} (h : k < 24) : (cntA ps)[k]? = some (.int .i64 ((cntN ps k : Nat) : Int)) := by unfold cntA; simp [h]
theorem cntA_set {ps : List (Nat × Nat)} {j : Nat} {p : Nat × Nat} (h : ps[j]? = some p) : (cntA (ps.take j)).setIfInBounds p.2 (.int .i64 (((cntN (ps.take j) p.2 : Nat) : Int) + 1)) = cntA (ps.take (j + 1)) := by
  have hs : ∀ q, (cntA q).size = 24 := fun q => by simp [cntA]
  apply Array.ext_getElem?
  intro i
  rw [Array.getElem?_setIfInBounds, hs]
  by_cases hi : i < 24
  · rw [cntA_at hi, cntA_at hi, cntN_next h]
    by_cases e : p.2 = i
    · subst e
      rw [if_pos rfl, if_pos hi, if_pos (by simp)]
      simp
    · rw [if_neg e, if_neg (by simpa using e)]
      simp
  · have h1 : (cntA (ps.take j))[i]? = none := Array.getElem?_eq_none (by rw [hs]; omega)
    have h2 : (cntA (ps.take (j + 1)))[i]? = none := Array.getElem?_eq_none (by rw [hs]; omega)
    rw [h1, h2]
    split
    · rename_i e
      rw [if_neg (by omega)]
    · rfl
theorem lt_of_some {α : Type} {l : List α} {k : Nat} {x : α} (h : l[k]? = some x) : k < l.length := by
  rcases Nat.lt_or_ge k l.length with h1 | h1
  · exact h1
  · rw [List.getElem?_eq_none h1] at h; cases h
theorem cntA_nil : cntA [] = #[.int .i64 0, .int .i64 0, .int .i64 0, .int .i64 0, .int .i64 0, .int .i64 0, .int .i64 0, .int .i64 0, .int .i64 0, .int .i64 0, .int .i64 0, .int .i64 0, .int .i64 0, .int .i64 0, .int .i64 0, .int .i64 0, .int .i64 0, .int .i64 0, .int .i64 0, .int .i64 0, .int .i64 0, .int .i64 0, .int .i64 0, .int .i64 0] := rfl

set_option maxRecDepth 20000 in
set_option maxHeartbeats 16000000 in
theorem SourceRf_true (q0_ q1_ : Option Addr) (c0_ c1_ : Nat) (xs0 : List Ev) (xs1 : List Int) (n2 : Nat) (w : World) (hx0 : Sl EvE w (.slice q0_ xs0.length c0_) xs0) (hx1 : Sl IntE w (.slice q1_ xs1.length c1_) xs1) (hn2 : n2 < 65536) :
    Calls Try.prog 5 #[.slice q0_ xs0.length c0_, .slice q1_ xs1.length c1_, .int .u16 (n2 : Int)] w fun e w' => e = .returned (.bool true) ∧ Below w.heap.size w w' := by
  have HS : Hid (Calls _ _ _ _ _) := shown11_any w
  by_cases h24 : 24 < xs0.length
  · have d24 : decide ((24 : Int) < (xs0.length : Int)) = true := decide_eq_true (by omega)
    have e24 : decide (24 < xs0.length) = true := decide_eq_true h24
    go_enter Try.func5, Try.ntmps5
    go_wp2_with (go_at_call 9; refine HS.out.mono ?_; rintro e w1 ⟨rfl, hb1⟩)
    go_ret
    exact ⟨rfl, hb1⟩
  · have d24 : decide ((24 : Int) < (xs0.length : Int)) = false := decide_eq_false (by omega)
    have e24 : decide (24 < xs0.length) = false := decide_eq_false h24
    have hn : xs0.length ≤ 24 := by omega
    have HMD : Hid _ := fun W => made11_any q0_ xs0.length c0_ W
    have HA1 : Hid _ := fun W (hB : Below w.heap.size w W) => All_any (.slice q0_ xs0.length c0_) nilR q0_ q1_ c0_ c1_ xs0 xs1 W rfl (hx0.keep hB) (hx1.keep hB) (by omega)
    have HR1 : Hid _ := fun q c fr W (hF : Sl IntE W (.slice q fr.length c) fr) (hl : fr.length ≤ 1000000) => Rf_any (.slice q0_ xs0.length c0_) nilR q0_ q c0_ c xs0 fr W rfl hF (by omega) hl
    have HLW : Hid (∀ x ∈ srcZ xs0 xs1, x.length = xs0.length) := (show ∀ x ∈ srcZ xs0 xs1, x.length = xs0.length from fun x hx => (srcZ_mem hx).1)
    have HRD : Hid (∀ x ∈ srcZ xs0 xs1, ∀ p ∈ pairsF xs0.length (rfF xs0.length x), ∃ a b, xs0[p.1]? = some a ∧ xs0[p.2]? = some b ∧ a.kd = 2 ∧ b.kd = 1 ∧ a.lc = b.lc ∧ a.vl = b.vl) := (show ∀ x ∈ srcZ xs0 xs1, ∀ p ∈ pairsF xs0.length (rfF xs0.length x), ∃ a b, xs0[p.1]? = some a ∧ xs0[p.2]? = some b ∧ a.kd = 2 ∧ b.kd = 1 ∧ a.lc = b.lc ∧ a.vl = b.vl from fun x hx p hp => rf_read hx (pairs_mem.1 hp).2.2)
    have HCW : Hid (∀ x ∈ srcZ xs0 xs1, ∀ (k : Nat) (y : Ev), xs0[k]? = some y → ∃ z, x[k]? = some z ∧ cntN (pairsF xs0.length (rfF xs0.length x)) k ≤ 1 ∧ (y.kd = 1 → (cntN (pairsF xs0.length (rfF xs0.length x)) k = 0 ↔ z = -1)) ∧ (y.kd ≠ 1 → cntN (pairsF xs0.length (rfF xs0.length x)) k = 0 ∧ z = -2)) := (show ∀ x ∈ srcZ xs0 xs1, ∀ (k : Nat) (y : Ev), xs0[k]? = some y → ∃ z, x[k]? = some z ∧ cntN (pairsF xs0.length (rfF xs0.length x)) k ≤ 1 ∧ (y.kd = 1 → (cntN (pairsF xs0.length (rfF xs0.length x)) k = 0 ↔ z = -1)) ∧ (y.kd ≠ 1 → cntN (pairsF xs0.length (rfF xs0.length x)) k = 0 ∧ z = -2) from fun x hx k y hy => cnt_way hx hy)
    have hsl : (srcZ xs0 xs1).length ≤ 20000 := srcZ_le xs0 xs1
    obtain ⟨S, hSe⟩ : ∃ S, srcZ xs0 xs1 = S := ⟨_, rfl⟩
    rw [hSe] at HA1 HLW HRD HCW hsl
    clear hSe h24
    have hne : ∀ w, Nonempty (Ext w) := ext_some
    by_cases h0 : S.length = 0
    · have d0 : ((S.length : Int) == 0) = true := len_eq0 h0
      clear h0 HRD HCW HLW
      have F1 := trivial
      go_enter Try.func5, Try.ntmps5
      go_wp2_with (first
        | (go_at_call 9; clear F1; refine HS.out.mono ?_; rintro e w1 ⟨rfl, hb1⟩; have F2 := trivial)
        | (go_at_call 10; clear F2; refine (HMD.out w1).mono ?_; rintro e w2 ⟨rfl, hb2⟩; have B2 := Below.thru hb1 hb2 (Nat.le_refl _); have F3 := trivial)
        | (clear F3; refine wpList_toldX (w := w2) (T := 30) (by kernel_rfl) (by rfl) (.tmp 8) (.tmp 24) (by rfl) #[.slice q0_ xs0.length c0_, nilR 1, nilR 2, nilR 3, nilR 4, nilR 5, nilR 6] (by rfl) (by simp [Value.oneCell', nilR]) (by rfl) (by rfl) ?_; intro w3 k3 b3; simp only [Act.put]; have B3 := Below.thru B2 b3 (Nat.le_refl _); obtain ⟨y0, y1, y2, y3, y4, y5, y6⟩ := ex_cells k3; have ly := k3.lt; have F4 := trivial)
        | (go_at_call 16; clear F4; refine (HA1.out w3 B3).mono ?_; rintro e w4 ⟨u4, rfl, V4, hb4⟩; obtain ⟨p4, c4, rfl⟩ := V4.len; have B4 := Below.thru B3 hb4 (Nat.le_refl _); have F5 := trivial))
      go_ret
      exact ⟨rfl, B4⟩
    · have d0 : ((S.length : Int) == 0) = false := len_ne0 h0
      have hpos : 0 < S.length := by omega
      clear h0
      obtain ⟨k, hk0⟩ : ∃ k, n2 % S.length = k := ⟨_, rfl⟩
      have hk : k < S.length := by rw [← hk0]; exact Nat.mod_lt _ hpos
      have hmod : (n2 : Int) % (S.length : Int) = (k : Int) := by rw [← hk0]; simp
      have htm : (n2 : Int).tmod (S.length : Int) = (k : Int) := by rw [Int.tmod_eq_emod_of_nonneg (by omega)]; exact hmod
      clear hk0
      have hkI : (k : Int) < (S.length : Int) := by omega
      have hne0 : ¬ S = [] := fun e => by rw [e] at hpos; exact absurd hpos (by decide)
      have HLX : Hid _ := HLW.out _ (List.getElem_mem hk)
      have HRX : Hid _ := HRD.out _ (List.getElem_mem hk)
      have HCX : Hid _ := HCW.out _ (List.getElem_mem hk)
      clear HLW HRD HCW
      have F1 := trivial
      go_enter Try.func5, Try.ntmps5
      go_wp2_with (first
        | (go_at_call 9; clear F1; refine HS.out.mono ?_; rintro e w1 ⟨rfl, hb1⟩; have F2 := trivial)
        | (go_at_call 10; clear F2; refine (HMD.out w1).mono ?_; rintro e w2 ⟨rfl, hb2⟩; have B2 := Below.thru hb1 hb2 (Nat.le_refl _); have F3 := trivial)
        | (clear F3; refine wpList_toldX (w := w2) (T := 30) (by kernel_rfl) (by rfl) (.tmp 8) (.tmp 24) (by rfl) #[.slice q0_ xs0.length c0_, nilR 1, nilR 2, nilR 3, nilR 4, nilR 5, nilR 6] (by rfl) (by simp [Value.oneCell', nilR]) (by rfl) (by rfl) ?_; intro w3 k3 b3; simp only [Act.put]; have B3 := Below.thru B2 b3 (Nat.le_refl _); obtain ⟨y0, y1, y2, y3, y4, y5, y6⟩ := ex_cells k3; have ly := k3.lt; have F4 := trivial)
        | (go_at_call 16; clear F4; refine (HA1.out w3 B3).mono ?_; rintro e w4 ⟨u4, rfl, V4, hb4⟩; obtain ⟨p4, c4, rfl⟩ := V4.len; have B4 := Below.thru B3 hb4 (Nat.le_refl _); have k4 := k3.keep hb4; clear y0 y1 y2 y3 y4 y5 y6 ly k3; obtain ⟨y0, y1, y2, y3, y4, y5, y6⟩ := ex_cells k4; have ly := k4.lt; obtain ⟨bj, oj, rfl, vj, gj, hvj⟩ := (sl_at V4).2 k hk; have lj := cell_lt gj; obtain ⟨pj, cj, rfl⟩ := hvj.len; obtain ⟨X, hX⟩ : ∃ X, S[k] = X := ⟨_, rfl⟩; rw [hX] at hvj gj HLX HRX HCX; clear hX; have F5 := trivial)
        | (go_at_call 21; clear F5; have CR := HR1.out pj cj X w4 hvj.any (by rw [HLX.out]; omega); refine CR.mono ?_; clear CR; rintro e w5 ⟨p5, c5, rfl, hS5, hb5⟩; have F6 := trivial)
        | (go_at_call 23; clear F6; have CP := Pairs_l p5 c5 _ w5 hS5; rw [pairs_rf _ (show xs0.length ≤ 32 by omega)] at CP; refine CP.mono ?_; clear CP; rintro e w6 ⟨p6, c6, rfl, hP6, hb6⟩; have hb46 := Below.thru hb5 hb6 (Nat.le_refl _); have hvj4 := hvj.keep hb46; have B6 := Below.thru B4 hb46 (Nat.le_refl _); have F7 := trivial))
      clear y0 y1 y2 y3 y4 y5 y6 ly gj lj k4 hvj hb5 hb6 hb46 hS5 hmod htm F7
      obtain ⟨P, hP⟩ : ∃ P, pairsF xs0.length (rfF xs0.length X) = P := ⟨_, rfl⟩
      have hPl : (pairsF xs0.length (rfF xs0.length X)).length ≤ 1024 := pairsF_len _ (by omega)
      have HX4 : Hid _ := hvj4
      rw [hP] at hPl hP6 HRX HCX
      rw [hP]
      have b7 : Below w6.heap.size w6 (w6.alloc (.cells #[.int .i64 0, .int .i64 0, .int .i64 0, .int .i64 0, .int .i64 0, .int .i64 0, .int .i64 0, .int .i64 0, .int .i64 0, .int .i64 0, .int .i64 0, .int .i64 0, .int .i64 0, .int .i64 0, .int .i64 0, .int .i64 0, .int .i64 0, .int .i64 0, .int .i64 0, .int .i64 0, .int .i64 0, .int .i64 0, .int .i64 0, .int .i64 0] 54)) := below_new _ _
      have k7 : Blk (w6.alloc (.cells #[.int .i64 0, .int .i64 0, .int .i64 0, .int .i64 0, .int .i64 0, .int .i64 0, .int .i64 0, .int .i64 0, .int .i64 0, .int .i64 0, .int .i64 0, .int .i64 0, .int .i64 0, .int .i64 0, .int .i64 0, .int .i64 0, .int .i64 0, .int .i64 0, .int .i64 0, .int .i64 0, .int .i64 0, .int .i64 0, .int .i64 0, .int .i64 0] 54)) w6.heap.size (cntA (P.take 0)) 54 := by rw [List.take_zero, cntA_nil]; exact Blk.new
      have lo7 := Nat.le_refl w6.heap.size
      clear hP hvj4
      generalize (w6.alloc (.cells #[.int .i64 0, .int .i64 0, .int .i64 0, .int .i64 0, .int .i64 0, .int .i64 0, .int .i64 0, .int .i64 0, .int .i64 0, .int .i64 0, .int .i64 0, .int .i64 0, .int .i64 0, .int .i64 0, .int .i64 0, .int .i64 0, .int .i64 0, .int .i64 0, .int .i64 0, .int .i64 0, .int .i64 0, .int .i64 0, .int .i64 0, .int .i64 0] 54)) = w7 at *
      obtain ⟨mb, hmb⟩ : ∃ mb, w6.heap.size = mb := ⟨_, rfl⟩
      rw [hmb] at k7
      have hmb' : w6.heap.size ≤ mb := by omega
      rw [hmb]
      clear hmb lo7
      go_loopw [13] (fun i wr => ∃ j : Nat, j ≤ P.length ∧ i = .int .i64 j ∧ Blk wr mb (cntA (P.take j)) 54 ∧ Below w6.heap.size w6 wr) (fun i _ => P.length - (Go.RowKit.intOf i).toNat)
      case atStart => exact ⟨0, Nat.zero_le _, rfl, k7, b7⟩
      case round =>
        obtain ⟨j, hj, rfl, kM, hbr⟩ := hrel
        have Br := Below.thru B6 hbr (Nat.le_refl _)
        by_cases hjl : j < P.length
        · have hjl' : (j : Int) < (P.length : Int) := by omega
          obtain ⟨bp, op, rfl, f0, f1⟩ := (pair_at (hP6.keep hbr)).2 j hjl
          obtain ⟨x, y, hx, hy, hxk, hyk, hl, hv⟩ := HRX.out _ (List.getElem_mem hjl)
          have HST := cntA_set (List.getElem?_eq_getElem hjl)
          generalize P[j] = p at *
          obtain ⟨a, r⟩ := p
          dsimp only at hx hy f0 f1 HST
          have ha : a < xs0.length := lt_of_some hx
          have hr : r < xs0.length := lt_of_some hy
          obtain ⟨eb, eo, rfl, g0, g1, g2, g3, g4, g5, g6⟩ := (ev_at (hx0.keep Br)).2 a ha
          obtain ⟨mb2, mo, me, m0, m1, m2, m3, m4, m5, m6⟩ := (ev_at (hx0.keep Br)).2 r hr
          simp only [Option.some.injEq, Addr.mk.injEq, and_true] at me
          obtain ⟨rfl, rfl⟩ := me
          rw [List.getElem?_eq_getElem ha, Option.some.injEq] at hx
          rw [List.getElem?_eq_getElem hr, Option.some.injEq] at hy
          rw [hx] at g0 g1 g2 g3 g4 g5 g6
          rw [hy] at m0 m1 m2 m3 m4 m5 m6
          rw [hxk] at g1
          rw [hyk] at m1
          rw [← hl] at m2
          rw [← hv] at m3
          have lf := cell_lt f0
          have lg := cell_lt g0
          have ha' : (a : Int) < (xs0.length : Int) := by omega
          have hr' : (r : Int) < (xs0.length : Int) := by omega
          have hr24 : (r : Int) < 24 := by omega
          have hNl := cntN_le P j r
          have cm : wr.cell? ⟨mb, r, none⟩ = some (.int .i64 ((cntN (P.take j) r : Nat) : Int)) := by rw [Blk.cell kM, cntA_at (by omega)]
          have HSET : Hid _ := HST
          clear hx hy hxk hyk hl hv HST g0 g4 g5 g6 m0 m4 m5 m6
          go_wp2
          refine wp_region_ext (by kernel_rfl) (by kernel_rfl) ?_
          repeat (go_big_quiet_step (fail))
          refine wpQuiet_nil ?_
          rintro _ ⟨rr, rfl⟩
          have b8 := rr.ok
          generalize rr.wd = w8 at *
          have kM8 := kM.keep b8
          have cm8 := cell_keep cm b8
          have lm8 := kM8.lt
          have fz8 := kM8.frozen r
          generalize hN : cntN (P.take j) r = N at *
          have hw1 : wrap64 ((N : Int) + 1) = (N : Int) + 1 := by unfold wrap64; omega
          have HN : Hid _ := hN
          have hb68 := Below.thru hbr b8 (Nat.le_refl _)
          clear hN cm f0 f1 g1 g2 g3 m1 m2 m3 lf lg
          go_wp2
          go_roundw
          case rel =>
            refine ⟨j + 1, by omega, by go_num, ?_, hb68.setCell hmb' _⟩
            rw [← HSET.out]
            exact kM8.set (i := r) _
          case measure => simp [Go.RowKit.intOf]; omega
        · have hjl' : ¬ (j : Int) < (P.length : Int) := by omega
          have etk : P.take j = P := List.take_of_length_le (by omega)
          rw [etk] at kM
          have HX5 := SlA.keep HX4.out hbr
          have hXl : X.length ≤ 24 := by rw [HLX.out]; exact hn
          clear etk k7 b7 hP6 HRX HR1 HA1 HMD HX4
          obtain ⟨w8, rfl⟩ : ∃ x : World, x = wr := ⟨_, rfl⟩
          go_wp2
          go_loopw [16] (fun i wr => ∃ m : Nat, m ≤ xs0.length ∧ i = .int .i64 m ∧ Below w8.heap.size w8 wr) (fun i _ => xs0.length - (Go.RowKit.intOf i).toNat)
          case atStart => exact ⟨0, Nat.zero_le _, rfl, Below.refl _ _⟩
          case round =>
            obtain ⟨m, hm, rfl, hbr2⟩ := hrel
            have Br2 := Below.thru Br hbr2 (Nat.le_refl _)
            by_cases hml : m < xs0.length
            · have hml' : (m : Int) < (xs0.length : Int) := by omega
              obtain ⟨eb, eo, rfl, g0, g1, g2, g3, g4, g5, g6⟩ := (ev_at (hx0.keep Br2)).2 m hml
              obtain ⟨z, hz, hc1, hc2, hc3⟩ := HCX.out m _ (List.getElem?_eq_getElem hml)
              have hmX : m < X.length := by rw [HLX.out]; exact hml
              obtain ⟨fb, fo, rfl, f0⟩ := (ints_at (HX5.keep hbr2)).2 m hmX
              rw [List.getElem?_eq_getElem hmX, Option.some.injEq] at hz
              rw [hz] at f0
              generalize xs0[m] = y at *
              have lg := cell_lt g1
              have lf := cell_lt f0
              have hmX' : (m : Int) < (X.length : Int) := by omega
              have hm24 : (m : Int) < 24 := by omega
              have kM2 := kM.keep hbr2
              have lm2 := kM2.lt
              have cm : wr.cell? ⟨mb, m, none⟩ = some (.int .i64 ((cntN P m : Nat) : Int)) := by rw [Blk.cell kM2, cntA_at (by omega)]
              clear hz g0 g2 g3 g4 g5 g6 kM2
              generalize cntN P m = N at *
              by_cases hy : y.kd = 1
              · have hy1 : (y.kd == 1) = true := by simp [hy]
                have hc := hc2 hy
                rcases (show N = 0 ∨ N = 1 by omega) with rfl | rfl
                · obtain rfl : z = -1 := hc.1 rfl
                  clear hc hc1 hc2 hc3 hy
                  go_wp2
                  refine wp_region_ext (by kernel_rfl) (by kernel_rfl) ?_
                  repeat (go_big_quiet_step (fail))
                  refine wpQuiet_nil ?_
                  rintro _ ⟨rr, rfl⟩
                  have b9 := rr.ok
                  generalize rr.wd = w9 at *
                  go_wp2
                  go_roundw
                  case rel => exact ⟨m + 1, by omega, by go_num, Below.thru hbr2 b9 (Nat.le_refl _)⟩
                  case measure => simp [Go.RowKit.intOf]; omega
                · have hz1 : (z == -1) = false := by
                    rw [beq_eq_false_iff_ne]
                    intro e
                    exact absurd (hc.2 e) (by decide)
                  clear hc hc1 hc2 hc3 hy
                  go_wp2
                  refine wp_region_ext (by kernel_rfl) (by kernel_rfl) ?_
                  repeat (go_big_quiet_step (fail))
                  refine wpQuiet_nil ?_
                  rintro _ ⟨rr, rfl⟩
                  have b9 := rr.ok
                  generalize rr.wd = w9 at *
                  go_wp2
                  go_roundw
                  case rel => exact ⟨m + 1, by omega, by go_num, Below.thru hbr2 b9 (Nat.le_refl _)⟩
                  case measure => simp [Go.RowKit.intOf]; omega
              · have hy1 : (y.kd == 1) = false := by simp [hy]
                obtain ⟨hN0, hz2⟩ := hc3 hy
                subst hN0 hz2
                clear hc1 hc2 hc3 hy
                go_wp2
                refine wp_region_ext (by kernel_rfl) (by kernel_rfl) ?_
                repeat (go_big_quiet_step (fail))
                refine wpQuiet_nil ?_
                rintro _ ⟨rr, rfl⟩
                have b9 := rr.ok
                generalize rr.wd = w9 at *
                go_wp2
                go_roundw
                case rel => exact ⟨m + 1, by omega, by go_num, Below.thru hbr2 b9 (Nat.le_refl _)⟩
                case measure => simp [Go.RowKit.intOf]; omega
            · have hml' : ¬ (m : Int) < (xs0.length : Int) := by omega
              go_wp2
              go_ret
              exact ⟨rfl, Br2⟩
end Go.Proofs.Ytgffeihfcmbobaa
