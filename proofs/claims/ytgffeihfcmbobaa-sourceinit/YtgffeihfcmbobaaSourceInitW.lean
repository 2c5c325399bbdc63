/- SourceInit, walked. -/
import Derived.Test.YtgffeihfcmbobaaSrcShown
import Derived.Test.YtgffeihfcmbobaaEvO
namespace Go.Proofs.Ytgffeihfcmbobaa
open Go.RowKit
attribute [local go_sem] Ext.cell Ext.frozen

/-- A number of a row of one's own is turned. -/
theorem own_setI {w : World} {base : Nat} {e : TypeId} {p : Option Addr} {n c : Nat} {xs : List Int} (h : Own F0 IntE w base e (.slice p n c) xs) {k : Nat} (hk : k < xs.length) :
    ∃ g, p = some ⟨g, 0, none⟩ ∧ base ≤ g ∧ g < w.heap.size ∧ w.frozen? ⟨g, k, none⟩ = false ∧ (∃ u, w.cell? ⟨g, k, none⟩ = some u) ∧ ∀ z : Int, Sl IntE (w.setCell ⟨g, k, none⟩ (.int .i64 z)) (.slice p n c) (xs.set k z) := by
  have hs := h.sl
  obtain ⟨hn, hat⟩ := ints_at hs
  obtain ⟨cc, h1, h2, h3⟩ := h
  rcases h1.2 with ⟨hv, h0⟩ | ⟨g, cap, cur, hv, hb, hg, hnc, _⟩
  · omega
  · simp only [Value.slice.injEq] at hv
    obtain ⟨rfl, rfl, rfl⟩ := hv
    have hB : Blk w g cur e := hg
    have hc : ∀ i (hi : i < xs.length), cur[i]? = some (.int .i64 xs[i]) := fun i hi => by
      obtain ⟨b, o, e1, h4⟩ := hat i hi
      simp only [Option.some.injEq, Addr.mk.injEq, and_true] at e1
      obtain ⟨rfl, rfl⟩ := e1
      rw [← hB.cell i]
      simpa using h4
    refine ⟨g, rfl, hb, hB.lt, hB.frozen k, ⟨_, (hB.cell k).trans (hc k hk)⟩, fun z => ?_⟩
    have hB2 := hB.set (i := k) (.int .i64 z)
    refine ⟨_, c, by rw [List.length_set], ⟨(fun e => by cases e), by rw [List.length_set]; exact hnc⟩, fun _ => ⟨g, 0, rfl, trivial, fun i hi => ⟨[.int .i64 (xs.set k z)[i]], rfl, fun j u hu => ?_⟩⟩⟩
    have hi' : i < xs.length := by simpa using hi
    match j, hu with
    | j + 1, hu => simp at hu
    | 0, hu =>
      simp only [List.getElem?_cons_zero, Option.some.injEq] at hu
      subst hu
      have e3 : (0 + i * IntE.size + 0) = i := by simp [IntE]
      rw [e3, hB2.cell i, Array.getElem?_setIfInBounds]
      by_cases e : k = i
      · subst e
        rw [if_pos rfl, if_pos (by
          rcases Nat.lt_or_ge k cur.size with h | h
          · exact h
          · have := hc k hk; rw [Array.getElem?_eq_none h] at this; cases this)]
        simp
      · rw [if_neg e, hc i hi', List.getElem_set_ne e]
theorem init_other {init : List Int} {k : Nat} {v lc vl : Int} (_ : k < init.length) (h1 : lc ≠ (k : Int)) (h2 : lc ≠ (init.length : Int)) : initB init lc vl = initB ((init ++ [v]).set k v) lc vl := by
  unfold initB
  by_cases h0 : 0 ≤ lc
  · rw [decide_eq_true h0, Bool.true_and, Bool.true_and]
    by_cases h3 : lc < (init.length : Int)
    · have e1 : ((init ++ [v]).set k v).getD lc.toNat 0 = init.getD lc.toNat 0 := by
        rw [List.getD_eq_getElem?_getD, List.getD_eq_getElem?_getD, List.getElem?_set_ne (by omega), List.getElem?_append_left (by omega)]
      rw [e1, decide_eq_true h3, decide_eq_true (by simp; omega)]
    · rw [decide_eq_false h3, decide_eq_false (by simp; omega)]
      simp
  · rw [decide_eq_false h0]
    rfl

set_option maxRecDepth 20000 in
set_option maxHeartbeats 16000000 in
theorem SourceInit_true (q0_ q1_ : Option Addr) (c0_ c1_ : Nat) (xs0 : List Ev) (xs1 : List Int) (n2 : Nat) (x3 : Int) (w : World) (hx0 : Sl EvE w (.slice q0_ xs0.length c0_) xs0) (hx1 : Sl IntE w (.slice q1_ xs1.length c1_) xs1) (hn2 : n2 < 256) :
    Calls Try.prog 8 #[.slice q0_ xs0.length c0_, .slice q1_ xs1.length c1_, .int .u8 (n2 : Int), .int .i64 x3] w fun e w' => e = .returned (.bool true) ∧ Below w.heap.size w w' := by
  have HS : Hid (Calls _ _ _ _ _) := shown11_any w
  by_cases h24 : 24 < xs0.length
  · have d24 : decide ((24 : Int) < (xs0.length : Int)) = true := decide_eq_true (by omega)
    have e24 : decide (24 < xs0.length) = true := decide_eq_true h24
    go_enter Try.func8, Try.ntmps8
    go_wp2_with (go_at_call 9; refine HS.out.mono ?_; rintro e w1 ⟨rfl, hb1⟩)
    go_ret
    exact ⟨rfl, hb1⟩
  · have d24 : decide ((24 : Int) < (xs0.length : Int)) = false := decide_eq_false (by omega)
    have e24 : decide (24 < xs0.length) = false := decide_eq_false h24
    have hn : xs0.length ≤ 24 := by omega
    by_cases h0 : xs1.length = 0
    · have d0 : ((xs1.length : Int) == 0) = true := len_eq0 h0
      clear h0 h24
      go_enter Try.func8, Try.ntmps8
      go_wp2_with (go_at_call 9; refine HS.out.mono ?_; rintro e w1 ⟨rfl, hb1⟩)
      go_ret
      exact ⟨rfl, hb1⟩
    · have d0 : ((xs1.length : Int) == 0) = false := len_ne0 h0
      have hpos : 0 < xs1.length := by omega
      have hne0 : ¬ xs1 = [] := fun e => h0 (by rw [e]; rfl)
      clear h0 h24
      by_cases h50 : 50 < xs1.length
      · have d50 : decide ((50 : Int) < (xs1.length : Int)) = true := decide_eq_true (by omega)
        have e50 : decide (50 < xs1.length) = true := decide_eq_true h50
        go_enter Try.func8, Try.ntmps8
        go_wp2_with (go_at_call 9; refine HS.out.mono ?_; rintro e w1 ⟨rfl, hb1⟩)
        go_ret
        exact ⟨rfl, hb1⟩
      · have d50 : decide ((50 : Int) < (xs1.length : Int)) = false := decide_eq_false (by omega)
        have e50 : decide (50 < xs1.length) = false := decide_eq_false h50
        have hn1 : xs1.length ≤ 50 := by omega
        obtain ⟨k, hk0⟩ : ∃ k, n2 % xs1.length = k := ⟨_, rfl⟩
        have hk : k < xs1.length := by rw [← hk0]; exact Nat.mod_lt _ hpos
        have hmod : (n2 : Int) % (xs1.length : Int) = (k : Int) := by rw [← hk0]; simp
        have htm : (n2 : Int).tmod (xs1.length : Int) = (k : Int) := by rw [Int.tmod_eq_emod_of_nonneg (by omega)]; exact hmod
        clear hk0 h50
        go_enter Try.func8, Try.ntmps8
        go_wp2_with (go_at_call 9; refine HS.out.mono ?_; rintro e w1 ⟨rfl, hb1⟩)
        obtain ⟨i0, z0, j1, j2, j3, j4, j5⟩ := cl_get (show ((Try.prog.info? 2).map fun i => (i.zero.map (·.cells.size), i.size, i.bytes)) = some (some 1, 1, 8) by kernel_rfl)
        have J1 : Hid _ := j1
        have J2 : Hid _ := j2
        have J3 : Hid _ := j3
        have J4 : Hid _ := j4
        have J5 : Hid _ := j5
        clear j1 j2 j3 j4 j5 hmod htm
        go_loopw [11] (fun i wr => ∃ j : Nat, j ≤ xs0.length ∧ i = .int .i64 j ∧ Hid (∀ y ∈ xs0.take j, y.kd = 1 → y.lc ≠ (k : Int) ∧ y.lc ≠ (xs1.length : Int)) ∧ Below w1.heap.size w1 wr) (fun i _ => xs0.length - (Go.RowKit.intOf i).toNat)
        case atStart => exact ⟨0, Nat.zero_le _, rfl, (show ∀ y ∈ xs0.take 0, y.kd = 1 → y.lc ≠ (k : Int) ∧ y.lc ≠ (xs1.length : Int) from fun y hy => by simp at hy), Below.refl _ _⟩
        case round =>
          obtain ⟨j, hj, rfl, HT, hbr⟩ := hrel
          have Br := Below.thru hb1 hbr (Nat.le_refl _)
          by_cases hlt : j < xs0.length
          · have hlt' : (j : Int) < (xs0.length : Int) := by omega
            obtain ⟨eb, eo, rfl, g0, g1, g2, g3, g4, g5, g6⟩ := (ev_at (hx0.keep Br)).2 j hlt
            have htk : xs0.take (j + 1) = xs0.take j ++ [xs0[j]] := List.take_succ_eq_append_getElem hlt
            generalize xs0[j] = y at *
            have lg := cell_lt g0
            have HNX : Hid ((y.kd = 1 → y.lc ≠ (k : Int) ∧ y.lc ≠ (xs1.length : Int)) → ∀ z ∈ xs0.take (j + 1), z.kd = 1 → z.lc ≠ (k : Int) ∧ z.lc ≠ (xs1.length : Int)) := (show (y.kd = 1 → y.lc ≠ (k : Int) ∧ y.lc ≠ (xs1.length : Int)) → ∀ z ∈ xs0.take (j + 1), z.kd = 1 → z.lc ≠ (k : Int) ∧ z.lc ≠ (xs1.length : Int) from fun hy z hz => by
              rw [htk] at hz
              rcases List.mem_append.1 hz with hz | hz
              · exact HT.out z hz
              · rw [List.mem_singleton] at hz; subst hz; exact hy)
            clear htk
            by_cases hk1 : y.kd = 1
            · have b1 : (y.kd == 1) = true := by simp [hk1]
              by_cases hk2 : y.lc = (k : Int)
              · have b2 : (y.lc == (k : Int)) = true := by simp [hk2]
                clear hk1 hk2 HNX
                go_wp2
                go_ret
                exact ⟨rfl, Br⟩
              · have b2 : (y.lc == (k : Int)) = false := by simp [hk2]
                by_cases hk3 : y.lc = (xs1.length : Int)
                · have b3 : (y.lc == (xs1.length : Int)) = true := by simp [hk3]
                  clear hk1 hk2 hk3 HNX
                  go_wp2
                  go_ret
                  exact ⟨rfl, Br⟩
                · have b3 : (y.lc == (xs1.length : Int)) = false := by simp [hk3]
                  have H2 : Hid _ := HNX.out fun _ => ⟨hk2, hk3⟩
                  clear hk1 hk2 hk3 HNX
                  go_wp2
                  go_roundw
                  case rel => exact ⟨j + 1, by omega, by go_num, H2, hbr⟩
                  case measure => simp [Go.RowKit.intOf]; omega
            · have b1 : (y.kd == 1) = false := by simp [hk1]
              have H2 : Hid _ := HNX.out fun h => absurd h hk1
              clear hk1 HNX
              go_wp2
              go_roundw
              case rel => exact ⟨j + 1, by omega, by go_num, H2, hbr⟩
              case measure => simp [Go.RowKit.intOf]; omega
          · have hlt' : ¬ (j : Int) < (xs0.length : Int) := by omega
            have hsame : srcZ xs0 xs1 = srcZ xs0 ((xs1 ++ [x3]).set k x3) := srcZ_init fun y hy hk1 => by
              obtain ⟨h1, h2⟩ := HT.out y (by rw [List.take_of_length_le (by omega)]; exact hy) hk1
              exact init_other hk h1 h2
            clear HT
            have hsl : (srcZ xs0 xs1).length ≤ 1000000 := Nat.le_trans (srcZ_le xs0 xs1) (by decide)
            have hsm : ∀ x ∈ srcZ xs0 xs1, x.length ≤ 1000000 := fun x hx => by rw [(srcZ_mem hx).1]; omega
            have HMD : Hid _ := fun W => made11_any q0_ xs0.length c0_ W
            have HA1 : Hid _ := fun W (hB : Below w.heap.size w W) => All_any (.slice q0_ xs0.length c0_) nilR q0_ q1_ c0_ c1_ xs0 xs1 W rfl (hx0.keep hB) (hx1.keep hB) (by omega)
            have HA2 : Hid _ := fun q c W (hB : Below w.heap.size w W) (hI : Sl IntE W (.slice q ((xs1 ++ [x3]).set k x3).length c) ((xs1 ++ [x3]).set k x3)) => All_any (.slice q0_ xs0.length c0_) nilR q0_ q c0_ c xs0 ((xs1 ++ [x3]).set k x3) W rfl (hx0.keep hB) hI (by omega)
            rw [← hsame] at HA2
            have hle : ((xs1 ++ [x3]).set k x3).length = xs1.length + 1 := by simp
            rw [hle] at HA2
            generalize srcZ xs0 xs1 = SZ at *
            have HSM : Hid _ := hsm
            clear hsame hsm hle
            have e1 := below_new wr (.cells #[] 2)
            have ke : Blk (wr.alloc (.cells #[] 2)) wr.heap.size #[] 2 := Blk.new
            have E1 := Below.thru Br e1 (Nat.le_refl _)
            have hx1e := hx1.keep E1
            have F1 := trivial
            go_wp2_with (first
              | (at_builtin; clear F1; refine wpList_app (R := IntE) (A := F0) (B := fun _ => True) (xs := []) (ys := xs1) (by rfl) (.tmp 65) (.tmp 66) 23 2 i0 z0 8 (by rfl) Try.underlying23 J1.out J2.out J4.out J5.out J3.out wr.heap.size (.slice (some ⟨wr.heap.size, 0, none⟩) 0 0) (.slice q1_ xs1.length c1_) (by rfl) (by rfl) (own_new (Nat.le_refl _) ke) hx1e (fun _ _ _ h => h) (by simp only [List.length_nil]; omega) (by decide) (by simp) ?_; intro p4 c4 w4 hO4 hg4 _; simp only [List.nil_append] at hO4 ⊢; have B4 : Below wr.heap.size wr w4 := e1.grown hg4 (by simp) (fun k hk => by simp [Value.ownBlock] at hk; omega); have e5 := below_new w4 (.cells #[.int .i64 x3] 2); have k5 : Blk (w4.alloc (.cells #[.int .i64 x3] 2)) w4.heap.size #[.int .i64 x3] 2 := Blk.new; have hO5 := hO4.keep e5; have B5 := Below.thru B4 e5 (Nat.le_refl _); have F2 := trivial)
              | (at_builtin; clear F2; refine wpList_push (R := IntE) (xs := xs1) (x := x3) (by rfl) (.tmp 67) (.tmp 69) 23 2 i0 z0 8 (by rfl) Try.underlying23 J1.out J2.out J4.out J5.out J3.out wr.heap.size (.slice p4 xs1.length c4) w4.heap.size (by rfl) (by rfl) hO5 [.int .i64 x3] (fun _ _ => rfl) (fun _ _ _ _ _ h => h) (fun j u hj => (k5.cell j).trans (by simpa using hj)) (by omega) (by decide) B5.size ?_; intro p6 c6 w6 hO6 hg6 _; have B6 : Below wr.heap.size wr w6 := B5.grown hg6 B5.size (fun k hk => (hO5.lt k hk).1); obtain ⟨g, rfl, hgb, hgl, hgf, ⟨gu, hgc⟩, hset⟩ := own_setI hO6 (k := k) (by simp; omega); have hset3 := hset x3; have B7 : Below wr.heap.size wr (w6.setCell ⟨g, k, none⟩ (.int .i64 x3)) := B6.trans ((setCell_only w6 g k (.int .i64 x3)).below B6.size (fun b hb => by rw [hb]; exact hgb)); have D7 := Below.thru Br B7 (Nat.le_refl _); have F3 := trivial)
              | (go_at_call 10; clear F3; refine (HMD.out _).mono ?_; rintro e w8 ⟨rfl, hb8⟩; have D8 := Below.thru D7 hb8 (Nat.le_refl _); have hset8 := hset3.keep hb8; have F4 := trivial)
              | (go_at_call 16; clear F4; refine (HA1.out w8 D8).mono ?_; rintro e w9 ⟨u9, rfl, V9, hb9⟩; obtain ⟨p9, c9, rfl⟩ := V9.len; have D9 := Below.thru D8 hb9 (Nat.le_refl _); have hset9 := hset8.keep hb9; have F5 := trivial)
              | (go_at_call 10; clear F5; refine (HMD.out w9).mono ?_; rintro e wa ⟨rfl, hba⟩; have Da := Below.thru D9 hba (Nat.le_refl _); have hseta := hset9.keep hba; have F6 := trivial)
              | (go_at_call 16; clear F6; refine (HA2.out _ _ wa Da hseta).mono ?_; rintro e wb ⟨ub, rfl, Vb, hbb⟩; obtain ⟨pb, cb, rfl⟩ := Vb.len; have Db := Below.thru Da hbb (Nat.le_refl _); have CI := Lists_int p9 pb c9 cb SZ SZ wb ((V9.keep hba).keep hbb) Vb hsl HSM.out; rw [decide_eq_true rfl] at CI; have F7 := trivial)
              | (go_at_call 15; clear F7; refine CI.mono ?_; clear CI; rintro e wc ⟨rfl, hbc⟩; have Dc := Below.thru Db hbc (Nat.le_refl _); have F8 := trivial))
            go_ret
            exact ⟨rfl, Dc⟩
end Go.Proofs.Ytgffeihfcmbobaa
