/- SourceNone, walked. -/
import Derived.Test.YtgffeihfcmbobaaSrcShown
import Derived.Test.YtgffeihfcmbobaaEvO
namespace Go.Proofs.Ytgffeihfcmbobaa
open Go.RowKit
attribute [local go_sem] Ext.cell Ext.frozen

theorem inZ_hi {n : Int} (h : InZ n) : n ≤ 9223372036854775807 := (bounds_i64 h).2
/-- Own rows of events: an event more. -/
theorem ev_flat {A B : Nat → Prop} {w : World} : ∀ (y : Ev) (c : List Value), EvE.cs A w y c → EvE.cs B w y c := fun _ _ h => h
theorem none_may {l : List Ev} {init : List Int} {loc t : Int} (h1 : ∀ y ∈ l, y.vl ≤ t) (h2 : ∀ v ∈ init, v ≤ t) : mayE (l ++ [⟨0, 1, loc, t + 1, false, false, false⟩]) init ⟨0, 1, loc, t + 1, false, false, false⟩ = [] := by
  refine mayE_nobody (fun y hy hk => ?_) (fun v hv => ?_)
  · rcases List.mem_append.1 hy with hy | hy
    · have := h1 y hy
      simp only
      omega
    · rw [List.mem_singleton] at hy
      subst hy
      simp at hk
  · have := h2 v hv
    simp only
    omega

set_option maxRecDepth 20000 in
set_option maxHeartbeats 16000000 in
theorem SourceNone_true (q0_ q1_ : Option Addr) (c0_ c1_ : Nat) (xs0 : List Ev) (xs1 : List Int) (x2 : Int) (w : World) (hx0 : Sl EvE w (.slice q0_ xs0.length c0_) xs0) (hz0 : ∀ x ∈ xs0, InE x) (hx1 : Sl IntE w (.slice q1_ xs1.length c1_) xs1) (hz1 : ∀ x ∈ xs1, InZ x) (hl1 : xs1.length ≤ 9223372036854775807) :
    Calls Try.prog 6 #[.slice q0_ xs0.length c0_, .slice q1_ xs1.length c1_, .int .i64 x2] w fun e w' => e = .returned (.bool true) ∧ Below w.heap.size w w' := by
  have HS : Hid (Calls _ _ _ _ _) := shown11_any w
  by_cases h23 : 23 < xs0.length
  · have d23 : decide ((23 : Int) < (xs0.length : Int)) = true := decide_eq_true (by omega)
    have e23 : decide (23 < xs0.length) = true := decide_eq_true h23
    go_enter Try.func6, Try.ntmps6
    go_wp2_with (go_at_call 9; refine HS.out.mono ?_; rintro e w1 ⟨rfl, hb1⟩)
    go_ret
    exact ⟨rfl, hb1⟩
  · have d23 : decide ((23 : Int) < (xs0.length : Int)) = false := decide_eq_false (by omega)
    have e23 : decide (23 < xs0.length) = false := decide_eq_false h23
    have hn : xs0.length ≤ 23 := by omega
    have HZ0 : Hid _ := hz0
    have HZ1 : Hid _ := hz1
    clear hz0 hz1 h23
    obtain ⟨i0, zz0, j1, j2, j3, j4, j5⟩ := cl_get (show ((Try.prog.info? 49).map fun i => (i.zero.map (·.cells.size), i.size, i.bytes)) = some (some 7, 7, 40) by kernel_rfl)
    have J1 : Hid _ := j1
    have J2 : Hid _ := j2
    have J3 : Hid _ := j3
    have J4 : Hid _ := j4
    have J5 : Hid _ := j5
    clear j1 j2 j3 j4 j5
    have hi0 := ints_at hx1
    go_enter Try.func6, Try.ntmps6
    go_wp2_with (go_at_call 9; refine HS.out.mono ?_; rintro e w1 ⟨rfl, hb1⟩)
    go_loopw [8, 9] (fun m i wr => ∃ (k : Nat) (t : Int), k ≤ xs0.length ∧ i = .int .i64 k ∧ m = .int .i64 t ∧ 0 ≤ t ∧ t ≤ 9223372036854775807 ∧ Hid (∀ y ∈ xs0.take k, y.vl ≤ t) ∧ Below w1.heap.size w1 wr) (fun _ i _ => xs0.length - (Go.RowKit.intOf i).toNat)
    case atStart => exact ⟨0, 0, Nat.zero_le _, rfl, rfl, by decide, by decide, (show ∀ y ∈ xs0.take 0, y.vl ≤ 0 from fun y hy => by simp at hy), Below.refl _ _⟩
    case round =>
      obtain ⟨k, t, hk, rfl, rfl, ht0, ht1, HT, hbr⟩ := hrel
      have Br := Below.thru hb1 hbr (Nat.le_refl _)
      by_cases hlt : k < xs0.length
      · have hlt' : (k : Int) < (xs0.length : Int) := by omega
        obtain ⟨eb, eo, rfl, g0, g1, g2, g3, g4, g5, g6⟩ := (ev_at (hx0.keep Br)).2 k hlt
        have hyz := inZ_hi (HZ0.out _ (List.getElem_mem hlt)).2.2.2
        have htk : xs0.take (k + 1) = xs0.take k ++ [xs0[k]] := List.take_succ_eq_append_getElem hlt
        generalize xs0[k] = y at *
        have lg := cell_lt g0
        obtain ⟨t', ht'⟩ : ∃ t', (if y.vl > t then y.vl else t) = t' := ⟨_, rfl⟩
        have hrm : ∀ w, (Builtin.max_ #[2, 2] 2 #[.int .i64 t, .int .i64 y.vl]).run Try.prog w = .ok (.int .i64 t') w := fun w => by rw [run_max_int2, ht']
        have hge : t ≤ t' ∧ y.vl ≤ t' ∧ t' ≤ 9223372036854775807 := by
          rw [← ht']
          split <;> omega
        have HG : Hid _ := hge
        have HTK : Hid _ := htk
        clear ht' hge htk
        go_wp2
        go_roundw
        case rel => exact ⟨k + 1, t', by omega, by go_num, rfl, by have := HG.out; omega, HG.out.2.2, (show ∀ z ∈ xs0.take (k + 1), z.vl ≤ t' from fun z hz => by
          rw [HTK.out] at hz
          rcases List.mem_append.1 hz with hz | hz
          · exact Int.le_trans (HT.out z hz) HG.out.1
          · rw [List.mem_singleton] at hz; subst hz; exact HG.out.2.1), hbr⟩
        case measure => simp [Go.RowKit.intOf]; omega
      · have hlt' : ¬ (k : Int) < (xs0.length : Int) := by omega
        have HT1 : Hid (∀ y ∈ xs0, y.vl ≤ t) := (show ∀ y ∈ xs0, y.vl ≤ t from fun y hy => HT.out y (by rw [List.take_of_length_le (by omega)]; exact hy))
        clear HT
        go_wp2
        obtain ⟨w2, rfl⟩ : ∃ x : World, x = wr := ⟨_, rfl⟩
        go_loopw [8, 10] (fun m i wr => ∃ (j : Nat) (s : Int), j ≤ xs1.length ∧ i = .int .i64 j ∧ m = .int .i64 s ∧ t ≤ s ∧ s ≤ 9223372036854775807 ∧ Hid (∀ y ∈ xs1.take j, y ≤ s) ∧ Below w2.heap.size w2 wr) (fun _ i _ => xs1.length - (Go.RowKit.intOf i).toNat)
        case atStart => exact ⟨0, t, Nat.zero_le _, rfl, rfl, Int.le_refl _, ht1, (show ∀ y ∈ xs1.take 0, y ≤ t from fun y hy => by simp at hy), Below.refl _ _⟩
        case round =>
          obtain ⟨j, s, hj, rfl, rfl, hs0, hs1, HT2, hbr2⟩ := hrel
          have Br2 := Below.thru Br hbr2 (Nat.le_refl _)
          by_cases hjl : j < xs1.length
          · have hwj : wrap64 ((j : Int) + 1) = ((j + 1 : Nat) : Int) := by unfold wrap64; omega
            have hjl' : (j : Int) < (xs1.length : Int) := by omega
            obtain ⟨ib, io, rfl, g0⟩ := (ints_at (hx1.keep Br2)).2 j hjl
            have hyz := inZ_hi (HZ1.out _ (List.getElem_mem hjl))
            have htk : xs1.take (j + 1) = xs1.take j ++ [xs1[j]] := List.take_succ_eq_append_getElem hjl
            generalize xs1[j] = y at *
            have lg := cell_lt g0
            obtain ⟨t', ht'⟩ : ∃ t', (if y > s then y else s) = t' := ⟨_, rfl⟩
            have hrm : ∀ w, (Builtin.max_ #[2, 2] 2 #[.int .i64 s, .int .i64 y]).run Try.prog w = .ok (.int .i64 t') w := fun w => by rw [run_max_int2, ht']
            have hge : s ≤ t' ∧ y ≤ t' ∧ t' ≤ 9223372036854775807 := by
              rw [← ht']
              split <;> omega
            have HG : Hid _ := hge
            have HTK : Hid _ := htk
            clear ht' hge htk
            go_wp2
            go_roundw
            case rel => exact ⟨j + 1, t', by omega, by go_num, rfl, Int.le_trans hs0 HG.out.1, HG.out.2.2, (show ∀ z ∈ xs1.take (j + 1), z ≤ t' from fun z hz => by
              rw [HTK.out] at hz
              rcases List.mem_append.1 hz with hz | hz
              · exact Int.le_trans (HT2.out z hz) HG.out.1
              · rw [List.mem_singleton] at hz; subst hz; exact HG.out.2.1), hbr2⟩
            case measure => simp [Go.RowKit.intOf]; omega
          · have hjl' : ¬ (j : Int) < (xs1.length : Int) := by omega
            have HA : Hid (∀ y ∈ xs0, y.vl ≤ s) := (show ∀ y ∈ xs0, y.vl ≤ s from fun y hy => Int.le_trans (HT1.out y hy) hs0)
            have HB : Hid (∀ y ∈ xs1, y ≤ s) := (show ∀ y ∈ xs1, y ≤ s from fun y hy => HT2.out y (by rw [List.take_of_length_le (by omega)]; exact hy))
            clear HT1 HT2
            by_cases htop : s = 9223372036854775807
            · have dt : (s == 9223372036854775807) = true := by simp [htop]
              clear htop
              go_wp2
              go_ret
              exact ⟨rfl, Br2⟩
            · have dt : (s == 9223372036854775807) = false := by simp [htop]
              have hwr : wrap64 (s + 1) = s + 1 := by unfold wrap64; omega
              obtain ⟨x, hx⟩ : ∃ x : Ev, x = ⟨0, 1, x2, s + 1, false, false, false⟩ := ⟨_, rfl⟩
              have hm1 : mayZ (xs0 ++ [x]) xs1 (xs0.length : Int) = [] := by
                rw [mayZ_at (x := x) (by simp), hx]
                rw [if_pos (by rfl)]
                exact none_may HA.out HB.out
              have hm2 : srcZ (xs0 ++ [x]) xs1 = [] := srcZ_none (k := xs0.length) (x := x) (by simp) (by
                unfold choE
                rw [hx, if_pos (by rfl)]
                exact none_may HA.out HB.out)
              have hm3 : mayZ (xs0 ++ [x]) xs1 ((xs0.length : Int) + 1) = [] := mayZ_none (.inr (by simp))
              have HM1 : Hid _ := fun q c W (hE : Sl EvE W (.slice q (xs0 ++ [x]).length c) (xs0 ++ [x])) (hI : Sl IntE W (.slice q1_ xs1.length c1_) xs1) => May_any (.slice q (xs0 ++ [x]).length c) nilR q q1_ c c1_ (xs0 ++ [x]) xs1 (xs0.length : Int) W rfl hE hI (by rw [List.length_append]; simp; omega)
              have HM3 : Hid _ := fun q c W (hE : Sl EvE W (.slice q (xs0 ++ [x]).length c) (xs0 ++ [x])) (hI : Sl IntE W (.slice q1_ xs1.length c1_) xs1) => May_any (.slice q (xs0 ++ [x]).length c) nilR q q1_ c c1_ (xs0 ++ [x]) xs1 ((xs0.length : Int) + 1) W rfl hE hI (by rw [List.length_append]; simp; omega)
              have HA1 : Hid _ := fun q c W (hE : Sl EvE W (.slice q (xs0 ++ [x]).length c) (xs0 ++ [x])) (hI : Sl IntE W (.slice q1_ xs1.length c1_) xs1) => All_any (.slice q (xs0 ++ [x]).length c) nilR q q1_ c c1_ (xs0 ++ [x]) xs1 W rfl hE hI (by rw [List.length_append]; simp; omega)
              rw [hm1] at HM1
              rw [hm2] at HA1
              rw [hm3] at HM3
              have hle : (xs0 ++ [x]).length = xs0.length + 1 := by simp
              rw [hle] at HM1 HA1 HM3
              have HX : Hid _ := hx
              clear htop hm1 hm2 hm3 hx HA HB hle
              have e1 := below_new wr (.cells #[] 49)
              have ke : Blk (wr.alloc (.cells #[] 49)) wr.heap.size #[] 49 := Blk.new
              have E1 := Below.thru Br2 e1 (Nat.le_refl _)
              have hx1e := hx0.keep E1
              have F1 := trivial
              go_wp2_with (first
                | (at_builtin; clear F1; refine wpList_app (R := EvE) (A := F0) (B := fun _ => True) (xs := []) (ys := xs0) (by rfl) (.tmp 45) (.tmp 46) 22 49 i0 zz0 40 (by rfl) Try.underlying22 J1.out J2.out J4.out J5.out J3.out wr.heap.size (.slice (some ⟨wr.heap.size, 0, none⟩) 0 0) (.slice q0_ xs0.length c0_) (by rfl) (by rfl) (own_new (Nat.le_refl _) ke) hx1e (fun _ _ _ h => h) (by simp only [List.length_nil]; omega) (by decide) (by simp) ?_; intro p4 c4 w4 hO4 hg4 _; simp only [List.nil_append] at hO4 ⊢; have B4 : Below wr.heap.size wr w4 := e1.grown hg4 (by simp) (fun k hk => by simp [Value.ownBlock] at hk; omega); have e5 := below_new w4 (.cells #[.int .i64 0, .int .i64 1, .int .i64 x2, .int .i64 (s + 1), .bool false, .bool false, .bool false] 49); have k5 : Blk (w4.alloc (.cells #[.int .i64 0, .int .i64 1, .int .i64 x2, .int .i64 (s + 1), .bool false, .bool false, .bool false] 49)) w4.heap.size #[.int .i64 0, .int .i64 1, .int .i64 x2, .int .i64 (s + 1), .bool false, .bool false, .bool false] 49 := Blk.new; have hO5 := hO4.keep e5; have B5 := Below.thru B4 e5 (Nat.le_refl _); have F2 := trivial)
                | (at_builtin; clear F2; refine wpList_push (R := EvE) (xs := xs0) (x := x) (by rfl) (.tmp 47) (.tmp 52) 22 49 i0 zz0 40 (by rfl) Try.underlying22 J1.out J2.out J4.out J5.out J3.out wr.heap.size (.slice p4 xs0.length c4) w4.heap.size (by rfl) (by rfl) hO5 x.cells (fun _ _ => rfl) (fun _ _ _ _ _ h => h) (fun j u hj => (k5.cell j).trans (by rw [HX.out] at hj; simpa [Ev.cells] using hj)) (by omega) (by decide) B5.size ?_; intro p6 c6 w6 hO6 hg6 _; have B6 : Below wr.heap.size wr w6 := B5.grown hg6 B5.size (fun k hk => (hO5.lt k hk).1); have D6 := Below.thru Br2 B6 (Nat.le_refl _); have hE6 := hO6.sl.any; have F3 := trivial)
                | (go_at_call 10; clear F3; refine (made11_any p6 (xs0.length + 1) c6 w6).mono ?_; rintro e w7 ⟨rfl, hb7⟩; have D7 := Below.thru D6 hb7 (Nat.le_refl _); have F4 := trivial)
                | (clear F4; refine wpList_toldX (w := w7) (T := 30) (by kernel_rfl) (by rfl) (.tmp 11) (.tmp 54) (by rfl) #[.slice p6 (xs0.length + 1) c6, nilR 1, nilR 2, nilR 3, nilR 4, nilR 5, nilR 6] (by rfl) (by simp [Value.oneCell', nilR]) (by rfl) (by rfl) ?_; intro w8 k8 b8; simp only [Act.put]; have D8 := Below.thru D7 b8 (Nat.le_refl _); have b68 := Below.thru hb7 b8 (Nat.le_refl _); obtain ⟨y0, y1, y2, y3, y4, y5, y6⟩ := ex_cells k8; have ly := k8.lt; have hE8 := hE6.keep b68; have F5 := trivial)
                | (go_at_call 13; clear F5; refine (HM1.out p6 c6 w8 hE8 (hx1.keep D8)).mono ?_; rintro e w9 ⟨v9, rfl, hV9, hb9⟩; obtain ⟨p9, c9, rfl⟩ := hV9.len; have D9 := Below.thru D8 hb9 (Nat.le_refl _); obtain ⟨t0, t1, t2, t3, t4, t5, t6⟩ := ex_cells (k8.keep hb9); have lt := (k8.keep hb9).lt; have hE9 := hE8.keep hb9; have F6 := trivial)
                | (go_at_call 16; clear F6; refine (HA1.out p6 c6 w9 hE9 (hx1.keep D9)).mono ?_; rintro e wa ⟨va, rfl, hVa, hba⟩; obtain ⟨pa, ca, rfl⟩ := hVa.len; have Da := Below.thru D9 hba (Nat.le_refl _); obtain ⟨s0, s1, s2, s3, s4, s5, s6⟩ := ex_cells ((k8.keep hb9).keep hba); have ls := ((k8.keep hb9).keep hba).lt; have hEa := hE9.keep hba; have F7 := trivial)
                | (go_at_call 13; clear F7; refine (HM3.out p6 c6 wa hEa (hx1.keep Da)).mono ?_; rintro e wb ⟨vb, rfl, hVb, hbb⟩; obtain ⟨pb, cb, rfl⟩ := hVb.len; have Db := Below.thru Da hbb (Nat.le_refl _); have F8 := trivial))
              go_ret
              exact ⟨rfl, Db⟩
end Go.Proofs.Ytgffeihfcmbobaa
