/- Contracts of cupolaref02.Count and Check. -/
import Derived.Test.YtcalinfdckklfaaGreatDoorPk21
import Derived.Test.YtcalinfdckklfaaGreatDoorPk27
import Derived.Test.YtcalinfdckklfaaGreatDoorPk8
namespace Go.Proofs.YtcalinfdckklfaaGreatDoor
open Go.RowKit

set_option maxHeartbeats 1000000 in
theorem refCount_any (pi pt : Option Addr) (ni ci ct : Nat) (ts : List (List Ins)) (w : World) (ht : Sl ThrE w (.slice pt ts.length ct) ts) (hM : sizeTs ts ≤ 1000000) (hL : ts.length ≤ 1000000) :
    Calls Tryz.prog 72 #[.agg #[.slice pi ni ci, .slice pt ts.length ct]] w fun e w' => e = .returned (.tuple #[.int .i64 (cntTs ts 0 0).1, .int .i64 (cntTs ts 0 0).2]) ∧ Below w.heap.size w w' := by
  generalize hG : cntTs ts 0 0 = G
  have HG : Hid _ := hG
  clear hG
  have hb1 := ((Below.refl w.heap.size w).alloc (Nat.le_refl _) (.cells #[.slice pi ni ci, .slice pt ts.length ct] 63))
  go_enter Tryz.func72, Tryz.ntmps72
  go_wp2
  go_loopw [4, 5, 6] (fun r s i wr => ∃ (k : Nat) (a b : Int), k ≤ ts.length ∧ i = .int .i64 k ∧ r = .int .i64 a ∧ s = .int .i64 b ∧ 0 ≤ a ∧ 0 ≤ b ∧ a + b + sizeTs (ts.drop k) ≤ 1000000 ∧ cntTs (ts.drop k) a b = G ∧ Below (w.heap.size + 1) (w.alloc (.cells #[.slice pi ni ci, .slice pt ts.length ct] 63)) wr) (fun _ _ i _ => ts.length - (intOf i).toNat)
  case atStart => exact ⟨0, 0, 0, Nat.zero_le _, rfl, rfl, rfl, Int.le_refl _, Int.le_refl _, by simp; omega, HG.out, Below.refl _ _⟩
  case round =>
    obtain ⟨k, a, b, hk, rfl, rfl, rfl, ha, hb, hs, hg, hB⟩ := hrel
    have HGk : Hid _ := hg
    clear hg
    have hB' : Below w.heap.size w wr := hb1.trans (hB.mono (by omega))
    obtain ⟨hc, hf⟩ := bcell (W := w.alloc (.cells #[.slice pi ni ci, .slice pt ts.length ct] 63)) (by simpa using hB)
    have hz : w.heap.size < wr.heap.size := by have := hB.size; simp at this; omega
    by_cases hlt : k < ts.length
    · obtain ⟨tb, to, rfl, u, hu, hU⟩ := (thr_at (ht.keep hB')).2 k hlt
      generalize hl : ts[k] = l at hU
      have HL : Hid (ts.drop k = l :: ts.drop (k + 1)) := by rw [← hl]; exact drop_at hlt
      clear hl
      have hs' : a + b + l.length + sizeTs (ts.drop (k + 1)) ≤ 1000000 := by have := hs; rw [HL.out] at this; simp only [sizeTs] at this; omega
      clear hs
      obtain ⟨pu, cu, rfl⟩ := hU.len
      go_wp2
      go_loopw [4, 5, 7] (fun r s i w2 => ∃ (j : Nat) (c d : Int), j ≤ l.length ∧ i = .int .i64 j ∧ r = .int .i64 c ∧ s = .int .i64 d ∧ 0 ≤ c ∧ 0 ≤ d ∧ c + d + (l.length - j) + sizeTs (ts.drop (k + 1)) ≤ 1000000 ∧ cntT (l.drop j) c d = cntT l a b ∧ Below wr.heap.size wr w2) (fun _ _ i _ => l.length - (intOf i).toNat)
      case atStart => exact ⟨0, a, b, Nat.zero_le _, rfl, rfl, rfl, ha, hb, by simpa using hs', rfl, by go_grown⟩
      case round =>
        obtain ⟨w2, rfl⟩ : ∃ x : World, x = wr := ⟨_, rfl⟩
        obtain ⟨j, c, d, hj, rfl, rfl, rfl, hc0, hd, hs2, hg2, hB2⟩ := hrel
        have HG2 : Hid _ := hg2
        clear hg2
        obtain ⟨hc2, hf2⟩ := bcell hB2
        have hu2 := cell_keep hu hB2
        by_cases hjl : j < l.length
        · obtain ⟨ub, uo, rfl, e0, e1, e2, e3, e4, e5⟩ := (ins_at (hU.keep hB2)).2 j hjl
          generalize hx : l[j] = x at e0 e1 e2 e3 e4 e5
          have HX : Hid (l.drop j = x :: l.drop (j + 1)) := by rw [← hx]; exact drop_at hjl
          clear hx
          rcases kind_cases x.op with hk0 | hk0 | hk0
          all_goals
            have HG3 : Hid _ := HG2.out
            rw [HX.out, cntT, hk0] at HG3
            simp only [if_true, if_false, show ((0 : Int) = 1) = False by simp, show ((0 : Int) = 2) = False by simp, show ((2 : Int) = 1) = False by simp] at HG3
            have HK : Hid _ := hk0
            clear hk0 HG2
            go_wp2_with (go_at_call 74; refine (refKind_any _ _ _ _ _ _ _).mono ?_; rintro e w3 ⟨rfl, hb3⟩; rw [HK.out])
            go_roundw
            case rel => exact ⟨j + 1, _, _, by omega, by go_num, rfl, rfl, by omega, by omega, by omega, HG3, hB2.trans (hb3.mono hB2.size)⟩
            case measure => simp [intOf]; omega
        · go_wp2
          go_roundw
          case rel => exact ⟨k + 1, c, d, by omega, by go_num, rfl, rfl, hc0, hd, by omega, by
            have h := HGk.out
            rw [HL.out, cntTs] at h
            have h2 := HG2.out
            rw [List.drop_of_length_le (by omega), cntT] at h2
            rw [← h2] at h
            exact h, hB.trans (hB2.mono (by omega))⟩
          case measure => simp [intOf]; omega
    · have h := HGk.out
      rw [List.drop_of_length_le (by omega), cntTs] at h
      have HF : Hid _ := h
      clear h
      go_wp2
      go_ret2
      exact ⟨by rw [← HF.out]; rfl, hB'⟩
attribute [local go_sem] Ext.cell Ext.frozen

theorem init_no {xs : List Int} (h : xs.all numI = false) : initB xs = false := by unfold initB; rw [h]; simp
theorem init_yes {xs : List Int} (h1 : 1 ≤ xs.length) (h2 : xs.length ≤ 3) (h : xs.all numI = true) : initB xs = true := by unfold initB; rw [h, decide_eq_true ⟨h1, h2⟩]; rfl
theorem init_len {xs : List Int} (h : ¬ (1 ≤ xs.length ∧ xs.length ≤ 3)) : initB xs = false := by unfold initB; rw [decide_eq_false h]; rfl
theorem badAt_yes' {locs : Int} {l : List Ins} {k : Nat} {x : Ins} (hk : k < l.length) (h : l.drop k = x :: l.drop (k + 1)) (hm : mayB x.op x.d x.a x.b x.l x.i ((l.length : Int) - k - 1) locs = true) :
    badAt locs (l.drop k) k = badAt locs (l.drop (k + 1)) (k + 1) := badAt_yes hk h (by rw [show (l.length : Int) - 1 - k = (l.length : Int) - k - 1 by omega]; exact hm)
theorem badAt_no' {locs : Int} {l : List Ins} {k : Nat} {x : Ins} (hk : k < l.length) (h : l.drop k = x :: l.drop (k + 1)) (hm : mayB x.op x.d x.a x.b x.l x.i ((l.length : Int) - k - 1) locs = false) :
    badAt locs (l.drop k) k = some k := badAt_no hk h (by rw [show (l.length : Int) - 1 - k = (l.length : Int) - k - 1 by omega]; exact hm)
theorem thrE_arg {locs : Int} {l : List Ins} (h : ¬ (1 ≤ l.length ∧ l.length ≤ 8)) : thrE locs l = (0, 1) := by unfold thrE; rw [if_pos (by omega)]
theorem thrE_bad {locs : Int} {l : List Ins} {k : Nat} (h1 : 1 ≤ l.length) (h2 : l.length ≤ 8) (h : badAt locs l 0 = some k) : thrE locs l = ((k : Int), 2) := by unfold thrE; rw [if_neg (by omega), h]
theorem thrE_ok {locs : Int} {l : List Ins} (h1 : 1 ≤ l.length) (h2 : l.length ≤ 8) (h : badAt locs l 0 = none) : thrE locs l = (0, 0) := by unfold thrE; rw [if_neg (by omega), h]

set_option maxHeartbeats 1000000 in
theorem refCheck_arg (pi pt : Option Addr) (ci ct : Nat) (xs : List Int) (ts : List (List Ins)) (w : World) (h : ¬ (1 ≤ xs.length ∧ xs.length ≤ 3 ∧ 1 ≤ ts.length ∧ ts.length ≤ 3)) :
    Calls Tryz.prog 70 #[.agg #[.slice pi xs.length ci, .slice pt ts.length ct]] w fun e w' => e = .returned (.tuple #[.int .i64 0, .int .i64 0, .int .i64 1]) ∧ Below w.heap.size w w' := by
  by_cases h1 : xs.length = 0
  · have h1' : ((xs.length : Int) == 0) = true := len_eq0 (by omega)
    go_enter Tryz.func70, Tryz.ntmps70
    go_wp2
    go_ret3
    exact ⟨rfl, by go_grown⟩
  · have h1' : ((xs.length : Int) == 0) = false := len_ne0 (by omega)
    by_cases h2 : xs.length ≤ 3
    · have h2' : ((xs.length : Int)) ≤ 3 := by omega
      by_cases h3 : ts.length = 0
      · have h3' : ((ts.length : Int) == 0) = true := len_eq0 (by omega)
        go_enter Tryz.func70, Tryz.ntmps70
        go_wp2
        go_ret3
        exact ⟨rfl, by go_grown⟩
      · have h3' : ((ts.length : Int) == 0) = false := len_ne0 (by omega)
        have h4' : ¬ ((ts.length : Int)) ≤ 3 := by omega
        go_enter Tryz.func70, Tryz.ntmps70
        go_wp2
        go_ret3
        exact ⟨rfl, by go_grown⟩
    · have h2' : ¬ ((xs.length : Int)) ≤ 3 := by omega
      go_enter Tryz.func70, Tryz.ntmps70
      go_wp2
      go_ret3
      exact ⟨rfl, by go_grown⟩

theorem refMay_is (op d a b l i behind locs : Int) (r : Bool) (w : World) (h : mayB op d a b l i behind locs = r) :
    Calls Tryz.prog 86 #[.agg #[.int .i64 op, .int .i64 d, .int .i64 a, .int .i64 b, .int .i64 l, .int .i64 i], .int .i64 behind, .int .i64 locs] w fun e w' => e = .returned (.bool r) ∧ Below w.heap.size w w' := by
  subst h; exact refMay_any op d a b l i behind locs w

theorem size_thr {ts : List (List Ins)} {n : Nat} (h : ∀ l ∈ ts, l.length ≤ n) : sizeTs ts ≤ n * ts.length := by
  induction ts with
  | nil => simp [sizeTs]
  | cons t ts ih =>
    rw [sizeTs, List.length_cons, Nat.mul_add]
    have h1 := h t (by simp)
    have h2 := ih fun l hl => h l (by simp [hl])
    omega

set_option maxHeartbeats 4000000 in
theorem refCheck_in (pi pt : Option Addr) (ci ct : Nat) (xs : List Int) (ts : List (List Ins)) (w : World) (hi : Sl IntE w (.slice pi xs.length ci) xs) (ht : Sl ThrE w (.slice pt ts.length ct) ts)
    (h1 : 1 ≤ xs.length) (h2 : xs.length ≤ 3) (h3 : 1 ≤ ts.length) (h4 : ts.length ≤ 3) :
    Calls Tryz.prog 70 #[.agg #[.slice pi xs.length ci, .slice pt ts.length ct]] w fun e w' => e = .returned (.tuple #[.int .i64 (checkZ xs ts).1, .int .i64 (checkZ xs ts).2.1, .int .i64 (checkZ xs ts).2.2]) ∧ Below w.heap.size w w' := by
  have h1' : ((xs.length : Int) == 0) = false := len_ne0 (by omega)
  have h2' : ((xs.length : Int)) ≤ 3 := by omega
  have h3' : ((ts.length : Int) == 0) = false := len_ne0 (by omega)
  have h4' : ((ts.length : Int)) ≤ 3 := by omega
  have hb1 := ((Below.refl w.heap.size w).alloc (Nat.le_refl _) (.cells #[.slice pi xs.length ci, .slice pt ts.length ct] 63))
  have hi1 := hi.keep hb1
  go_enter Tryz.func70, Tryz.ntmps70
  go_wp2
  go_loopw [5] (fun i wr => ∃ k : Nat, k ≤ xs.length ∧ i = .int .i64 k ∧ (xs.drop k).all numI = xs.all numI ∧ wr = w.alloc (.cells #[.slice pi xs.length ci, .slice pt ts.length ct] 63)) (fun i _ => xs.length - (intOf i).toNat)
  case atStart => exact ⟨0, Nat.zero_le _, rfl, rfl, rfl⟩
  case round =>
    obtain ⟨k, hk, rfl, hF, rfl⟩ := hrel
    have HF : Hid _ := hF
    clear hF
    by_cases hlt : k < xs.length
    · obtain ⟨tb, to, rfl, hu⟩ := (ints_at hi1).2 k hlt
      generalize hl : xs[k] = n at hu
      have HL : Hid (xs.drop k = n :: xs.drop (k + 1)) := by rw [← hl]; exact drop_at hlt
      clear hl
      by_cases n1 : -1000 ≤ n
      · by_cases n2 : n ≤ 1000
        · have HN : Hid (numI n = true) := by unfold Hid numI; simp; omega
          go_wp2
          go_roundw
          case rel => exact ⟨k + 1, by omega, by go_num, by have := HF.out; rw [HL.out, num_all_step HN.out] at this; exact this, trivial⟩
          case measure => simp [intOf]; omega
        · have HN : Hid (numI n = false) := by unfold Hid numI; simp; omega
          go_wp2
          go_ret3
          exact ⟨by rw [check_arg (.inl (init_no (by rw [← HF.out, HL.out]; exact num_all_no HN.out)))]; rfl, by go_grown⟩
      · have HN : Hid (numI n = false) := by unfold Hid numI; simp; omega
        go_wp2
        go_ret3
        exact ⟨by rw [check_arg (.inl (init_no (by rw [← HF.out, HL.out]; exact num_all_no HN.out)))]; rfl, by go_grown⟩
    · have H0 : Hid (initB xs = true) := init_yes h1 h2 (by have := HF.out; rw [List.drop_of_length_le (by omega)] at this; rw [← this]; rfl)
      go_wp2
      go_loopw [6] (fun i wr => ∃ k : Nat, k ≤ ts.length ∧ i = .int .i64 k ∧ thrsE xs.length (ts.drop k) k = thrsE xs.length ts 0 ∧ Below (w.heap.size + 1) (w.alloc (.cells #[.slice pi xs.length ci, .slice pt ts.length ct] 63)) wr) (fun i _ => ts.length - (intOf i).toNat)
      case atStart => exact ⟨0, Nat.zero_le _, rfl, rfl, Below.refl _ _⟩
      case round =>
        obtain ⟨w1, rfl⟩ : ∃ x : World, x = wr := ⟨_, rfl⟩
        obtain ⟨k2, hk2, rfl, hF2, hB⟩ := hrel
        have HF2 : Hid _ := hF2
        clear hF2
        have hB' : Below w.heap.size w w1 := hb1.trans (hB.mono (by omega))
        obtain ⟨hc, hf⟩ := bcell (W := w.alloc (.cells #[.slice pi xs.length ci, .slice pt ts.length ct] 63)) (by simpa using hB)
        have hz : w.heap.size < w1.heap.size := by have := hB.size; simp at this; omega
        by_cases hlt2 : k2 < ts.length
        · obtain ⟨tb, to, rfl, u, hu, hU⟩ := (thr_at (ht.keep hB')).2 k2 hlt2
          generalize hl : ts[k2] = l at hU
          have HL : Hid (ts.drop k2 = l :: ts.drop (k2 + 1)) := by rw [← hl]; exact drop_at hlt2
          clear hl
          obtain ⟨pu, cu, rfl⟩ := hU.len
          by_cases l1 : l.length = 0
          · have l1' : ((l.length : Int) == 0) = true := len_eq0 (by omega)
            have E : Hid (thrE xs.length l = (0, 1)) := thrE_arg (by omega)
            go_wp2
            go_ret3
            exact ⟨by rw [check_thr H0.out h3 h4 (HF2.out.symm.trans (thrsE_no HL.out (by rw [E.out]; decide))), E.out]; rfl, hB'⟩
          · have l1' : ((l.length : Int) == 0) = false := len_ne0 (by omega)
            by_cases l2 : l.length ≤ 8
            · have l2' : ((l.length : Int)) ≤ 8 := by omega
              go_wp2
              go_loopw [8] (fun i w2 => ∃ j : Nat, j ≤ l.length ∧ i = .int .i64 j ∧ badAt xs.length (l.drop j) j = badAt xs.length l 0 ∧ Below w1.heap.size w1 w2) (fun i _ => l.length - (intOf i).toNat)
              case atStart => exact ⟨0, Nat.zero_le _, rfl, rfl, by go_grown⟩
              case round =>
                obtain ⟨w2, rfl⟩ : ∃ x : World, x = wr := ⟨_, rfl⟩
                obtain ⟨j, hj, rfl, hF3, hB2⟩ := hrel
                have HF3 : Hid _ := hF3
                clear hF3
                obtain ⟨hc2, hf2⟩ := bcell hB2
                have hu2 := cell_keep hu hB2
                by_cases hjl : j < l.length
                · obtain ⟨ub, uo, rfl, e0, e1, e2, e3, e4, e5⟩ := (ins_at (hU.keep hB2)).2 j hjl
                  generalize hx : l[j] = x at e0 e1 e2 e3 e4 e5
                  have HX : Hid (l.drop j = x :: l.drop (j + 1)) := by rw [← hx]; exact drop_at hjl
                  clear hx
                  have hz2 : w.heap.size < w2.heap.size := Nat.lt_of_lt_of_le hz hB2.size
                  have hz3 : tb < w2.heap.size := cell_lt hu2
                  have hz4 : ub < w2.heap.size := cell_lt e0
                  cases hm : mayB x.op x.d x.a x.b x.l x.i ((l.length : Int) - j - 1) xs.length
                  · have HM : Hid _ := hm
                    clear hm
                    go_wp2
                    have hne : ∀ w, Nonempty (Ext w) := ext_some
                    refine wp_region_ext (by kernel_rfl) (by kernel_rfl) ?_
                    repeat (go_big_quiet_step ((go_at_call 86; exact calls_ext (refMay_is _ _ _ _ _ _ _ _ _ _ HM.out))))
                    refine wpQuiet_nil ?_
                    rintro _ ⟨q, rfl⟩
                    have E : Hid (thrE xs.length l = ((j : Int), 2)) := thrE_bad (by omega) l2 (HF3.out.symm.trans (badAt_no' hjl HX.out HM.out))
                    go_wp2
                    go_ret3
                    exact ⟨by rw [check_thr H0.out h3 h4 (HF2.out.symm.trans (thrsE_no HL.out (by rw [E.out]; simp))), E.out]; rfl, hB'.trans ((hB2.trans (q.ok.mono hB2.size)).mono hB'.size)⟩
                  · have HM : Hid _ := hm
                    clear hm
                    go_wp2
                    have hne : ∀ w, Nonempty (Ext w) := ext_some
                    refine wp_region_ext (by kernel_rfl) (by kernel_rfl) ?_
                    repeat (go_big_quiet_step ((go_at_call 86; exact calls_ext (refMay_is _ _ _ _ _ _ _ _ _ _ HM.out))))
                    refine wpQuiet_nil ?_
                    rintro _ ⟨q, rfl⟩
                    go_wp2
                    go_roundw
                    case rel => exact ⟨j + 1, by omega, by go_num, by rw [← badAt_yes' hjl HX.out HM.out]; exact HF3.out, hB2.trans (q.ok.mono hB2.size)⟩
                    case measure => simp [intOf]; omega
                · have E : Hid (thrE xs.length l = (0, 0)) := thrE_ok (by omega) l2 (by have := HF3.out; rw [List.drop_of_length_le (by omega), badAt] at this; exact this.symm)
                  go_wp2
                  go_roundw
                  case rel => exact ⟨k2 + 1, by omega, by go_num, by rw [← thrsE_yes HL.out (by rw [E.out])]; exact HF2.out, hB.trans (hB2.mono (by omega))⟩
                  case measure => simp [intOf]; omega
            · have l2' : ¬ ((l.length : Int)) ≤ 8 := by omega
              have E : Hid (thrE xs.length l = (0, 1)) := thrE_arg (by omega)
              go_wp2
              go_ret3
              exact ⟨by rw [check_thr H0.out h3 h4 (HF2.out.symm.trans (thrsE_no HL.out (by rw [E.out]; decide))), E.out]; rfl, hB'⟩
        · have hN : thrsE xs.length ts 0 = none := by have := HF2.out; rw [List.drop_of_length_le (by omega), thrsE] at this; exact this.symm
          have hM : sizeTs ts ≤ 1000000 := by
            have := size_thr (fun l hl => (thrs_ok hN l hl).2.1)
            omega
          have HN : Hid _ := hN
          clear hN
          obtain ⟨g1, g2, g3⟩ := cntTs_bd ts 0 0
          generalize hr : (cntTs ts 0 0).1 = r at g1 g3
          generalize hs : (cntTs ts 0 0).2 = s at g2 g3
          have HR : Hid _ := hr
          have HS : Hid _ := hs
          clear hr hs
          by_cases c1 : 4 < r
          · go_wp2_with (go_at_call 72; refine (refCount_any _ _ _ _ _ _ _ (ht.keep hB') hM (by omega)).mono ?_; rintro e w3 ⟨rfl, hb3⟩; rw [HR.out, HS.out])
            go_ret3
            exact ⟨by rw [check_full H0.out h3 h4 HN.out (by rw [HR.out, HS.out]; exact .inr c1)]; rfl, hB'.trans (hb3.mono hB'.size)⟩
          · by_cases c2 : 6 < r + s
            · go_wp2_with (go_at_call 72; refine (refCount_any _ _ _ _ _ _ _ (ht.keep hB') hM (by omega)).mono ?_; rintro e w3 ⟨rfl, hb3⟩; rw [HR.out, HS.out])
              go_ret3
              exact ⟨by rw [check_full H0.out h3 h4 HN.out (by rw [HR.out, HS.out]; exact .inl c2)]; rfl, hB'.trans (hb3.mono hB'.size)⟩
            · go_wp2_with (go_at_call 72; refine (refCount_any _ _ _ _ _ _ _ (ht.keep hB') hM (by omega)).mono ?_; rintro e w3 ⟨rfl, hb3⟩; rw [HR.out, HS.out])
              go_ret3
              exact ⟨by rw [check_ok H0.out h3 h4 HN.out (by rw [HR.out, HS.out]; omega)]; rfl, hB'.trans (hb3.mono hB'.size)⟩

theorem refCheckF_any (pi pt : Option Addr) (ci ct : Nat) (xs : List Int) (ts : List (List Ins)) (w : World) (hi : Sl IntE w (.slice pi xs.length ci) xs) (ht : Sl ThrE w (.slice pt ts.length ct) ts) :
    Calls Tryz.prog 70 #[.agg #[.slice pi xs.length ci, .slice pt ts.length ct]] w fun e w' => e = .returned (.tuple #[.int .i64 (checkZ xs ts).1, .int .i64 (checkZ xs ts).2.1, .int .i64 (checkZ xs ts).2.2]) ∧ Below w.heap.size w w' := by
  by_cases h : 1 ≤ xs.length ∧ xs.length ≤ 3 ∧ 1 ≤ ts.length ∧ ts.length ≤ 3
  · exact refCheck_in pi pt ci ct xs ts w hi ht h.1 h.2.1 h.2.2.1 h.2.2.2
  · have e : checkZ xs ts = (0, 0, 1) := check_arg (by
      by_cases hx : 1 ≤ xs.length ∧ xs.length ≤ 3
      · right; omega
      · left; exact init_len hx)
    rw [e]
    exact refCheck_arg pi pt ci ct xs ts w h
theorem refCheck_any (pi pt : Option Addr) (ci ct : Nat) (xs : List Int) (ts : List (List Ins)) (w : World) (hi : Sl IntE w (.slice pi xs.length ci) xs) (ht : Sl ThrE w (.slice pt ts.length ct) ts) (_ : sizeTs ts ≤ 1000000) :
    Calls Tryz.prog 70 #[.agg #[.slice pi xs.length ci, .slice pt ts.length ct]] w fun e w' => e = .returned (.tuple #[.int .i64 (checkZ xs ts).1, .int .i64 (checkZ xs ts).2.1, .int .i64 (checkZ xs ts).2.2]) ∧ Below w.heap.size w w' := refCheckF_any pi pt ci ct xs ts w hi ht
end Go.Proofs.YtcalinfdckklfaaGreatDoor
