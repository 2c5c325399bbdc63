/- Contracts of test.checkThread, test.Check, test.may. -/
import Derived.Test.YtcalinfdckklfaaGreatDoorPk21
import Derived.Test.YtcalinfdckklfaaGreatDoorPk8
namespace Go.Proofs.YtcalinfdckklfaaGreatDoor
open Go.RowKit

theorem badAt_yes {locs : Int} {l : List Ins} {k : Nat} {x : Ins} (hk : k < l.length) (h : l.drop k = x :: l.drop (k + 1)) (hm : mayB x.op x.d x.a x.b x.l x.i ((l.length : Int) - 1 - k) locs = true) :
    badAt locs (l.drop k) k = badAt locs (l.drop (k + 1)) (k + 1) := by
  rw [h, badAt, show mayI x (l.drop (k + 1)).length locs = true from by unfold mayI; rw [List.length_drop, show ((l.length - (k + 1) : Nat) : Int) = (l.length : Int) - 1 - k from by omega]; exact hm]; rfl
theorem badAt_no {locs : Int} {l : List Ins} {k : Nat} {x : Ins} (hk : k < l.length) (h : l.drop k = x :: l.drop (k + 1)) (hm : mayB x.op x.d x.a x.b x.l x.i ((l.length : Int) - 1 - k) locs = false) :
    badAt locs (l.drop k) k = some k := by
  rw [h, badAt, show mayI x (l.drop (k + 1)).length locs = false from by unfold mayI; rw [List.length_drop, show ((l.length - (k + 1) : Nat) : Int) = (l.length : Int) - 1 - k from by omega]; exact hm]; rfl

set_option maxHeartbeats 1000000 in
theorem checkThread_any (p : Option Addr) (c : Nat) (l : List Ins) (locs : Int) (w : World) (T : Tab w) (hl : Sl InsE w (.slice p l.length c) l) :
    Calls Tryz.prog 79 #[.slice p l.length c, .int .i64 locs] w fun e w' => e = .returned (.tuple #[.int .i64 (thrE locs l).1, .int .i64 (thrE locs l).2]) ∧ Below w.heap.size w w' := by
  by_cases h1 : 1 ≤ l.length
  · by_cases h2 : l.length ≤ 8
    · have E : Hid (thrE locs l = match badAt locs l 0 with | some k => ((k : Int), 2) | none => (0, 0)) := by unfold Hid thrE; rw [if_neg (by omega)]; rfl
      have h1' : ¬ ((l.length : Int)) < 1 := by omega
      have h2' : ((l.length : Int)) ≤ 8 := by omega
      go_enter Tryz.func79, Tryz.ntmps79
      go_wp2
      go_loopw [18] (fun i wr => ∃ k : Nat, k ≤ l.length ∧ i = .int .i64 k ∧ badAt locs (l.drop k) k = badAt locs l 0 ∧ Below w.heap.size w wr) (fun i _ => l.length - (intOf i).toNat)
      case atStart => exact ⟨0, Nat.zero_le _, rfl, rfl, by go_grown⟩
      case round =>
        obtain ⟨k, hk, rfl, hF, hB⟩ := hrel
        have HF : Hid _ := hF
        clear hF
        by_cases hlt : k < l.length
        · obtain ⟨ub, uo, rfl, e0, e1, e2, e3, e4, e5⟩ := (ins_at (hl.keep hB)).2 k hlt
          have Tr := T.below hB
          generalize hx : l[k] = x at e0 e1 e2 e3 e4 e5
          have HX : Hid (l.drop k = x :: l.drop (k + 1)) := by rw [← hx]; exact drop_at hlt
          clear hx
          cases hm : mayB x.op x.d x.a x.b x.l x.i ((l.length : Int) - 1 - k) locs
          · have HM : Hid _ := hm
            clear hm
            go_wp2_with (go_at_call 88; refine (May_any _ _ _ _ _ _ _ _ _ (Tr.alloc _)).mono ?_; rintro e w3 ⟨rfl, hb3⟩; rw [HM.out])
            go_ret2
            exact ⟨by rw [E.out, ← HF.out, badAt_no hlt HX.out HM.out]; rfl, (hB.alloc hB.size _).trans (hb3.mono (by simp; exact Nat.le_succ_of_le hB.size))⟩
          · have HM : Hid _ := hm
            clear hm
            go_wp2_with (go_at_call 88; refine (May_any _ _ _ _ _ _ _ _ _ (Tr.alloc _)).mono ?_; rintro e w3 ⟨rfl, hb3⟩; rw [HM.out])
            go_roundw
            case rel => exact ⟨k + 1, by omega, by go_num, by rw [← badAt_yes hlt HX.out HM.out]; exact HF.out, (hB.alloc hB.size _).trans (hb3.mono (by simp; exact Nat.le_succ_of_le hB.size))⟩
            case measure => simp [intOf]; omega
        · go_wp2
          go_ret2
          exact ⟨by have := HF.out; rw [List.drop_of_length_le (by omega), badAt] at this; rw [E.out, ← this]; rfl, hB⟩
    · have E : Hid (thrE locs l = (0, 1)) := by unfold Hid thrE; rw [if_pos (by omega)]
      have h1' : ¬ ((l.length : Int)) < 1 := by omega
      have h2' : ¬ ((l.length : Int)) ≤ 8 := by omega
      go_enter Tryz.func79, Tryz.ntmps79
      go_wp2
      go_ret2
      exact ⟨by rw [E.out]; rfl, by go_grown⟩
  · have E : Hid (thrE locs l = (0, 1)) := by unfold Hid thrE; rw [if_pos (by omega)]
    have h1' : ((l.length : Int)) < 1 := by omega
    go_enter Tryz.func79, Tryz.ntmps79
    go_wp2
    go_ret2
    exact ⟨by rw [E.out]; rfl, by go_grown⟩

theorem check_in {xs : List Int} {ts : List (List Ins)} (h : initB xs = true) (h1 : 1 ≤ ts.length) (h2 : ts.length ≤ 3) : ¬ (initB xs = false ∨ ts.length < 1 ∨ 3 < ts.length) := by
  rintro (hc | hc | hc)
  · rw [h] at hc; cases hc
  · omega
  · omega
theorem check_arg {xs : List Int} {ts : List (List Ins)} (h : initB xs = false ∨ ts.length < 1 ∨ 3 < ts.length) : checkZ xs ts = (0, 0, 1) := by unfold checkZ; rw [if_pos h]
theorem check_thr {xs : List Int} {ts : List (List Ins)} {r : Int × Int × Int} (h : initB xs = true) (h1 : 1 ≤ ts.length) (h2 : ts.length ≤ 3) (hr : thrsE xs.length ts 0 = some r) : checkZ xs ts = r := by
  unfold checkZ; rw [if_neg (check_in h h1 h2), hr]
theorem check_full {xs : List Int} {ts : List (List Ins)} (h : initB xs = true) (h1 : 1 ≤ ts.length) (h2 : ts.length ≤ 3) (hr : thrsE xs.length ts 0 = none) (hf : 6 < (cntTs ts 0 0).1 + (cntTs ts 0 0).2 ∨ 4 < (cntTs ts 0 0).1) : checkZ xs ts = (0, 0, 3) := by
  unfold checkZ; rw [if_neg (check_in h h1 h2), hr]; simp only; rw [if_pos hf]
theorem check_ok {xs : List Int} {ts : List (List Ins)} (h : initB xs = true) (h1 : 1 ≤ ts.length) (h2 : ts.length ≤ 3) (hr : thrsE xs.length ts 0 = none) (hf : ¬ (6 < (cntTs ts 0 0).1 + (cntTs ts 0 0).2 ∨ 4 < (cntTs ts 0 0).1)) : checkZ xs ts = (0, 0, 0) := by
  unfold checkZ; rw [if_neg (check_in h h1 h2), hr]; simp only; rw [if_neg hf]

theorem cntT_bd (l : List Ins) : ∀ a b : Int, a ≤ (cntT l a b).1 ∧ b ≤ (cntT l a b).2 ∧ (cntT l a b).1 + (cntT l a b).2 ≤ a + b + l.length := by
  induction l with
  | nil => intro a b; simp [cntT]
  | cons x xs ih =>
    intro a b
    simp only [cntT, List.length_cons]
    split
    · have := ih (a + 1) b; omega
    · split
      · have := ih a (b + 1); omega
      · have := ih a b; omega
theorem cntTs_bd (ts : List (List Ins)) : ∀ a b : Int, a ≤ (cntTs ts a b).1 ∧ b ≤ (cntTs ts a b).2 ∧ (cntTs ts a b).1 + (cntTs ts a b).2 ≤ a + b + sizeTs ts := by
  induction ts with
  | nil => intro a b; simp [cntTs, sizeTs]
  | cons l ls ih =>
    intro a b
    simp only [cntTs, sizeTs]
    have h1 := cntT_bd l a b
    have h2 := ih (cntT l a b).1 (cntT l a b).2
    omega

theorem thrsE_yes {locs : Int} {ts : List (List Ins)} {k : Nat} {l : List Ins} (h : ts.drop k = l :: ts.drop (k + 1)) (hm : (thrE locs l).2 = 0) : thrsE locs (ts.drop k) k = thrsE locs (ts.drop (k + 1)) (k + 1) := by
  rw [h, thrsE, if_pos hm]
theorem thrsE_no {locs : Int} {ts : List (List Ins)} {k : Nat} {l : List Ins} (h : ts.drop k = l :: ts.drop (k + 1)) (hm : (thrE locs l).2 ≠ 0) : thrsE locs (ts.drop k) k = some ((k : Int), (thrE locs l).1, (thrE locs l).2) := by
  rw [h, thrsE, if_neg hm]

set_option maxHeartbeats 2000000 in
theorem Check_any (pi pt : Option Addr) (ci ct : Nat) (xs : List Int) (ts : List (List Ins)) (w : World) (T : Tab w) (hi : Sl IntE w (.slice pi xs.length ci) xs) (ht : Sl ThrE w (.slice pt ts.length ct) ts) (hM : sizeTs ts ≤ 1000000) :
    Calls Tryz.prog 61 #[.agg #[.slice pi xs.length ci, .slice pt ts.length ct]] w fun e w' => e = .returned (.tuple #[.int .i64 (checkZ xs ts).1, .int .i64 (checkZ xs ts).2.1, .int .i64 (checkZ xs ts).2.2]) ∧ Below w.heap.size w w' := by
  have hi1 := hi.keep ((Below.refl _ _).alloc (Nat.le_refl _) (.cells #[.slice pi xs.length ci, .slice pt ts.length ct] 63))
  by_cases h0 : initB xs = true
  · by_cases h1 : 1 ≤ ts.length
    · by_cases h2 : ts.length ≤ 3
      · have h1' : ¬ ((ts.length : Int)) < 1 := by omega
        have h2' : ((ts.length : Int)) ≤ 3 := by omega
        have H0 : Hid _ := h0
        clear h0
        go_enter Tryz.func61, Tryz.ntmps61
        go_wp2_with (go_at_call 78; refine (mayInit_any _ _ _ _ hi1).mono ?_; rintro e w3 ⟨rfl, rfl⟩; rw [H0.out])
        go_loopw [30] (fun i wr => ∃ k : Nat, k ≤ ts.length ∧ i = .int .i64 k ∧ thrsE xs.length (ts.drop k) k = thrsE xs.length ts 0 ∧ Below (w.heap.size + 1) (w.alloc (.cells #[.slice pi xs.length ci, .slice pt ts.length ct] 63)) wr) (fun i _ => ts.length - (intOf i).toNat)
        case atStart => exact ⟨0, Nat.zero_le _, rfl, rfl, Below.refl _ _⟩
        case round =>
          obtain ⟨k, hk, rfl, hF, hB⟩ := hrel
          have HF : Hid _ := hF
          clear hF
          have hB' : Below w.heap.size w wr := ((Below.refl _ _).alloc (Nat.le_refl _) _).trans (hB.mono (by omega))
          obtain ⟨hc, hf⟩ := bcell (W := w.alloc (.cells #[.slice pi xs.length ci, .slice pt ts.length ct] 63)) (by simpa using hB)
          by_cases hlt : k < ts.length
          · obtain ⟨tb, to, rfl, u, hu, hU⟩ := (thr_at (ht.keep hB')).2 k hlt
            generalize hl : ts[k] = l at hU
            have HL : Hid (ts.drop k = l :: ts.drop (k + 1)) := by rw [← hl]; exact drop_at hlt
            clear hl
            obtain ⟨pu, cu, rfl⟩ := hU.len
            by_cases hm : (thrE xs.length l).2 = 0
            · have HM : Hid _ := hm
              clear hm
              go_wp2_with (go_at_call 79; refine (checkThread_any _ _ _ _ _ (T.below hB') hU).mono ?_; rintro e w3 ⟨rfl, hb3⟩; rw [HM.out])
              go_roundw
              case rel => exact ⟨k + 1, by omega, by go_num, by rw [← thrsE_yes HL.out HM.out]; exact HF.out, hB.trans (hb3.mono (by have := hB.size; simpa using this))⟩
              case measure => simp [intOf]; omega
            · have hm' : ((thrE xs.length l).2 != 0) = true := by simpa using hm
              go_wp2_with (go_at_call 79; refine (checkThread_any _ _ _ _ _ (T.below hB') hU).mono ?_; rintro e w3 ⟨rfl, hb3⟩)
              go_ret3
              exact ⟨by rw [check_thr H0.out h1 h2 (HF.out.symm.trans (thrsE_no HL.out hm))]; rfl, hB'.trans (hb3.mono hB'.size)⟩
          · have hN : thrsE xs.length ts 0 = none := by have := HF.out; rw [List.drop_of_length_le (by omega), thrsE] at this; exact this.symm
            have HN : Hid _ := hN
            clear hN
            obtain ⟨g1, g2, g3⟩ := cntTs_bd ts 0 0
            generalize hr : (cntTs ts 0 0).1 = r at g1 g3
            generalize hs : (cntTs ts 0 0).2 = s at g2 g3
            have HR : Hid _ := hr
            have HS : Hid _ := hs
            clear hr hs
            by_cases c1 : 6 < r + s
            · go_wp2_with (go_at_call 62; refine (Count_any _ _ _ _ _ _ _ (T.below hB') (ht.keep hB') hM (by omega)).mono ?_; rintro e w3 ⟨rfl, hb3⟩; rw [HR.out, HS.out])
              go_ret3
              exact ⟨by rw [check_full H0.out h1 h2 HN.out (by rw [HR.out, HS.out]; exact .inl c1)]; rfl, hB'.trans (hb3.mono hB'.size)⟩
            · by_cases c2 : 4 < r
              · go_wp2_with (go_at_call 62; refine (Count_any _ _ _ _ _ _ _ (T.below hB') (ht.keep hB') hM (by omega)).mono ?_; rintro e w3 ⟨rfl, hb3⟩; rw [HR.out, HS.out])
                go_ret3
                exact ⟨by rw [check_full H0.out h1 h2 HN.out (by rw [HR.out, HS.out]; exact .inr c2)]; rfl, hB'.trans (hb3.mono hB'.size)⟩
              · go_wp2_with (go_at_call 62; refine (Count_any _ _ _ _ _ _ _ (T.below hB') (ht.keep hB') hM (by omega)).mono ?_; rintro e w3 ⟨rfl, hb3⟩; rw [HR.out, HS.out])
                go_ret3
                exact ⟨by rw [check_ok H0.out h1 h2 HN.out (by rw [HR.out, HS.out]; omega)]; rfl, hB'.trans (hb3.mono hB'.size)⟩
      · have h1' : ¬ ((ts.length : Int)) < 1 := by omega
        have h2' : ¬ ((ts.length : Int)) ≤ 3 := by omega
        have H0 : Hid _ := h0
        clear h0
        go_enter Tryz.func61, Tryz.ntmps61
        go_wp2_with (go_at_call 78; refine (mayInit_any _ _ _ _ hi1).mono ?_; rintro e w3 ⟨rfl, rfl⟩; rw [H0.out])
        go_ret3
        exact ⟨by rw [check_arg (.inr (.inr (by omega)))]; rfl, by go_grown⟩
    · have h1' : ((ts.length : Int)) < 1 := by omega
      have H0 : Hid _ := h0
      clear h0
      go_enter Tryz.func61, Tryz.ntmps61
      go_wp2_with (go_at_call 78; refine (mayInit_any _ _ _ _ hi1).mono ?_; rintro e w3 ⟨rfl, rfl⟩; rw [H0.out])
      go_ret3
      exact ⟨by rw [check_arg (.inr (.inl (by omega)))]; rfl, by go_grown⟩
  · have H0 : Hid (initB xs = false) := by unfold Hid; simpa using h0
    clear h0
    go_enter Tryz.func61, Tryz.ntmps61
    go_wp2_with (go_at_call 78; refine (mayInit_any _ _ _ _ hi1).mono ?_; rintro e w3 ⟨rfl, rfl⟩; rw [H0.out])
    go_ret3
    exact ⟨by rw [check_arg (.inl H0.out)]; rfl, by go_grown⟩

end Go.Proofs.YtcalinfdckklfaaGreatDoor
