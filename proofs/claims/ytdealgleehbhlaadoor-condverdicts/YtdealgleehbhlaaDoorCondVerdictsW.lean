/- The walk of CondVerdicts. -/
import Derived.Test.YtdealgleehbhlaaDoorCondSetsW
import Derived.Test.YtdealgleehbhlaaDoorCondEval2
import Derived.Test.YtdealgleehbhlaaDoorMix
namespace Go.Proofs.YtdealgleehbhlaaDoor
open Go.RowKit
attribute [local go_sem] Ext.cell Ext.frozen

theorem all_some {f : Out → Bool} {l : List Out} (hne : l.length ≠ 0) (h : l.all f = true) : l.any f = true := by
  cases l with
  | nil => simp at hne
  | cons a l =>
    simp only [List.all_cons, Bool.and_eq_true] at h
    simp [h.1]

set_option maxRecDepth 100000 in
set_option maxHeartbeats 8000000 in
theorem CondVerdicts_true (all : Bool) (p : Option Addr) (c : Nat) (ls : List (List Atm)) (q : Option Addr) (d : Nat) (os : List Out) (w : World) (E : Pow w) (hl : Sl (SlE AtmE) w (.slice p ls.length c) ls) (_ : ∀ l ∈ ls, ∀ a ∈ l, Asz a) (ho : Sl OutE w (.slice q os.length d) os) (hzo : ∀ o ∈ os, Ozb o) :
    Calls Tryd.prog 6 #[.agg #[.bool all, .slice p ls.length c], .slice q os.length d] w fun e w' => e = .returned (.bool true) ∧ Below w.heap.size w w' := by
  have hb1 := (Below.refl w.heap.size w).alloc (Nat.le_refl _) (.cells #[.bool all, .slice p ls.length c] 24)
  have k1 : Blk (w.alloc (.cells #[.bool all, .slice p ls.length c] 24)) w.heap.size #[.bool all, .slice p ls.length c] 24 := Blk.new
  have HZ : Hid _ := hzo
  clear hzo
  have hne : ∀ w, Nonempty (Ext w) := ext_some
  have C0 := shown_any _ (E.below hb1)
  have CF := fun (w' : World) (h : Below w.heap.size w w') => few_any all p c ls w' (hl.keep h)
  go_enter Tryd.func6, Tryd.ntmps6
  cases hf : fewB ls
  · rw [hf] at CF
    have CF : Hid _ := CF
    go_wp2_with (first
      | (go_at_call 9; refine C0.mono ?_; rintro e w2 ⟨rfl, hb2⟩; have e0 : w2.cell? ⟨w.heap.size, 0, none⟩ = some (.bool _) := (k1.keep hb2).cell 0; have e1 : w2.cell? ⟨w.heap.size, 1, none⟩ = some (.slice p ls.length c) := (k1.keep hb2).cell 1)
      | (go_at_call 10; refine Calls.mono (CF.out _ (Below.thru hb1 hb2 (Nat.le_refl _))) ?_; rintro e w3 ⟨rfl, hb3⟩))
    go_ret
    exact ⟨rfl, Below.thru (Below.thru hb1 hb2 (Nat.le_refl _)) hb3 (Nat.le_refl _)⟩
  · rw [hf] at CF
    have CF : Hid _ := CF
    obtain ⟨hz, hzl⟩ := few_yes hf
    clear hf
    by_cases h50 : 50 < os.length
    · have h50' : (50 : Int) < (os.length : Int) := by omega
      go_wp2_with (first
        | (go_at_call 9; refine C0.mono ?_; rintro e w2 ⟨rfl, hb2⟩; have e0 : w2.cell? ⟨w.heap.size, 0, none⟩ = some (.bool _) := (k1.keep hb2).cell 0; have e1 : w2.cell? ⟨w.heap.size, 1, none⟩ = some (.slice p ls.length c) := (k1.keep hb2).cell 1)
        | (go_at_call 10; refine Calls.mono (CF.out _ (Below.thru hb1 hb2 (Nat.le_refl _))) ?_; rintro e w3 ⟨rfl, hb3⟩))
      go_ret
      exact ⟨rfl, Below.thru (Below.thru hb1 hb2 (Nat.le_refl _)) hb3 (Nat.le_refl _)⟩
    · have h50' : ¬ (50 : Int) < (os.length : Int) := by omega
      have HL1 : ∀ l ∈ ls, l.length ≤ 1000000 := fun l hl => by have := hzl l hl; omega
      have CM := fun (w' : World) (h : Below w.heap.size w w') => made_any all p c ls w' (hl.keep h) (by omega) (fun l hl => by have := hzl l hl; omega)
      have CM : Hid _ := CM
      have HL1 : Hid _ := HL1
      clear hzl
      go_wp2_with (first
        | (go_at_call 9; refine C0.mono ?_; rintro e w2 ⟨rfl, hb2⟩; have e0 : w2.cell? ⟨w.heap.size, 0, none⟩ = some (.bool _) := (k1.keep hb2).cell 0; have e1 : w2.cell? ⟨w.heap.size, 1, none⟩ = some (.slice p ls.length c) := (k1.keep hb2).cell 1)
        | (go_at_call 10; refine Calls.mono (CF.out _ (Below.thru hb1 hb2 (Nat.le_refl _))) ?_; rintro e w3 ⟨rfl, hb3⟩; have f0 := cell_keep e0 hb3; have f1 := cell_keep e1 hb3; have hB3 := Below.thru (Below.thru hb1 hb2 (Nat.le_refl _)) hb3 (Nat.le_refl _))
        | (go_at_call 12; refine Calls.mono (CM.out _ hB3) ?_; rintro e w4 ⟨q8, d8, rfl, s8, hb4⟩))
      have hB4 := Below.thru hB3 hb4 (Nat.le_refl _)
      have hb5 : Below w4.heap.size w4 ((w4.alloc (.cells #[.bool all, .slice q8 ls.length d8] 31)).alloc (.cells #[.bool !all, .slice q8 ls.length d8] 31)) := by go_grown
      have kx5 : Blk ((w4.alloc (.cells #[.bool all, .slice q8 ls.length d8] 31)).alloc (.cells #[.bool !all, .slice q8 ls.length d8] 31)) w4.heap.size #[.bool all, .slice q8 ls.length d8] 31 := Blk.new.alloc _
      have ky5 : Blk ((w4.alloc (.cells #[.bool all, .slice q8 ls.length d8] 31)).alloc (.cells #[.bool !all, .slice q8 ls.length d8] 31)) (w4.heap.size + 1) #[.bool !all, .slice q8 ls.length d8] 31 := Blk.newAt (by simp)
      generalize ((w4.alloc (.cells #[.bool all, .slice q8 ls.length d8] 31)).alloc (.cells #[.bool !all, .slice q8 ls.length d8] 31)) = w5 at *
      have hB5 := Below.thru hB4 hb5 (Nat.le_refl _)
      have s5 := s8.any.keep hb5
      clear e0 e1 f0 f1 C0 CF CM s8 hb1 hb2 hb3 hb4 hB3 hB4 k1 hb5
      go_loopw [8, 9, 10] (fun a s i wr => ∃ (k : Nat) (A S : Bool), k ≤ os.length ∧ i = .int .i64 k ∧ a = .bool A ∧ s = .bool S ∧ (A && (os.drop k).all (evalB ls)) = os.all (evalB ls) ∧ (S || (os.drop k).any (evalB ls)) = os.any (evalB ls) ∧ Below w5.heap.size w5 wr) (fun _ _ i _ => os.length - (intOf i).toNat)
      case atStart => exact ⟨0, true, false, Nat.zero_le _, rfl, rfl, rfl, rfl, rfl, Below.refl _ _⟩
      case round =>
        obtain ⟨k, A, S, hk, rfl, rfl, rfl, hFA, hFS, hbr⟩ := hrel
        have HFA : Hid _ := hFA
        have HFS : Hid _ := hFS
        clear hFA hFS
        have kx := kx5.keep hbr
        have ky := ky5.keep hbr
        have e0 : wr.cell? ⟨w4.heap.size, 0, none⟩ = some (.bool all) := kx.cell 0
        have e1 : wr.cell? ⟨w4.heap.size, 1, none⟩ = some (.slice q8 ls.length d8) := kx.cell 1
        have e2 : wr.cell? ⟨w4.heap.size + 1, 0, none⟩ = some (.bool !all) := ky.cell 0
        have e3 : wr.cell? ⟨w4.heap.size + 1, 1, none⟩ = some (.slice q8 ls.length d8) := ky.cell 1
        have z0 := cell_lt e0
        have z2 := cell_lt e2
        have hBr : Below w.heap.size w wr := Below.thru hB5 hbr (Nat.le_refl _)
        have sr := s5.keep hbr
        have hor := ho.keep hBr
        by_cases hlt : k < os.length
        · obtain ⟨b, oo, rfl, u1, u2, f1, f2, hU1, hU2⟩ := (out_at hor).2 k hlt
          generalize hx : os[k] = x at hU1 hU2
          have HX : os.drop k = x :: os.drop (k + 1) := by rw [← hx]; exact drop_at hlt
          clear hx
          have hU : OutV wr u1 u2 x := ⟨hU1, hU2⟩
          obtain ⟨pu, cu, rfl⟩ := hU1.len
          obtain ⟨pv, cv, rfl⟩ := hU2.len
          have z3 := cell_lt f1
          have hlt' : (k : Int) < (os.length : Int) := by omega
          have HC := fun r : Ext wr => Eval_any all q8 d8 ls _ _ x r.wd (sr.keep r.ok) (hU.keep r.ok) (by omega) HL1.out
          have HFA' := HFA.out
          have HFS' := HFS.out
          rw [HX, List.all_cons] at HFA'
          rw [HX, List.any_cons] at HFS'
          generalize evalB ls x = ev at HC HFA' HFS'
          have HC : Hid _ := HC
          clear HX
          cases ev <;> cases A <;> cases S
          all_goals
            simp only [Bool.true_and, Bool.false_and, Bool.true_or, Bool.false_or, Bool.or_true] at HFA' HFS'
            have HGA : Hid _ := HFA'
            have HGS : Hid _ := HFS'
            clear HFA' HFS'
            go_wp2
            refine wp_region_ext (by kernel_rfl) (by kernel_rfl) ?_
            repeat (go_big_quiet_step ((go_at_call 11; exact calls_ext (HC.out _))))
            refine wpQuiet_nil ?_
            rintro _ ⟨rr, rfl⟩
            go_wp2
            go_roundw
            case rel => exact ⟨k + 1, _, _, by omega, by go_num, rfl, rfl, by first | exact HGA.out | (rw [← HGA.out]; rfl) | (rw [← HGA.out]; simp), by first | exact HGS.out | (rw [← HGS.out]; rfl) | (rw [← HGS.out]; simp), Below.thru hbr rr.ok (Nat.le_refl _)⟩
            case measure => simp [intOf]; omega
        · have hFA' := HFA.out
          have hFS' := HFS.out
          rw [List.drop_of_length_le (by omega), List.all_nil, Bool.and_true] at hFA'
          rw [List.drop_of_length_le (by omega), List.any_nil, Bool.or_false] at hFS'
          have hsl : (setO [] os).length ≤ 50 := by have := set_len (l := os) (acc := []); simp at this; omega
          have CV := fun (w' : World) (h : Below wr.heap.size wr w') => Verdict_any all q8 q d8 d ls os w' (sr.keep h) (hor.keep h) (by omega) HL1.out (by omega)
          have CVY := fun (w' : World) (h : Below wr.heap.size wr w') => Verdict_any (!all) q8 q d8 d ls os w' (sr.keep h) (hor.keep h) (by omega) HL1.out (by omega)
          have CVN := fun (w' : World) (h : Below wr.heap.size wr w') => Verdict_any all q8 none d8 0 ls [] w' (sr.keep h) SlA.nil (by omega) HL1.out (by simp)
          have CS := fun (w' : World) (h : Below wr.heap.size wr w') => Set_any q d os w' (hor.keep h) HZ.out (by omega)
          have CVS := fun (p' : Option Addr) (c' : Nat) (w' : World) (hs : Sl OutE w' (.slice p' (setO [] os).length c') (setO [] os)) (h : Below wr.heap.size wr w') => Verdict_any all q8 p' d8 c' ls (setO [] os) w' (sr.keep h) hs (by omega) HL1.out (by omega)
          rw [verdict_set] at CVS
          have hvn : verdictB all ls [] = all := by cases all <;> rfl
          rw [hvn] at CVN
          generalize setO [] os = ss at CS CVS hsl
          have hv : verdictB all ls os = bif all then A else S := by rw [hFA', hFS']; rfl
          have hvy : verdictB (!all) ls os = bif all then S else A := by rw [hFA', hFS']; cases all <;> rfl
          have himp : os.length ≠ 0 → A = true → S = true := fun h1 h2 => by rw [hFS']; exact all_some h1 (by rw [← hFA']; exact h2)
          rw [hv] at CV CVS
          rw [hvy] at CVY
          have HIMP : Hid _ := himp
          clear hv hvy hvn hFA' hFS' HFA HFS himp
          have CS : Hid _ := CS
          by_cases h0 : os.length = 0
          · have h0' : ((os.length : Int) == 0) = true := len_eq0 h0
            clear h0
            cases all <;> cases A <;> cases S
            all_goals
              simp only [cond_true, cond_false, Bool.not_true, Bool.not_false] at CV CVS CVN CVY e0 e2
              have CV : Hid _ := CV
              have CVS : Hid _ := CVS
              have CVN : Hid _ := CVN
              go_wp2
              refine wp_region_mix [([0, 1, 2, 3, 5], 4), ([6, 7, 8, 9, 10, 13], 11), ([], 12), ([14, 15, 16, 17, 19, 20], 18), ([21, 22, 23, 24, 25, 26, 27, 28, 29], 30), ([31, 32, 33, 34, 35, 36, 37, 38, 39, 40], 41)] [42, 43, 44] (by kernel_rfl) (by kernel_rfl) (fun _ _ d _ _ h => by cases d <;> exact h) ?_
              dsimp only [List.map, opAt]
              have hD : Below wr.heap.size wr wr.drew := (Below.refl _ _).drew
              refine wpMix_stage ?_
              repeat (go_big_quiet_step (fail))
              refine wpQuiet_nil ?_
              go_wp2_with (go_at_call 14; refine Calls.mono (CV.out _ hD) ?_; rintro e w11 ⟨rfl, hb11⟩)
              have hC11 : Below wr.heap.size wr w11 := Below.thru hD hb11 (Nat.le_refl _)
              refine ⟨hC11, ?_⟩
              refine wpMix_stage ?_
              repeat (go_big_quiet_step (fail))
              refine wpQuiet_nil ?_
              go_wp2_with (go_at_call 21; refine Calls.mono (CS.out _ hC11) ?_; rintro e w12 ⟨v12, rfl, s12, hb12⟩; obtain ⟨p12, c12, rfl⟩ := s12.len)
              have hC12 : Below wr.heap.size wr w12 := Below.thru hC11 hb12 (Nat.le_refl _)
              refine ⟨hC12, ?_⟩
              refine wpMix_stage ?_
              refine wpQuiet_nil ?_
              go_wp2_with (go_at_call 14; refine Calls.mono (CVS.out _ _ _ s12.any hC12) ?_; rintro e w13 ⟨rfl, hb13⟩)
              have hC13 : Below wr.heap.size wr w13 := Below.thru hC12 hb13 (Nat.le_refl _)
              refine ⟨hC13, ?_⟩
              refine wpMix_stage ?_
              repeat (go_big_quiet_step (fail))
              refine wpQuiet_nil ?_
              go_wp2_with (go_at_call 14; refine Calls.mono (CVN.out _ hC13) ?_; rintro e w14 ⟨rfl, hb14⟩)
              have hC14 : Below wr.heap.size wr w14 := Below.thru hC13 hb14 (Nat.le_refl _)
              refine ⟨hC14, ?_⟩
              refine wpMix_stage ?_
              repeat (go_big_quiet_step (fail))
              refine wpQuiet_nil ?_
              go_wp2
              refine ⟨hC14, ?_⟩
              refine wpMix_stage ?_
              repeat (go_big_quiet_step (fail))
              refine wpQuiet_nil ?_
              go_wp2
              refine ⟨hC14, ?_⟩
              refine wpMix_last ?_
              repeat (go_big_quiet_step (fail))
              refine wpQuiet_nil ?_
              go_wp2
              go_ret
              exact ⟨rfl, Below.thru hBr hC14 (Nat.le_refl _)⟩
          · have h0' : ((os.length : Int) == 0) = false := len_ne0 h0
            have h1 : A = true → S = true := HIMP.out h0
            clear h0
            cases all
            · clear h1
              cases A <;> cases S
              all_goals
                simp only [cond_false, Bool.not_false] at CV CVS CVN CVY e0 e2
                have CV : Hid _ := CV
                have CVS : Hid _ := CVS
                have CVN : Hid _ := CVN
                have CVY : Hid _ := CVY
                go_wp2
                refine wp_region_mix [([0, 1, 2, 3, 5], 4), ([6, 7, 8, 9, 10, 13], 11), ([], 12), ([14, 15, 16, 17, 19, 20], 18), ([21, 22, 23, 24, 25, 26, 27, 28, 29], 30), ([31, 32, 33, 34, 35, 36, 37, 38, 39, 40], 41)] [42, 43, 44] (by kernel_rfl) (by kernel_rfl) (fun _ _ d _ _ h => by cases d <;> exact h) ?_
                dsimp only [List.map, opAt]
                have hD : Below wr.heap.size wr wr.drew := (Below.refl _ _).drew
                refine wpMix_stage ?_
                repeat (go_big_quiet_step (fail))
                refine wpQuiet_nil ?_
                go_wp2_with (go_at_call 14; refine Calls.mono (CV.out _ hD) ?_; rintro e w11 ⟨rfl, hb11⟩)
                have hC11 : Below wr.heap.size wr w11 := Below.thru hD hb11 (Nat.le_refl _)
                refine ⟨hC11, ?_⟩
                refine wpMix_stage ?_
                repeat (go_big_quiet_step (fail))
                refine wpQuiet_nil ?_
                go_wp2_with (go_at_call 21; refine Calls.mono (CS.out _ hC11) ?_; rintro e w12 ⟨v12, rfl, s12, hb12⟩; obtain ⟨p12, c12, rfl⟩ := s12.len)
                have hC12 : Below wr.heap.size wr w12 := Below.thru hC11 hb12 (Nat.le_refl _)
                refine ⟨hC12, ?_⟩
                refine wpMix_stage ?_
                refine wpQuiet_nil ?_
                go_wp2_with (go_at_call 14; refine Calls.mono (CVS.out _ _ _ s12.any hC12) ?_; rintro e w13 ⟨rfl, hb13⟩)
                have hC13 : Below wr.heap.size wr w13 := Below.thru hC12 hb13 (Nat.le_refl _)
                refine ⟨hC13, ?_⟩
                refine wpMix_stage ?_
                repeat (go_big_quiet_step (fail))
                refine wpQuiet_nil ?_
                go_wp2_with (go_at_call 14; refine Calls.mono (CVN.out _ hC13) ?_; rintro e w14 ⟨rfl, hb14⟩)
                have hC14 : Below wr.heap.size wr w14 := Below.thru hC13 hb14 (Nat.le_refl _)
                refine ⟨hC14, ?_⟩
                refine wpMix_stage ?_
                repeat (go_big_quiet_step (fail))
                refine wpQuiet_nil ?_
                go_wp2_with (go_at_call 14; refine Calls.mono (CV.out _ hC14) ?_; rintro e w15 ⟨rfl, hb15⟩)
                have hC15 : Below wr.heap.size wr w15 := Below.thru hC14 hb15 (Nat.le_refl _)
                refine ⟨hC15, ?_⟩
                refine wpMix_stage ?_
                repeat (go_big_quiet_step (fail))
                refine wpQuiet_nil ?_
                go_wp2
                refine ⟨hC15, ?_⟩
                refine wpMix_last ?_
                repeat (go_big_quiet_step (fail))
                refine wpQuiet_nil ?_
                go_wp2
                go_ret
                exact ⟨rfl, Below.thru hBr hC15 (Nat.le_refl _)⟩
            · cases A
              · clear h1
                cases S
                all_goals
                  simp only [cond_true, Bool.not_true] at CV CVS CVN CVY e0 e2
                  have CV : Hid _ := CV
                  have CVS : Hid _ := CVS
                  have CVN : Hid _ := CVN
                  have CVY : Hid _ := CVY
                  go_wp2
                  refine wp_region_mix [([0, 1, 2, 3, 5], 4), ([6, 7, 8, 9, 10, 13], 11), ([], 12), ([14, 15, 16, 17, 19, 20], 18), ([21, 22, 23, 24, 25, 26, 27, 28, 29], 30), ([31, 32, 33, 34, 35, 36, 37, 38, 39, 40], 41)] [42, 43, 44] (by kernel_rfl) (by kernel_rfl) (fun _ _ d _ _ h => by cases d <;> exact h) ?_
                  dsimp only [List.map, opAt]
                  have hD : Below wr.heap.size wr wr.drew := (Below.refl _ _).drew
                  refine wpMix_stage ?_
                  repeat (go_big_quiet_step (fail))
                  refine wpQuiet_nil ?_
                  go_wp2_with (go_at_call 14; refine Calls.mono (CV.out _ hD) ?_; rintro e w11 ⟨rfl, hb11⟩)
                  have hC11 : Below wr.heap.size wr w11 := Below.thru hD hb11 (Nat.le_refl _)
                  refine ⟨hC11, ?_⟩
                  refine wpMix_stage ?_
                  repeat (go_big_quiet_step (fail))
                  refine wpQuiet_nil ?_
                  go_wp2_with (go_at_call 21; refine Calls.mono (CS.out _ hC11) ?_; rintro e w12 ⟨v12, rfl, s12, hb12⟩; obtain ⟨p12, c12, rfl⟩ := s12.len)
                  have hC12 : Below wr.heap.size wr w12 := Below.thru hC11 hb12 (Nat.le_refl _)
                  refine ⟨hC12, ?_⟩
                  refine wpMix_stage ?_
                  refine wpQuiet_nil ?_
                  go_wp2_with (go_at_call 14; refine Calls.mono (CVS.out _ _ _ s12.any hC12) ?_; rintro e w13 ⟨rfl, hb13⟩)
                  have hC13 : Below wr.heap.size wr w13 := Below.thru hC12 hb13 (Nat.le_refl _)
                  refine ⟨hC13, ?_⟩
                  refine wpMix_stage ?_
                  repeat (go_big_quiet_step (fail))
                  refine wpQuiet_nil ?_
                  go_wp2_with (go_at_call 14; refine Calls.mono (CVN.out _ hC13) ?_; rintro e w14 ⟨rfl, hb14⟩)
                  have hC14 : Below wr.heap.size wr w14 := Below.thru hC13 hb14 (Nat.le_refl _)
                  refine ⟨hC14, ?_⟩
                  refine wpMix_stage ?_
                  repeat (go_big_quiet_step (fail))
                  refine wpQuiet_nil ?_
                  go_wp2_with (go_at_call 14; refine Calls.mono (CV.out _ hC14) ?_; rintro e w15 ⟨rfl, hb15⟩)
                  have hC15 : Below wr.heap.size wr w15 := Below.thru hC14 hb15 (Nat.le_refl _)
                  refine ⟨hC15, ?_⟩
                  refine wpMix_stage ?_
                  repeat (go_big_quiet_step (fail))
                  refine wpQuiet_nil ?_
                  go_wp2
                  refine ⟨hC15, ?_⟩
                  refine wpMix_last ?_
                  repeat (go_big_quiet_step (fail))
                  refine wpQuiet_nil ?_
                  go_wp2
                  go_ret
                  exact ⟨rfl, Below.thru hBr hC15 (Nat.le_refl _)⟩
              · have h2 : S = true := h1 rfl
                subst h2
                clear h1
                simp only [cond_true, Bool.not_true] at CV CVS CVN CVY e0 e2
                have CV : Hid _ := CV
                have CVS : Hid _ := CVS
                have CVN : Hid _ := CVN
                have CVY : Hid _ := CVY
                go_wp2
                refine wp_region_mix [([0, 1, 2, 3, 5], 4), ([6, 7, 8, 9, 10, 13], 11), ([], 12), ([14, 15, 16, 17, 19, 20], 18), ([21, 22, 23, 24, 25, 26, 27, 28, 29], 30), ([31, 32, 33, 34, 35, 36, 37, 38, 39, 40], 41)] [42, 43, 44] (by kernel_rfl) (by kernel_rfl) (fun _ _ d _ _ h => by cases d <;> exact h) ?_
                dsimp only [List.map, opAt]
                have hD : Below wr.heap.size wr wr.drew := (Below.refl _ _).drew
                refine wpMix_stage ?_
                repeat (go_big_quiet_step (fail))
                refine wpQuiet_nil ?_
                go_wp2_with (go_at_call 14; refine Calls.mono (CV.out _ hD) ?_; rintro e w11 ⟨rfl, hb11⟩)
                have hC11 : Below wr.heap.size wr w11 := Below.thru hD hb11 (Nat.le_refl _)
                refine ⟨hC11, ?_⟩
                refine wpMix_stage ?_
                repeat (go_big_quiet_step (fail))
                refine wpQuiet_nil ?_
                go_wp2_with (go_at_call 21; refine Calls.mono (CS.out _ hC11) ?_; rintro e w12 ⟨v12, rfl, s12, hb12⟩; obtain ⟨p12, c12, rfl⟩ := s12.len)
                have hC12 : Below wr.heap.size wr w12 := Below.thru hC11 hb12 (Nat.le_refl _)
                refine ⟨hC12, ?_⟩
                refine wpMix_stage ?_
                refine wpQuiet_nil ?_
                go_wp2_with (go_at_call 14; refine Calls.mono (CVS.out _ _ _ s12.any hC12) ?_; rintro e w13 ⟨rfl, hb13⟩)
                have hC13 : Below wr.heap.size wr w13 := Below.thru hC12 hb13 (Nat.le_refl _)
                refine ⟨hC13, ?_⟩
                refine wpMix_stage ?_
                repeat (go_big_quiet_step (fail))
                refine wpQuiet_nil ?_
                go_wp2_with (go_at_call 14; refine Calls.mono (CVN.out _ hC13) ?_; rintro e w14 ⟨rfl, hb14⟩)
                have hC14 : Below wr.heap.size wr w14 := Below.thru hC13 hb14 (Nat.le_refl _)
                refine ⟨hC14, ?_⟩
                refine wpMix_stage ?_
                repeat (go_big_quiet_step (fail))
                refine wpQuiet_nil ?_
                go_wp2_with (go_at_call 14; refine Calls.mono (CV.out _ hC14) ?_; rintro e w15 ⟨rfl, hb15⟩)
                have hC15 : Below wr.heap.size wr w15 := Below.thru hC14 hb15 (Nat.le_refl _)
                refine ⟨hC15, ?_⟩
                refine wpMix_stage ?_
                repeat (go_big_quiet_step (fail))
                refine wpQuiet_nil ?_
                go_wp2_with (go_at_call 14; refine Calls.mono (CVY.out _ hC15) ?_; rintro e w16 ⟨rfl, hb16⟩)
                have hC16 : Below wr.heap.size wr w16 := Below.thru hC15 hb16 (Nat.le_refl _)
                refine ⟨hC16, ?_⟩
                refine wpMix_last ?_
                repeat (go_big_quiet_step (fail))
                refine wpQuiet_nil ?_
                go_wp2
                go_ret
                exact ⟨rfl, Below.thru hBr hC16 (Nat.le_refl _)⟩
end Go.Proofs.YtdealgleehbhlaaDoor
