/- The walk of CondEvals. -/
import Derived.Test.YtdealgleehbhlaaDoorCondFew
import Derived.Test.YtdealgleehbhlaaDoorCondRefEval2
import Derived.Test.YtdealgleehbhlaaDoorCondRefText2
import Derived.Test.YtdealgleehbhlaaDoorMix
import Derived.Test.YtdealgleehbhlaaDoorCondOpen
namespace Go.Proofs.YtdealgleehbhlaaDoor
open Go.RowKit
attribute [local go_sem] Ext.cell Ext.frozen

set_option maxRecDepth 100000 in
set_option maxHeartbeats 4000000 in
theorem CondEvals_true (all : Bool) (p : Option Addr) (c : Nat) (ls : List (List Atm)) (q : Option Addr) (d : Nat) (os : List Out) (w : World) (E : Pow w) (hl : Sl (SlE AtmE) w (.slice p ls.length c) ls) (hA : ∀ l ∈ ls, ∀ a ∈ l, Asz a) (ho : Sl OutE w (.slice q os.length d) os) (_ : ∀ o ∈ os, Ozb o) :
    Calls Tryd.prog 3 #[.agg #[.bool all, .slice p ls.length c], .slice q os.length d] w fun e w' => e = .returned (.bool true) ∧ Below w.heap.size w w' := by
  have hb1 := (Below.refl w.heap.size w).alloc (Nat.le_refl _) (.cells #[.bool all, .slice p ls.length c] 24)
  have k1 : Blk (w.alloc (.cells #[.bool all, .slice p ls.length c] 24)) w.heap.size #[.bool all, .slice p ls.length c] 24 := Blk.new
  have HA : Hid _ := hA
  clear hA
  have hne : ∀ w, Nonempty (Ext w) := ext_some
  go_enter Tryd.func3, Tryd.ntmps3
  go_wp2_with (go_at_call 9; refine (shown_any _ (E.below hb1)).mono ?_; rintro e w2 ⟨rfl, hb2⟩; have e0 : w2.cell? ⟨w.heap.size, 0, none⟩ = some (.bool all) := (k1.keep hb2).cell 0; have e1 : w2.cell? ⟨w.heap.size, 1, none⟩ = some (.slice p ls.length c) := (k1.keep hb2).cell 1)
  have hB2 : Below w.heap.size w w2 := Below.thru hb1 hb2 (Nat.le_refl _)
  have k2 := k1.keep hb2
  have C := few_any all p c ls w2 (hl.keep hB2)
  cases hf : fewB ls
  · rw [hf] at C
    have C : Hid _ := C
    go_wp2_with (go_at_call 10; refine Calls.mono C.out ?_; rintro e w3 ⟨rfl, hb3⟩)
    go_ret
    exact ⟨rfl, Below.thru hB2 hb3 (Nat.le_refl _)⟩
  · rw [hf] at C
    have C : Hid _ := C
    obtain ⟨hz, hzl⟩ := few_yes hf
    clear hf
    by_cases h50 : 50 < os.length
    · have h50' : (50 : Int) < (os.length : Int) := by omega
      go_wp2_with (go_at_call 10; refine Calls.mono C.out ?_; rintro e w3 ⟨rfl, hb3⟩)
      go_ret
      exact ⟨rfl, Below.thru hB2 hb3 (Nat.le_refl _)⟩
    · have h50' : ¬ (50 : Int) < (os.length : Int) := by omega
      go_wp2_with (go_at_call 10; refine Calls.mono C.out ?_; rintro e w3 ⟨rfl, hb3⟩)
      clear C e0 e1
      have hB3 : Below w.heap.size w w3 := Below.thru hB2 hb3 (Nat.le_refl _)
      have k3 := k2.keep hb3
      have hl3 := hl.keep hB3
      have ho3 := ho.keep hB3
      have E3 := E.below hB3
      clear k1 k2 hb1 hb2 hb3 hB2
      go_loopw [6] (fun i wr => ∃ k : Nat, k ≤ os.length ∧ i = .int .i64 k ∧ Below w3.heap.size w3 wr) (fun i _ => os.length - (intOf i).toNat)
      case atStart => exact ⟨0, Nat.zero_le _, rfl, Below.refl _ _⟩
      case round =>
        obtain ⟨k, hk, rfl, hbr⟩ := hrel
        have kr := k3.keep hbr
        have e0 : wr.cell? ⟨w.heap.size, 0, none⟩ = some (.bool all) := kr.cell 0
        have e1 : wr.cell? ⟨w.heap.size, 1, none⟩ = some (.slice p ls.length c) := kr.cell 1
        have hz1 := cell_lt e0
        have hlr := hl3.keep hbr
        have hor := ho3.keep hbr
        have hBr : Below w.heap.size w wr := Below.thru hB3 hbr (Nat.le_refl _)
        by_cases hlt : k < os.length
        · obtain ⟨b, oo, rfl, u1, u2, f1, f2, hU1, hU2⟩ := (out_at hor).2 k hlt
          generalize hx : os[k] = x at hU1 hU2
          clear hx
          have hU : OutV wr u1 u2 x := ⟨hU1, hU2⟩
          obtain ⟨pu, cu, rfl⟩ := hU1.len
          obtain ⟨pv, cv, rfl⟩ := hU2.len
          have z2 := cell_lt f1
          have hlt' : (k : Int) < (os.length : Int) := by omega
          have HE : Hid (∀ q' d' w', Sl (SlE AtmE) w' (.slice q' ls.length d') ls → OutV w' (.slice pu x.regs.length cu) (.slice pv x.mem.length cv) x → Calls Tryd.prog 11 #[.agg #[.bool all, .slice q' ls.length d'], .agg #[.slice pu x.regs.length cu, .slice pv x.mem.length cv]] w' fun e w'' => e = .returned (.bool (evalB ls x)) ∧ Below w'.heap.size w' w'') := fun q' d' w' h1 h2 => Eval_any all q' d' ls _ _ x w' h1 h2 (by omega) (fun l hl => by have := hzl l hl; omega)
          have HR : Hid (∀ w', Sl (SlE AtmE) w' (.slice p ls.length c) ls → OutV w' (.slice pu x.regs.length cu) (.slice pv x.mem.length cv) x → Calls Tryd.prog 13 #[.agg #[.bool all, .slice p ls.length c], .agg #[.slice pu x.regs.length cu, .slice pv x.mem.length cv]] w' fun e w'' => e = .returned (.bool (evalB ls x)) ∧ Below w'.heap.size w' w'') := fun w' h1 h2 => refEval_any all p c ls _ _ x w' h1 h2 (by omega) (fun l hl => by have := hzl l hl; omega)
          have HM : Hid (∀ w', Sl (SlE AtmE) w' (.slice p ls.length c) ls → Calls Tryd.prog 12 #[.agg #[.bool all, .slice p ls.length c]] w' fun e w'' => ∃ q' d', e = .returned (.agg #[.bool all, .slice q' ls.length d']) ∧ SlA (fun b => w'.heap.size ≤ b) (SlE AtmE) w'' (.slice q' ls.length d') ls ∧ Below w'.heap.size w' w'') := fun w' h1 => made_any all p c ls w' h1 (by omega) (fun l hl => by have := hzl l hl; omega)
          cases hV : evalB ls x
          all_goals
            rw [hV] at HE HR
            clear hV
            go_wp2
            refine wp_region_mix [([0, 2, 3, 4, 5, 7, 8, 9, 10, 11], 1), ([], 6), ([], 12)] [13] (by kernel_rfl) (by kernel_rfl) (fun _ _ d _ _ h => by cases d <;> exact h) ?_
            dsimp only [List.map, opAt]
            have hD : Below wr.heap.size wr wr.drew := (Below.refl _ _).drew
            refine wpMix_stage ?_
            repeat (go_big_quiet_step (fail))
            refine wpQuiet_nil ?_
            go_wp2_with (go_at_call 12; refine Calls.mono (HM.out _ (hlr.keep hD)) ?_; rintro e w8 ⟨q8, d8, rfl, s8, hb8⟩)
            have hC8 : Below wr.heap.size wr w8 := hD.trans hb8
            refine ⟨hC8, ?_⟩
            refine wpMix_stage ?_
            refine wpQuiet_nil ?_
            go_wp2_with (go_at_call 11; refine Calls.mono (HE.out _ _ _ s8.any (hU.keep hC8)) ?_; rintro e w9 ⟨rfl, hb9⟩)
            have hC9 : Below wr.heap.size wr w9 := Below.thru hC8 hb9 (Nat.le_refl _)
            refine ⟨hC9, ?_⟩
            refine wpMix_stage ?_
            refine wpQuiet_nil ?_
            go_wp2_with (go_at_call 13; refine Calls.mono (HR.out _ (hlr.keep hC9) (hU.keep hC9)) ?_; rintro e w10 ⟨rfl, hb10⟩)
            have hC10 : Below wr.heap.size wr w10 := Below.thru hC9 hb10 (Nat.le_refl _)
            refine ⟨hC10, ?_⟩
            refine wpMix_last ?_
            repeat (go_big_quiet_step (fail))
            refine wpQuiet_nil ?_
            go_wp2
            go_roundw
            case rel => exact ⟨k + 1, by omega, by go_num, Below.thru hbr hC10 (Nat.le_refl _)⟩
            case measure => simp [intOf]; omega
        · have HM : Hid (∀ w', Sl (SlE AtmE) w' (.slice p ls.length c) ls → Calls Tryd.prog 12 #[.agg #[.bool all, .slice p ls.length c]] w' fun e w'' => ∃ q' d', e = .returned (.agg #[.bool all, .slice q' ls.length d']) ∧ SlA (fun b => w'.heap.size ≤ b) (SlE AtmE) w'' (.slice q' ls.length d') ls ∧ Below w'.heap.size w' w'') := fun w' h1 => made_any all p c ls w' h1 (by omega) (fun l hl => by have := hzl l hl; omega)
          have HV : Hid (∀ q' d' w', Sl (SlE AtmE) w' (.slice q' ls.length d') ls → Sl OutE w' (.slice q os.length d) os → Calls Tryd.prog 14 #[.agg #[.bool all, .slice q' ls.length d'], .slice q os.length d] w' fun e w'' => e = .returned (.bool (verdictB all ls os)) ∧ Below w'.heap.size w' w'') := fun q' d' w' h1 h2 => Verdict_any all q' q d' d ls os w' h1 h2 (by omega) (fun l hl => by have := hzl l hl; omega) (by omega)
          have HRV : Hid (∀ w', Sl (SlE AtmE) w' (.slice p ls.length c) ls → Sl OutE w' (.slice q os.length d) os → Calls Tryd.prog 15 #[.agg #[.bool all, .slice p ls.length c], .slice q os.length d] w' fun e w'' => e = .returned (.bool (verdictB all ls os)) ∧ Below w'.heap.size w' w'') := fun w' h1 h2 => refVerdict_any all p q c d ls os w' h1 h2 (by omega) (fun l hl => by have := hzl l hl; omega) (by omega)
          have HT : Hid (∀ q' d' w', Pow w' → Sl (SlE AtmE) w' (.slice q' ls.length d') ls → Calls Tryd.prog 16 #[.agg #[.bool all, .slice q' ls.length d']] w' fun e w'' => e = .returned (.string ⟨(condL all ls).toArray⟩) ∧ Below w'.heap.size w' w'') := fun q' d' w' h1 h2 => Text_any all q' d' ls w' h1 h2 HA.out (by omega) (fun l hl => by have := hzl l hl; omega)
          have HRT : Hid (∀ w', Sl (SlE AtmE) w' (.slice p ls.length c) ls → Calls Tryd.prog 17 #[.agg #[.bool all, .slice p ls.length c]] w' fun e w'' => e = .returned (.string ⟨(condL all ls).toArray⟩) ∧ Below w'.heap.size w' w'') := fun w' h1 => refText_any all p c ls w' h1 HA.out (by omega) (fun l hl => by have := hzl l hl; omega)
          obtain ⟨T, hT⟩ : ∃ T, condL all ls = T := ⟨_, rfl⟩
          rw [hT] at HT HRT
          have Er := E3.below hbr
          clear hT
          cases hV : verdictB all ls os
          all_goals
            rw [hV] at HV HRV
            clear hV
            go_wp2
            refine wp_region_mix [([0, 1, 2, 4, 6, 7], 3), ([], 5), ([], 8), ([9, 10, 11, 12, 15], 13), ([], 14), ([], 16)] [17, 18, 19] (by kernel_rfl) (by kernel_rfl) (fun _ _ d _ _ h => by cases d <;> exact h) ?_
            dsimp only [List.map, opAt]
            have hD : Below wr.heap.size wr wr.drew := (Below.refl _ _).drew
            refine wpMix_stage ?_
            repeat (go_big_quiet_step (fail))
            refine wpQuiet_nil ?_
            go_wp2_with (go_at_call 12; refine Calls.mono (HM.out _ (hlr.keep hD)) ?_; rintro e w8 ⟨q8, d8, rfl, s8, hb8⟩)
            have hC8 : Below wr.heap.size wr w8 := hD.trans hb8
            refine ⟨hC8, ?_⟩
            refine wpMix_stage ?_
            refine wpQuiet_nil ?_
            go_wp2_with (go_at_call 14; refine Calls.mono (HV.out _ _ _ s8.any (hor.keep hC8)) ?_; rintro e w9 ⟨rfl, hb9⟩)
            have hC9 : Below wr.heap.size wr w9 := Below.thru hC8 hb9 (Nat.le_refl _)
            refine ⟨hC9, ?_⟩
            refine wpMix_stage ?_
            refine wpQuiet_nil ?_
            go_wp2_with (go_at_call 15; refine Calls.mono (HRV.out _ (hlr.keep hC9) (hor.keep hC9)) ?_; rintro e w10 ⟨rfl, hb10⟩)
            have hC10 : Below wr.heap.size wr w10 := Below.thru hC9 hb10 (Nat.le_refl _)
            refine ⟨hC10, ?_⟩
            refine wpMix_stage ?_
            repeat (go_big_quiet_step (fail))
            refine wpQuiet_nil ?_
            go_wp2_with (go_at_call 12; refine Calls.mono (HM.out _ (hlr.keep hC10)) ?_; rintro e w11 ⟨q11, d11, rfl, s11, hb11⟩)
            have hC11 : Below wr.heap.size wr w11 := Below.thru hC10 hb11 (Nat.le_refl _)
            refine ⟨hC11, ?_⟩
            refine wpMix_stage ?_
            refine wpQuiet_nil ?_
            go_wp2_with (go_at_call 16; refine Calls.mono (HT.out _ _ _ (Er.below hC11) s11.any) ?_; rintro e w12 ⟨rfl, hb12⟩)
            have hC12 : Below wr.heap.size wr w12 := Below.thru hC11 hb12 (Nat.le_refl _)
            refine ⟨hC12, ?_⟩
            refine wpMix_stage ?_
            refine wpQuiet_nil ?_
            go_wp2_with (go_at_call 17; refine Calls.mono (HRT.out _ (hlr.keep hC12)) ?_; rintro e w13 ⟨rfl, hb13⟩)
            have hC13 : Below wr.heap.size wr w13 := Below.thru hC12 hb13 (Nat.le_refl _)
            refine ⟨hC13, ?_⟩
            refine wpMix_last ?_
            repeat (go_big_quiet_step (fail))
            refine wpQuiet_nil ?_
            go_wp2
            go_ret
            exact ⟨rfl, Below.thru hBr hC13 (Nat.le_refl _)⟩
end Go.Proofs.YtdealgleehbhlaaDoor
