/- Contracts of the document's answers: Eval and Verdict. -/
import Derived.Test.YtdealgleehbhlaaDoorCondRefEval
namespace Go.Proofs.YtdealgleehbhlaaDoor
open Go.RowKit
attribute [local go_sem] Ext.cell Ext.frozen

set_option maxHeartbeats 2000000 in
theorem refEval_any (all : Bool) (p : Option Addr) (c : Nat) (ls : List (List Atm)) (v1 v2 : Value) (o : Out) (w : World) (hl : Sl (SlE AtmE) w (.slice p ls.length c) ls) (ho : OutV w v1 v2 o) (hz : ls.length ≤ 1000000) (hzl : ∀ l ∈ ls, l.length ≤ 1000000) :
    Calls Tryd.prog 13 #[.agg #[.bool all, .slice p ls.length c], .agg #[v1, v2]] w fun e w' => e = .returned (.bool (evalB ls o)) ∧ Below w.heap.size w w' := by
  have hb1 := (((Below.refl w.heap.size w).alloc (Nat.le_refl _) (.cells #[.bool all, .slice p ls.length c] 24)).alloc (by simp) (.cells #[v1, v2] 36))
  have ho1 := ho.keep hb1
  have hl1 := hl.keep hb1
  obtain ⟨p1, c1, rfl⟩ := ho.1.len
  obtain ⟨p2, c2, rfl⟩ := ho.2.len
  have hne : ∀ w, Nonempty (Ext w) := ext_some
  have k0 : Blk ((w.alloc (.cells #[.bool all, .slice p ls.length c] 24)).alloc (.cells #[.slice p1 o.regs.length c1, .slice p2 o.mem.length c2] 36)) w.heap.size #[.bool all, .slice p ls.length c] 24 := Blk.new.alloc _
  have k1 : Blk ((w.alloc (.cells #[.bool all, .slice p ls.length c] 24)).alloc (.cells #[.slice p1 o.regs.length c1, .slice p2 o.mem.length c2] 36)) (w.heap.size + 1) #[.slice p1 o.regs.length c1, .slice p2 o.mem.length c2] 36 := Blk.newAt (by simp)
  go_enter Tryd.func13, Tryd.ntmps13
  go_wp2
  generalize (w.alloc (.cells #[.bool all, .slice p ls.length c] 24)).alloc (.cells #[.slice p1 o.regs.length c1, .slice p2 o.mem.length c2] 36) = w1 at *
  go_loopw [5] (fun i wr => ∃ k : Nat, k ≤ ls.length ∧ i = .int .i64 k ∧ evalB (ls.drop k) o = evalB ls o ∧ Below w1.heap.size w1 wr) (fun i _ => ls.length - (intOf i).toNat)
  case atStart => exact ⟨0, Nat.zero_le _, rfl, rfl, Below.refl _ _⟩
  case round =>
    obtain ⟨k, hk, rfl, hF, hbr⟩ := hrel
    have HF : Hid _ := hF
    clear hF
    have hbw : Below w.heap.size w wr := Below.thru hb1 hbr (Nat.le_refl _)
    have e0 : wr.cell? ⟨w.heap.size, 1, none⟩ = some (.slice p ls.length c) := (k0.keep hbr).cell 1
    obtain ⟨w2, rfl⟩ : ∃ x : World, x = wr := ⟨_, rfl⟩
    by_cases hlt : k < ls.length
    · obtain ⟨b, oo, rfl, u, hu, hU⟩ := (sl_at (hl1.keep hbr)).2 k hlt
      have hzx := hzl _ (List.getElem_mem hlt)
      generalize hx : ls[k] = x at hU hzx
      have HX : Hid (ls.drop k = x :: ls.drop (k + 1)) := by rw [← hx]; exact drop_at hlt
      clear hx
      obtain ⟨pu, cu, rfl⟩ := hU.len
      have hlt' : (k : Int) < (ls.length : Int) := by omega
      go_wp2
      go_loopw [6, 7] (fun f i wr => ∃ (j : Nat) (acc : Bool), j ≤ x.length ∧ f = .bool acc ∧ i = .int .i64 j ∧ (acc && (x.drop j).all fun a => holdsB a o) = x.all (fun a => holdsB a o) ∧ Below w2.heap.size w2 wr) (fun _ i _ => x.length - (intOf i).toNat)
      case atStart => exact ⟨0, true, Nat.zero_le _, rfl, rfl, rfl, Below.refl _ _⟩
      case round =>
        obtain ⟨j, acc, hj, rfl, rfl, hG, hbs⟩ := hrel
        have HG : Hid _ := hG
        clear hG
        have hbs1 : Below w1.heap.size w1 wr := Below.thru hbr hbs (Nat.le_refl _)
        have f0 : wr.cell? ⟨w.heap.size, 1, none⟩ = some (.slice (some ⟨b, oo, none⟩) ls.length c) := (k0.keep hbs1).cell 1
        have f1 : wr.cell? ⟨w.heap.size + 1, 0, none⟩ = some (.slice p1 o.regs.length c1) := (k1.keep hbs1).cell 0
        have f2 : wr.cell? ⟨w.heap.size + 1, 1, none⟩ = some (.slice p2 o.mem.length c2) := (k1.keep hbs1).cell 1
        have f3 := cell_keep hu hbs
        have z1 := cell_lt f0
        have z2 := cell_lt f1
        have z3 := cell_lt f3
        by_cases hjl : j < x.length
        · obtain ⟨b2, o2, rfl, g1, g2, g3, g4⟩ := (atm_at (hU.keep hbs)).2 j hjl
          have z4 := cell_lt g1
          generalize hy : x[j] = y at g1 g2 g3 g4
          have HY : Hid (x.drop j = y :: x.drop (j + 1)) := by rw [← hy]; exact drop_at hjl
          clear hy
          have hjl' : (j : Int) < (x.length : Int) := by omega
          cases acc
          · have HG' : Hid ((false && (x.drop (j + 1)).all fun a => holdsB a o) = x.all (fun a => holdsB a o)) := by have := HG.out; rw [← this]; rfl
            go_wp2
            refine wp_region_ext (by kernel_rfl) (by kernel_rfl) ?_
            repeat (go_big_quiet_step (fail))
            refine wpQuiet_nil ?_
            rintro _ ⟨q, rfl⟩
            go_wp2
            go_roundw
            case rel => exact ⟨j + 1, false, by omega, rfl, by go_num, HG'.out, Below.thru hbs q.ok (Nat.le_refl _)⟩
            case measure => simp [intOf]; omega
          · have HC := fun q : Ext wr => refHolds_any y _ _ o q.wd ((ho1.keep hbs1).keep q.ok)
            unfold Atm.v at HC
            obtain ⟨s, hs⟩ : ∃ s, holdsB y o = s := ⟨_, rfl⟩
            rw [hs] at HC
            have HC : Hid _ := HC
            have HG' : Hid ((s && (x.drop (j + 1)).all fun a => holdsB a o) = x.all (fun a => holdsB a o)) := by have := HG.out; rw [all_step HY.out, hs] at this; rw [← this]; rfl
            clear hs
            go_wp2
            refine wp_region_ext (by kernel_rfl) (by kernel_rfl) ?_
            repeat (go_big_quiet_step ((go_at_call 26; exact calls_ext (HC.out _))))
            refine wpQuiet_nil ?_
            rintro _ ⟨q, rfl⟩
            go_wp2
            go_roundw
            case rel => exact ⟨j + 1, s, by omega, rfl, by go_num, HG'.out, Below.thru hbs q.ok (Nat.le_refl _)⟩
            case measure => simp [intOf]; omega
        · have HG' : Hid (acc = x.all fun a => holdsB a o) := by have := HG.out; rw [List.drop_of_length_le (by omega)] at this; rw [← this]; simp [Hid]
          cases acc
          · have HE : Hid (evalB (ls.drop (k + 1)) o = evalB ls o) := by rw [← HF.out, any_step HX.out, ← HG'.out]; rfl
            go_wp2
            go_roundw
            case rel => exact ⟨k + 1, by omega, by go_num, HE.out, hbs1⟩
            case measure => simp [intOf]; omega
          · have HE : Hid (evalB ls o = true) := by rw [← HF.out, any_step HX.out, ← HG'.out]; rfl
            go_wp2
            go_ret
            exact ⟨by rw [HE.out]; rfl, Below.thru hb1 hbs1 (Nat.le_refl _)⟩
    · have HE : Hid (evalB ls o = false) := by rw [← HF.out, List.drop_of_length_le (by omega)]; rfl
      go_wp2
      go_ret
      exact ⟨by rw [HE.out]; rfl, hbw⟩

theorem verdict_all {ls : List (List Atm)} {os : List Out} : verdictB true ls os = decide (os.countP (evalB ls) = os.length) := by
  unfold verdictB
  rw [Bool.eq_iff_iff]
  simp only [cond_true, decide_eq_true_eq, List.countP_eq_length, List.all_eq_true]
theorem verdict_some {ls : List (List Atm)} {os : List Out} : verdictB false ls os = decide (0 < os.countP (evalB ls)) := by
  unfold verdictB
  rw [Bool.eq_iff_iff]
  simp only [cond_false, decide_eq_true_eq, List.countP_pos_iff, List.any_eq_true]

set_option maxHeartbeats 2000000 in
theorem refVerdict_any (all : Bool) (p q : Option Addr) (c d : Nat) (ls : List (List Atm)) (os : List Out) (w : World) (hl : Sl (SlE AtmE) w (.slice p ls.length c) ls) (ho : Sl OutE w (.slice q os.length d) os) (hz : ls.length ≤ 1000000) (hzl : ∀ l ∈ ls, l.length ≤ 1000000) (hzo : os.length ≤ 1000000) :
    Calls Tryd.prog 15 #[.agg #[.bool all, .slice p ls.length c], .slice q os.length d] w fun e w' => e = .returned (.bool (verdictB all ls os)) ∧ Below w.heap.size w w' := by
  have hb1 := (Below.refl w.heap.size w).alloc (Nat.le_refl _) (.cells #[.bool all, .slice p ls.length c] 24)
  have ho1 := ho.keep hb1
  have hl1 := hl.keep hb1
  have k1 : Blk (w.alloc (.cells #[.bool all, .slice p ls.length c] 24)) w.heap.size #[.bool all, .slice p ls.length c] 24 := Blk.new
  have hne : ∀ w, Nonempty (Ext w) := ext_some
  go_enter Tryd.func15, Tryd.ntmps15
  go_wp2
  generalize w.alloc (.cells #[.bool all, .slice p ls.length c] 24) = w1 at *
  go_loopw [5, 6] (fun f i wr => ∃ k n : Nat, (k ≤ os.length ∧ n ≤ k) ∧ f = .int .i64 n ∧ i = .int .i64 k ∧ n + (os.drop k).countP (evalB ls) = os.countP (evalB ls) ∧ Below w1.heap.size w1 wr) (fun _ i _ => os.length - (intOf i).toNat)
  case atStart => exact ⟨0, 0, ⟨Nat.zero_le _, Nat.le_refl _⟩, rfl, rfl, by simp, Below.refl _ _⟩
  case round =>
    obtain ⟨k, n, hk, rfl, rfl, hF, hbr⟩ := hrel
    have HF : Hid _ := hF
    clear hF
    have hbw : Below w.heap.size w wr := Below.thru hb1 hbr (Nat.le_refl _)
    have e1 : wr.cell? ⟨w.heap.size, 0, none⟩ = some (.bool all) := (k1.keep hbr).cell 0
    have e2 : wr.cell? ⟨w.heap.size, 1, none⟩ = some (.slice p ls.length c) := (k1.keep hbr).cell 1
    have hz1 := cell_lt e1
    by_cases hlt : k < os.length
    · obtain ⟨b, oo, rfl, u1, u2, f1, f2, hU1, hU2⟩ := (out_at (ho1.keep hbr)).2 k hlt
      generalize hx : os[k] = x at hU1 hU2
      have HX : Hid (os.drop k = x :: os.drop (k + 1)) := by rw [← hx]; exact drop_at hlt
      clear hx
      have hU : OutV wr u1 u2 x := ⟨hU1, hU2⟩
      obtain ⟨pu, cu, rfl⟩ := hU1.len
      obtain ⟨pv, cv, rfl⟩ := hU2.len
      have z2 := cell_lt f1
      have hlt' : (k : Int) < (os.length : Int) := by omega
      have HC := fun q : Ext wr => refEval_any all p c ls _ _ x q.wd ((hl1.keep hbr).keep q.ok) (hU.keep q.ok) hz hzl
      have hF := HF.out
      rw [HX.out, List.countP_cons] at hF
      clear hU hU1 hU2
      cases hh : evalB ls x
      · rw [hh] at HC hF
        have HC : Hid _ := HC
        have HF' : Hid (n + (os.drop (k + 1)).countP (evalB ls) = os.countP (evalB ls)) := by unfold Hid; simpa using hF
        clear hh hF
        go_wp2
        refine wp_region_ext (by kernel_rfl) (by kernel_rfl) ?_
        repeat (go_big_quiet_step ((go_at_call 13; exact calls_ext (HC.out _))))
        refine wpQuiet_nil ?_
        rintro _ ⟨r, rfl⟩
        go_wp2
        go_roundw
        case rel => exact ⟨k + 1, n, ⟨by omega, by omega⟩, rfl, by go_num, HF'.out, Below.thru hbr r.ok (Nat.le_refl _)⟩
        case measure => simp [intOf]; omega
      · rw [hh] at HC hF
        have HC : Hid _ := HC
        have HF' : Hid (n + 1 + (os.drop (k + 1)).countP (evalB ls) = os.countP (evalB ls)) := by rw [if_pos rfl] at hF; unfold Hid; omega
        clear hh hF
        go_wp2
        refine wp_region_ext (by kernel_rfl) (by kernel_rfl) ?_
        repeat (go_big_quiet_step ((go_at_call 13; exact calls_ext (HC.out _))))
        refine wpQuiet_nil ?_
        rintro _ ⟨r, rfl⟩
        go_wp2
        go_roundw
        case rel => exact ⟨k + 1, n + 1, ⟨by omega, by omega⟩, by go_num, by go_num, HF'.out, Below.thru hbr r.ok (Nat.le_refl _)⟩
        case measure => simp [intOf]; omega
    · have HN : Hid (os.countP (evalB ls) = n) := by have := HF.out; rw [List.drop_of_length_le (by omega)] at this; unfold Hid; simpa using this.symm
      cases all
      · have HE : Hid (verdictB false ls os = decide (0 < n)) := by rw [verdict_some, HN.out]; rfl
        by_cases h0 : 0 < n
        · have h0' : (0 : Int) < (n : Int) := by omega
          have HE : Hid (verdictB false ls os = true) := by rw [HE.out]; exact decide_eq_true h0
          go_wp2
          go_ret
          exact ⟨by rw [HE.out]; rfl, hbw⟩
        · have h0' : ¬ (0 : Int) < (n : Int) := by omega
          have HE : Hid (verdictB false ls os = false) := by rw [HE.out]; exact decide_eq_false h0
          go_wp2
          go_ret
          exact ⟨by rw [HE.out]; rfl, hbw⟩
      · have HE : Hid (verdictB true ls os = decide (n = os.length)) := by rw [verdict_all, HN.out]; rfl
        by_cases h0 : n = os.length
        · have h0' : ((n : Int) == (os.length : Int)) = true := by simp only [beq_iff_eq]; omega
          have HE : Hid (verdictB true ls os = true) := by rw [HE.out]; exact decide_eq_true h0
          clear h0
          go_wp2
          go_ret
          exact ⟨by rw [HE.out]; rfl, hbw⟩
        · have h0' : ((n : Int) == (os.length : Int)) = false := by simp only [beq_eq_false_iff_ne, ne_eq]; omega
          have HE : Hid (verdictB true ls os = false) := by rw [HE.out]; exact decide_eq_false h0
          clear h0
          go_wp2
          go_ret
          exact ⟨by rw [HE.out]; rfl, hbw⟩
end Go.Proofs.YtdealgleehbhlaaDoor
