/- Contracts of the document's answers: Holds, Eval and Verdict. -/
import Derived.Test.YtdealgleehbhlaaDoorCondEval2
namespace Go.Proofs.YtdealgleehbhlaaDoor
open Go.RowKit
attribute [local go_sem] Ext.cell Ext.frozen

theorem at_cases (l : List Int) (i : Int) : (i < 0 ∧ atL l i = 0) ∨ (¬ i < 0 ∧ (l.length : Int) ≤ i ∧ atL l i = 0) ∨ ∃ k : Nat, i = k ∧ ∃ h : k < l.length, atL l i = l[k] := by
  unfold atL
  by_cases h : i < 0
  · exact .inl ⟨h, by rw [if_pos h]⟩
  · by_cases h2 : i < l.length
    · refine .inr (.inr ⟨i.toNat, by omega, by omega, ?_⟩)
      rw [if_neg h]
      simp [show i.toNat < l.length by omega]
    · refine .inr (.inl ⟨h, by omega, ?_⟩)
      rw [if_neg h]
      simp [List.getD, List.getElem?_eq_none (show l.length ≤ i.toNat by omega)]

set_option maxHeartbeats 2000000 in
theorem refValue_any (a : Atm) (v1 v2 : Value) (o : Out) (w : World) (ho : OutV w v1 v2 o) :
    Calls Tryd.prog 39 #[a.v, .agg #[v1, v2]] w fun e w' => e = .returned (.int .i64 (valO a o)) ∧ Below w.heap.size w w' := by
  obtain ⟨t, pos, val, neg⟩ := a
  obtain ⟨xs, ms⟩ := o
  have hb1 := (((Below.refl w.heap.size w).alloc (Nat.le_refl _) (.cells #[.int .i64 t, .int .i64 pos, .int .i64 val, .bool neg] 48)).alloc (by simp) (.cells #[v1, v2] 36))
  obtain ⟨sx, sm⟩ : Sl (SlE IntE) _ v1 xs ∧ Sl IntE _ v2 ms := ho.keep hb1
  obtain ⟨p1, c1, rfl⟩ := sx.len
  obtain ⟨p2, c2, rfl⟩ := sm.len
  unfold Atm.v
  dsimp only
  clear ho
  by_cases h : t = -1
  · subst h
    have E : valO ⟨-1, pos, val, neg⟩ ⟨xs, ms⟩ = atL ms pos := valO_mem rfl
    have hh : ((-1 : Int) != -1) = false := rfl
    rcases at_cases ms pos with ⟨g, e⟩ | ⟨g, g2, e⟩ | ⟨k, rfl, hk, e⟩
    · have HE : Hid _ := E.trans e
      clear E e sx sm
      go_enter Tryd.func39, Tryd.ntmps39
      go_wp2
      go_ret
      exact ⟨by rw [HE.out]; rfl, hb1⟩
    · have HE : Hid _ := E.trans e
      clear E e sx sm
      go_enter Tryd.func39, Tryd.ntmps39
      go_wp2
      go_ret
      exact ⟨by rw [HE.out]; rfl, hb1⟩
    · have HE : Hid _ := E.trans e
      obtain ⟨b, oo, rfl, hu⟩ := (ints_at sm).2 k hk
      have hlt : (k : Int) < (ms.length : Int) := by omega
      generalize ms[k] = x at *
      clear E e sx sm
      go_enter Tryd.func39, Tryd.ntmps39
      go_wp2
      go_ret
      exact ⟨by rw [HE.out]; rfl, hb1⟩
  · have hh : (t != -1) = true := by simpa using h
    have E : valO ⟨t, pos, val, neg⟩ ⟨xs, ms⟩ = atL (atR xs t) pos := valO_reg h
    by_cases h1 : t < 0
    · have HE : Hid (valO ⟨t, pos, val, neg⟩ ⟨xs, ms⟩ = 0) := by
        have h0 : atL [] pos = 0 := by simp [atL]
        rw [E, atR, if_pos h1]; exact h0
      clear E sx sm
      go_enter Tryd.func39, Tryd.ntmps39
      go_wp2
      go_ret
      exact ⟨by rw [HE.out]; rfl, hb1⟩
    · by_cases h2 : (xs.length : Int) ≤ t
      · have HE : Hid (valO ⟨t, pos, val, neg⟩ ⟨xs, ms⟩ = 0) := by
          have h0 : atL [] pos = 0 := by simp [atL]
          rw [E, atR, if_neg h1, List.getD, List.getElem?_eq_none (by omega)]; exact h0
        clear E sx sm
        go_enter Tryd.func39, Tryd.ntmps39
        go_wp2
        go_ret
        exact ⟨by rw [HE.out]; rfl, hb1⟩
      · obtain ⟨j, rfl⟩ : ∃ j : Nat, t = j := ⟨t.toNat, by omega⟩
        have hj : j < xs.length := by omega
        obtain ⟨b1, o1, rfl, u, hu1, hU⟩ := (sl_at sx).2 j hj
        rw [atR, if_neg h1, Int.toNat_natCast, show xs.getD j [] = xs[j] by simp [hj]] at E
        generalize xs[j] = y at *
        obtain ⟨pu, cu, rfl⟩ := hU.len
        have hlj : (j : Int) < (xs.length : Int) := by omega
        rcases at_cases y pos with ⟨g, e⟩ | ⟨g, g2, e⟩ | ⟨k, rfl, hk, e⟩
        · have HE : Hid _ := E.trans e
          clear E e sx sm hU
          go_enter Tryd.func39, Tryd.ntmps39
          go_wp2
          go_ret
          exact ⟨by rw [HE.out]; rfl, hb1⟩
        · have HE : Hid _ := E.trans e
          clear E e sx sm hU
          go_enter Tryd.func39, Tryd.ntmps39
          go_wp2
          go_ret
          exact ⟨by rw [HE.out]; rfl, hb1⟩
        · have HE : Hid _ := E.trans e
          obtain ⟨b, oo, rfl, hu⟩ := (ints_at hU).2 k hk
          have hlt : (k : Int) < (y.length : Int) := by omega
          generalize y[k] = x at *
          clear E e sx sm hU
          go_enter Tryd.func39, Tryd.ntmps39
          go_wp2
          go_ret
          exact ⟨by rw [HE.out]; rfl, hb1⟩

set_option maxHeartbeats 1000000 in
theorem refHolds_any (a : Atm) (v1 v2 : Value) (o : Out) (w : World) (ho : OutV w v1 v2 o) :
    Calls Tryd.prog 26 #[a.v, .agg #[v1, v2]] w fun e w' => e = .returned (.bool (holdsB a o)) ∧ Below w.heap.size w w' := by
  have hb1 := (((Below.refl w.heap.size w).alloc (Nat.le_refl _) (.cells #[.int .i64 a.thr, .int .i64 a.pos, .int .i64 a.val, .bool a.neg] 48)).alloc (by simp) (.cells #[v1, v2] 36))
  have ho1 := ho.keep hb1
  have HC := fun q : Ext _ => refValue_any a v1 v2 o q.wd (ho1.keep q.ok)
  obtain ⟨p1, c1, rfl⟩ := ho.1.len
  obtain ⟨p2, c2, rfl⟩ := ho.2.len
  unfold holdsB
  obtain ⟨s, hs⟩ : ∃ s, valO a o = s := ⟨_, rfl⟩
  rw [hs] at HC ⊢
  unfold Atm.v at HC ⊢
  have HC : Hid _ := HC
  clear ho1 hs ho
  have hne : ∀ w, Nonempty (Ext w) := ext_some
  cases h2 : a.neg
  all_goals
    rw [h2] at HC hb1
    go_enter Tryd.func26, Tryd.ntmps26
    go_wp2
    refine wp_region_ext (by kernel_rfl) (by kernel_rfl) ?_
    repeat (go_big_quiet_step ((go_at_call 39; exact calls_ext (HC.out _))))
    refine wpQuiet_nil ?_
    rintro _ ⟨q, rfl⟩
    go_wp2
    go_ret
    exact ⟨rfl, hb1.trans (q.ok.mono hb1.size)⟩
end Go.Proofs.YtdealgleehbhlaaDoor
