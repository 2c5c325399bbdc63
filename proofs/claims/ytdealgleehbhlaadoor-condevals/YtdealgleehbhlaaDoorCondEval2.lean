/- Contracts of cond's Holds, allHold, Eval and Verdict. -/
import Derived.Test.YtdealgleehbhlaaDoorCondEval
namespace Go.Proofs.YtdealgleehbhlaaDoor
open Go.RowKit
attribute [local go_sem] Ext.cell Ext.frozen

theorem holdsB_ne (a : Atm) (o : Out) : holdsB a o = ((valO a o == a.val) != a.neg) := by
  unfold holdsB
  cases a.neg <;> cases (valO a o == a.val) <;> rfl

set_option maxHeartbeats 1000000 in
theorem Holds_any (a : Atm) (v1 v2 : Value) (o : Out) (w : World) (ho : OutV w v1 v2 o) :
    Calls Tryd.prog 24 #[a.v, .agg #[v1, v2]] w fun e w' => e = .returned (.bool (holdsB a o)) ∧ Below w.heap.size w w' := by
  have hb1 := (((Below.refl w.heap.size w).alloc (Nat.le_refl _) (.cells #[.int .i64 a.thr, .int .i64 a.pos, .int .i64 a.val, .bool a.neg] 49)).alloc (by simp) (.cells #[v1, v2] 36))
  have ho1 := ho.keep hb1
  have HC := fun q : Ext _ => value_any a v1 v2 o q.wd (ho1.keep q.ok)
  obtain ⟨p1, c1, rfl⟩ := ho.1.len
  obtain ⟨p2, c2, rfl⟩ := ho.2.len
  rw [holdsB_ne]
  obtain ⟨s, hs⟩ : ∃ s, valO a o = s := ⟨_, rfl⟩
  rw [hs] at HC ⊢
  unfold Atm.v at HC ⊢
  have HC : Hid _ := HC
  clear ho1 hs ho
  have hne : ∀ w, Nonempty (Ext w) := ext_some
  cases h1 : (s == a.val) <;> cases h2 : a.neg
  all_goals
    rw [h2] at HC hb1
    go_enter Tryd.func24, Tryd.ntmps24
    go_wp2
    refine wp_region_ext (by kernel_rfl) (by kernel_rfl) ?_
    repeat (go_big_quiet_step ((go_at_call 38; exact calls_ext (HC.out _))))
    refine wpQuiet_nil ?_
    rintro _ ⟨q, rfl⟩
    go_wp2
    go_ret
    exact ⟨rfl, hb1.trans (q.ok.mono hb1.size)⟩

theorem all_step {a : Atm} {l r : List Atm} {k : Nat} {o : Out} (h : l.drop k = a :: r) : (l.drop k).all (fun a => holdsB a o) = (holdsB a o && r.all fun a => holdsB a o) := by rw [h]; rfl

set_option maxHeartbeats 1000000 in
theorem allHold_any (p : Option Addr) (c : Nat) (l : List Atm) (v1 v2 : Value) (o : Out) (w : World) (hl : Sl AtmE w (.slice p l.length c) l) (ho : OutV w v1 v2 o) (hz : l.length ≤ 1000000) :
    Calls Tryd.prog 25 #[.slice p l.length c, .agg #[v1, v2]] w fun e w' => e = .returned (.bool (l.all fun a => holdsB a o)) ∧ Below w.heap.size w w' := by
  have hb1 := (Below.refl w.heap.size w).alloc (Nat.le_refl _) (.cells #[v1, v2] 36)
  have ho1 := ho.keep hb1
  have hl1 := hl.keep hb1
  obtain ⟨p1, c1, rfl⟩ := ho.1.len
  obtain ⟨p2, c2, rfl⟩ := ho.2.len
  have k1 : Blk (w.alloc (.cells #[.slice p1 o.regs.length c1, .slice p2 o.mem.length c2] 36)) w.heap.size #[.slice p1 o.regs.length c1, .slice p2 o.mem.length c2] 36 := Blk.new
  go_enter Tryd.func25, Tryd.ntmps25
  go_wp2
  generalize w.alloc (.cells #[.slice p1 o.regs.length c1, .slice p2 o.mem.length c2] 36) = w1 at *
  go_loopw [9] (fun i wr => ∃ k : Nat, k ≤ l.length ∧ i = .int .i64 k ∧ (l.drop k).all (fun a => holdsB a o) = l.all (fun a => holdsB a o) ∧ Below w1.heap.size w1 wr) (fun i _ => l.length - (intOf i).toNat)
  case atStart => exact ⟨0, Nat.zero_le _, rfl, rfl, Below.refl _ _⟩
  case round =>
    obtain ⟨k, hk, rfl, hF, hbr⟩ := hrel
    have HF : Hid _ := hF
    clear hF
    have hbw : Below w.heap.size w wr := Below.thru hb1 hbr (Nat.le_refl _)
    by_cases hlt : k < l.length
    · obtain ⟨b, oo, rfl, f1, f2, f3, f4⟩ := (atm_at (hl1.keep hbr)).2 k hlt
      generalize hx : l[k] = x at f1 f2 f3 f4
      have HX : Hid (l.drop k = x :: l.drop (k + 1)) := by rw [← hx]; exact drop_at hlt
      clear hx
      have e1 : wr.cell? ⟨w.heap.size, 0, none⟩ = some (.slice p1 o.regs.length c1) := (k1.keep hbr).cell 0
      have e2 : wr.cell? ⟨w.heap.size, 1, none⟩ = some (.slice p2 o.mem.length c2) := (k1.keep hbr).cell 1
      have hlt' : (k : Int) < (l.length : Int) := by omega
      have hz1 := cell_lt e1
      have hb2 := (Below.refl wr.heap.size wr).alloc (Nat.le_refl _) (.cells #[.int .i64 x.thr, .int .i64 x.pos, .int .i64 x.val, .bool x.neg] 49)
      have HC := Holds_any x _ _ o _ ((ho1.keep hbr).keep hb2)
      cases hh : holdsB x o
      · rw [hh] at HC
        have HE : Hid (l.all (fun a => holdsB a o) = false) := by rw [← HF.out, all_step HX.out, hh]; rfl
        have HC : Hid _ := HC
        clear hh
        go_wp2_with (go_at_call 24; refine Calls.mono HC.out ?_; rintro e w3 ⟨rfl, hb3⟩)
        go_ret
        exact ⟨by rw [HE.out]; rfl, Below.thru hbw (Below.thru hb2 hb3 (Nat.le_refl _)) (Nat.le_refl _)⟩
      · rw [hh] at HC
        have HE : Hid ((l.drop (k + 1)).all (fun a => holdsB a o) = l.all (fun a => holdsB a o)) := by rw [← HF.out, all_step HX.out, hh]; rfl
        have HC : Hid _ := HC
        clear hh
        go_wp2_with (go_at_call 24; refine Calls.mono HC.out ?_; rintro e w3 ⟨rfl, hb3⟩)
        go_roundw
        case rel => exact ⟨k + 1, by omega, by go_num, HE.out, Below.thru hbr (Below.thru hb2 hb3 (Nat.le_refl _)) (Nat.le_refl _)⟩
        case measure => simp [intOf]; omega
    · have HE : Hid (l.all (fun a => holdsB a o) = true) := by rw [← HF.out, List.drop_of_length_le (by omega)]; rfl
      go_wp2
      go_ret
      exact ⟨by rw [HE.out]; rfl, hbw⟩

theorem any_step {a : List Atm} {l r : List (List Atm)} {k : Nat} {o : Out} (h : l.drop k = a :: r) : evalB (l.drop k) o = (a.all (fun a => holdsB a o) || evalB r o) := by rw [h]; rfl

/-- A condition as a value. -/
def condV (all : Bool) (v : Value) : Value := .agg #[.bool all, v]

set_option maxHeartbeats 1000000 in
theorem Eval_any (all : Bool) (p : Option Addr) (c : Nat) (ls : List (List Atm)) (v1 v2 : Value) (o : Out) (w : World) (hl : Sl (SlE AtmE) w (.slice p ls.length c) ls) (ho : OutV w v1 v2 o) (hz : ls.length ≤ 1000000) (hzl : ∀ l ∈ ls, l.length ≤ 1000000) :
    Calls Tryd.prog 11 #[.agg #[.bool all, .slice p ls.length c], .agg #[v1, v2]] w fun e w' => e = .returned (.bool (evalB ls o)) ∧ Below w.heap.size w w' := by
  have hb1 := (((Below.refl w.heap.size w).alloc (Nat.le_refl _) (.cells #[.bool all, .slice p ls.length c] 31)).alloc (by simp) (.cells #[v1, v2] 36))
  have ho1 := ho.keep hb1
  have hl1 := hl.keep hb1
  obtain ⟨p1, c1, rfl⟩ := ho.1.len
  obtain ⟨p2, c2, rfl⟩ := ho.2.len
  have k1 : Blk ((w.alloc (.cells #[.bool all, .slice p ls.length c] 31)).alloc (.cells #[.slice p1 o.regs.length c1, .slice p2 o.mem.length c2] 36)) (w.heap.size + 1) #[.slice p1 o.regs.length c1, .slice p2 o.mem.length c2] 36 := Blk.newAt (by simp)
  go_enter Tryd.func11, Tryd.ntmps11
  go_wp2
  generalize (w.alloc (.cells #[.bool all, .slice p ls.length c] 31)).alloc (.cells #[.slice p1 o.regs.length c1, .slice p2 o.mem.length c2] 36) = w1 at *
  go_loopw [10] (fun i wr => ∃ k : Nat, k ≤ ls.length ∧ i = .int .i64 k ∧ evalB (ls.drop k) o = evalB ls o ∧ Below w1.heap.size w1 wr) (fun i _ => ls.length - (intOf i).toNat)
  case atStart => exact ⟨0, Nat.zero_le _, rfl, rfl, Below.refl _ _⟩
  case round =>
    obtain ⟨k, hk, rfl, hF, hbr⟩ := hrel
    have HF : Hid _ := hF
    clear hF
    have hbw : Below w.heap.size w wr := Below.thru hb1 hbr (Nat.le_refl _)
    by_cases hlt : k < ls.length
    · obtain ⟨b, oo, rfl, u, hu, hU⟩ := (sl_at (hl1.keep hbr)).2 k hlt
      have hzx := hzl _ (List.getElem_mem hlt)
      generalize hx : ls[k] = x at hU hzx
      have HX : Hid (ls.drop k = x :: ls.drop (k + 1)) := by rw [← hx]; exact drop_at hlt
      clear hx
      obtain ⟨pu, cu, rfl⟩ := hU.len
      have e1 : wr.cell? ⟨w.heap.size + 1, 0, none⟩ = some (.slice p1 o.regs.length c1) := (k1.keep hbr).cell 0
      have e2 : wr.cell? ⟨w.heap.size + 1, 1, none⟩ = some (.slice p2 o.mem.length c2) := (k1.keep hbr).cell 1
      have hlt' : (k : Int) < (ls.length : Int) := by omega
      have HC := allHold_any pu cu x _ _ o _ hU (ho1.keep hbr) hzx
      cases hh : x.all fun a => holdsB a o
      · rw [hh] at HC
        have HE : Hid (evalB (ls.drop (k + 1)) o = evalB ls o) := by rw [← HF.out, any_step HX.out, hh]; rfl
        have HC : Hid _ := HC
        clear hh
        go_wp2_with (go_at_call 25; refine Calls.mono HC.out ?_; rintro e w3 ⟨rfl, hb3⟩)
        go_roundw
        case rel => exact ⟨k + 1, by omega, by go_num, HE.out, Below.thru hbr hb3 (Nat.le_refl _)⟩
        case measure => simp [intOf]; omega
      · rw [hh] at HC
        have HE : Hid (evalB ls o = true) := by rw [← HF.out, any_step HX.out, hh]; rfl
        have HC : Hid _ := HC
        clear hh
        go_wp2_with (go_at_call 25; refine Calls.mono HC.out ?_; rintro e w3 ⟨rfl, hb3⟩)
        go_ret
        exact ⟨by rw [HE.out]; rfl, Below.thru hbw hb3 (Nat.le_refl _)⟩
    · have HE : Hid (evalB ls o = false) := by rw [← HF.out, List.drop_of_length_le (by omega)]; rfl
      go_wp2
      go_ret
      exact ⟨by rw [HE.out]; rfl, hbw⟩

theorem verdict_step {all : Bool} {ls : List (List Atm)} {o : Out} {l r : List Out} {k : Nat} (h : l.drop k = o :: r) : verdictB all ls (l.drop k) = if evalB ls o = all then verdictB all ls r else !all := by
  rw [h]
  unfold verdictB
  cases all <;> cases hh : evalB ls o <;> simp [hh]

set_option maxHeartbeats 1000000 in
theorem Verdict_any (all : Bool) (p q : Option Addr) (c d : Nat) (ls : List (List Atm)) (os : List Out) (w : World) (hl : Sl (SlE AtmE) w (.slice p ls.length c) ls) (ho : Sl OutE w (.slice q os.length d) os) (hz : ls.length ≤ 1000000) (hzl : ∀ l ∈ ls, l.length ≤ 1000000) (hzo : os.length ≤ 1000000) :
    Calls Tryd.prog 14 #[.agg #[.bool all, .slice p ls.length c], .slice q os.length d] w fun e w' => e = .returned (.bool (verdictB all ls os)) ∧ Below w.heap.size w w' := by
  have hb1 := (Below.refl w.heap.size w).alloc (Nat.le_refl _) (.cells #[.bool all, .slice p ls.length c] 31)
  have ho1 := ho.keep hb1
  have hl1 := hl.keep hb1
  have k1 : Blk (w.alloc (.cells #[.bool all, .slice p ls.length c] 31)) w.heap.size #[.bool all, .slice p ls.length c] 31 := Blk.new
  have hne : ∀ w, Nonempty (Ext w) := ext_some
  go_enter Tryd.func14, Tryd.ntmps14
  go_wp2
  generalize w.alloc (.cells #[.bool all, .slice p ls.length c] 31) = w1 at *
  go_loopw [9] (fun i wr => ∃ k : Nat, k ≤ os.length ∧ i = .int .i64 k ∧ verdictB all ls (os.drop k) = verdictB all ls os ∧ Below w1.heap.size w1 wr) (fun i _ => os.length - (intOf i).toNat)
  case atStart => exact ⟨0, Nat.zero_le _, rfl, rfl, Below.refl _ _⟩
  case round =>
    obtain ⟨k, hk, rfl, hF, hbr⟩ := hrel
    have HF : Hid _ := hF
    clear hF
    have hbw : Below w.heap.size w wr := Below.thru hb1 hbr (Nat.le_refl _)
    have e1 : wr.cell? ⟨w.heap.size, 0, none⟩ = some (.bool all) := (k1.keep hbr).cell 0
    have e2 : wr.cell? ⟨w.heap.size, 1, none⟩ = some (.slice p ls.length c) := (k1.keep hbr).cell 1
    have hz1 := cell_lt e1
    by_cases hlt : k < os.length
    · obtain ⟨b, oo, rfl, u1, u2, f1, f2, hU1, hU2⟩ := (out_at (ho1.keep hbr)).2 k hlt
      generalize hx : os[k] = x at hU1 hU2
      have HX : Hid (os.drop k = x :: os.drop (k + 1)) := by rw [← hx]; exact drop_at hlt
      clear hx
      have hU : OutV wr u1 u2 x := ⟨hU1, hU2⟩
      obtain ⟨pu, cu, rfl⟩ := hU1.len
      obtain ⟨pv, cv, rfl⟩ := hU2.len
      have hlt' : (k : Int) < (os.length : Int) := by omega
      have hb2 := (Below.refl wr.heap.size wr).alloc (Nat.le_refl _) (.cells #[.slice pu x.regs.length cu, .slice pv x.mem.length cv] 36)
      have HC := fun q : Ext _ => Eval_any all p c ls _ _ x q.wd (((hl1.keep hbr).keep hb2).keep q.ok) ((hU.keep hb2).keep q.ok) hz hzl
      have HS := verdict_step (all := all) (ls := ls) HX.out
      rw [HF.out] at HS
      have HS : Hid _ := HS
      clear hU hU1 hU2
      cases hh : evalB ls x <;> cases all
      all_goals
        rw [hh] at HC
        have HC : Hid _ := HC
        have HS' := HS.out
        rw [hh] at HS'
        simp only [reduceCtorEq, if_true, if_false, Bool.not_true, Bool.not_false] at HS'
        have HS' : Hid _ := HS'
        clear hh
        go_wp2
        refine wp_region_ext (by kernel_rfl) (by kernel_rfl) ?_
        repeat (go_big_quiet_step ((go_at_call 11; exact calls_ext (HC.out _))))
        refine wpQuiet_nil ?_
        rintro _ ⟨r, rfl⟩
        have hbz : Below wr.heap.size wr r.wd := Below.thru hb2 r.ok (Nat.le_refl _)
        have g1 := (bcell hbz).1 w.heap.size 0 hz1
        rw [e1] at g1
        go_wp2
        first
          | (go_roundw
             case rel => exact ⟨k + 1, by omega, by go_num, HS'.out.symm, Below.thru hbr hbz (Nat.le_refl _)⟩
             case measure => simp [intOf]; omega)
          | (go_ret
             exact ⟨by rw [HS'.out]; rfl, Below.thru hbw hbz (Nat.le_refl _)⟩)
    · have HE : Hid (verdictB all ls os = all) := by rw [← HF.out, List.drop_of_length_le (by omega)]; cases all <;> rfl
      go_wp2
      go_ret
      exact ⟨by rw [HE.out]; rfl, hbw⟩
end Go.Proofs.YtdealgleehbhlaaDoor
