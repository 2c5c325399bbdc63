/- Contracts of cond's Holds, Eval and Verdict. -/
import Derived.Test.YtdealgleehbhlaaDoorCondCmp2
namespace Go.Proofs.YtdealgleehbhlaaDoor
open Go.RowKit

theorem itemI_any (p : Option Addr) (c : Nat) (xs : List Int) (i : Int) (w : World) (hx : Sl IntE w (.slice p xs.length c) xs) :
    Calls Tryd.prog 49 #[.slice p xs.length c, .int .i64 i] w fun e w' => e = .returned (.int .i64 (atL xs i)) ∧ w' = w := by
  unfold atL
  by_cases h : i < 0
  · rw [if_pos h]
    go_enter Tryd.func49, Tryd.ntmps49
    go_wp2
    go_ret
    exact ⟨rfl, rfl⟩
  · rw [if_neg h]
    by_cases h2 : i < xs.length
    · obtain ⟨k, rfl⟩ : ∃ k : Nat, i = k := ⟨i.toNat, by omega⟩
      have hk : k < xs.length := by omega
      obtain ⟨b, o, rfl, hu⟩ := (ints_at hx).2 k hk
      rw [Int.toNat_natCast, show xs.getD k 0 = xs[k] by simp [hk]]
      generalize xs[k] = x at *
      have h3 : (k : Int) < (xs.length : Int) := h2
      go_enter Tryd.func49, Tryd.ntmps49
      go_wp2
      go_ret
      exact ⟨rfl, rfl⟩
    · rw [show xs.getD i.toNat 0 = 0 by simp [List.getD, List.getElem?_eq_none (show xs.length ≤ i.toNat by omega)]]
      go_enter Tryd.func49, Tryd.ntmps49
      go_wp2
      go_ret
      exact ⟨rfl, rfl⟩
def atR (l : List (List Int)) (i : Int) : List Int := if i < 0 then [] else l.getD i.toNat []
theorem itemR_any (p : Option Addr) (c : Nat) (xs : List (List Int)) (i : Int) (w : World) (hx : Sl (SlE IntE) w (.slice p xs.length c) xs) :
    ∃ v, Sl IntE w v (atR xs i) ∧ ∀ n, Calls Tryd.prog 50 #[.slice p xs.length c, .int .i64 i] (w.drewN n) fun e w' => e = .returned v ∧ w' = w.drewN n := by
  unfold atR
  by_cases h : i < 0
  · rw [if_pos h]
    refine ⟨.slice none 0 0, SlA.nil, fun n => ?_⟩
    go_enter Tryd.func50, Tryd.ntmps50
    go_wp2
    go_ret
    exact ⟨rfl, rfl⟩
  · rw [if_neg h]
    by_cases h2 : i < xs.length
    · obtain ⟨k, rfl⟩ : ∃ k : Nat, i = k := ⟨i.toNat, by omega⟩
      have hk : k < xs.length := by omega
      obtain ⟨b, o, rfl, v, hu, hU⟩ := (sl_at hx).2 k hk
      rw [Int.toNat_natCast, show xs.getD k [] = xs[k] by simp [hk]]
      have h3 : (k : Int) < (xs.length : Int) := h2
      refine ⟨v, hU, fun n => ?_⟩
      obtain ⟨q, d, rfl⟩ := hU.len
      clear hU
      generalize xs[k] = x at *
      go_enter Tryd.func50, Tryd.ntmps50
      go_wp2
      go_ret
      exact ⟨rfl, rfl⟩
    · rw [show xs.getD i.toNat [] = [] by simp [List.getD, List.getElem?_eq_none (show xs.length ≤ i.toNat by omega)]]
      refine ⟨.slice none 0 0, SlA.nil, fun n => ?_⟩
      go_enter Tryd.func50, Tryd.ntmps50
      go_wp2
      go_ret
      exact ⟨rfl, rfl⟩

theorem valO_mem {a : Atm} {o : Out} (h : a.thr = -1) : valO a o = atL o.mem a.pos := by unfold valO; rw [if_pos h]
theorem valO_reg {a : Atm} {o : Out} (h : a.thr ≠ -1) : valO a o = atL (atR o.regs a.thr) a.pos := by
  unfold valO atR
  rw [if_neg h]
  split
  · simp [atL]
  · rfl

set_option maxHeartbeats 1000000 in
theorem value_any (a : Atm) (v1 v2 : Value) (o : Out) (w : World) (ho : OutV w v1 v2 o) :
    Calls Tryd.prog 38 #[a.v, .agg #[v1, v2]] w fun e w' => e = .returned (.int .i64 (valO a o)) ∧ Below w.heap.size w w' := by
  have hb1 := (((Below.refl w.heap.size w).alloc (Nat.le_refl _) (.cells #[.int .i64 a.thr, .int .i64 a.pos, .int .i64 a.val, .bool a.neg] 49)).alloc (by simp) (.cells #[v1, v2] 36))
  have ho1 := ho.keep hb1
  obtain ⟨p1, c1, rfl⟩ := ho.1.len
  obtain ⟨p2, c2, rfl⟩ := ho.2.len
  obtain ⟨s, hs⟩ : ∃ s, valO a o = s := ⟨_, rfl⟩
  unfold Atm.v
  by_cases h : a.thr = -1
  · have HC := itemI_any p2 c2 o.mem a.pos _ ho1.2
    rw [← valO_mem h, hs] at HC
    rw [hs, h]
    rw [h] at HC hb1
    have HC : Hid _ := HC
    clear ho1 hs
    have hh : ((-1 : Int) == -1) = true := rfl
    go_enter Tryd.func38, Tryd.ntmps38
    go_wp2_with (go_at_call 49; refine Calls.mono HC.out ?_; rintro e w2 ⟨rfl, rfl⟩)
    go_ret
    exact ⟨rfl, hb1⟩
  · obtain ⟨u, hu, HR⟩ := itemR_any p1 c1 o.regs a.thr _ ho1.1
    obtain ⟨q, d, rfl⟩ := hu.len
    have hh : (a.thr == -1) = false := by simpa using h
    have HC := fun n => itemI_any q d _ a.pos _ (hu.keep (below_drewN n (Below.refl _ _)))
    rw [← valO_reg h, hs] at HC
    have HC : Hid _ := HC
    have HR : Hid _ := HR
    rw [hs]
    clear ho1 hs hu
    generalize (atR o.regs a.thr).length = m at *
    go_enter Tryd.func38, Tryd.ntmps38
    go_wp2
    go_quiet (first
      | (go_at_call 50; exact Calls.quiet_of_same (HR.out _))
      | (go_at_call 49; exact Calls.quiet_of_same (HC.out _)))
    go_wp2
    go_ret
    exact ⟨rfl, below_drewN _ hb1⟩
end Go.Proofs.YtdealgleehbhlaaDoor
