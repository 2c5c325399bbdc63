/- Contracts of cond's comparisons: of lists of numbers, of lists of lists, and of outcomes. -/
import Derived.Test.YtdealgleehbhlaaDoorCondCmp
import Derived.Sort.Grow
namespace Go.Proofs.YtdealgleehbhlaaDoor
open Go.RowKit

theorem compareNumbers_any (p q : Option Addr) (c d : Nat) (xs ys : List Int) (w : World) (hx : Sl IntE w (.slice p xs.length c) xs) (hy : Sl IntE w (.slice q ys.length d) ys) (hL : xs.length ≤ 1000000000000000) :
    Calls Tryd.prog 32 #[.slice p xs.length c, .slice q ys.length d] w fun e w' => e = .returned (.int .i64 (cmpL xs ys)) ∧ ∃ n, w' = w.drewN n := by
  have HC : Hid _ := cmpNums_any p q c d xs ys w hx hy hL
  obtain ⟨r, hr⟩ : ∃ r, cmpL xs ys = r := ⟨_, rfl⟩
  rw [hr] at HC ⊢
  clear hr
  go_enter Tryd.func32, Tryd.ntmps32
  go_wp2_with (go_at_call 44; refine Calls.mono HC.out ?_; rintro e w2 ⟨rfl, nn, rfl⟩)
  go_ret
  exact ⟨rfl, nn, rfl⟩

theorem cmpR_step {a b : List (List Int)} {k : Nat} {x y : List Int} {r s : List (List Int)} (ha : a.drop k = x :: r) (hb : b.drop k = y :: s) : cmpR (a.drop k) (b.drop k) = if cmpL x y ≠ 0 then cmpL x y else cmpR r s := by
  rw [ha, hb, cmpR]
theorem cmpR_end3 {a b : List (List Int)} {k : Nat} (h : a.length ≤ k ∨ b.length ≤ k) (hk : k ≤ a.length ∧ k ≤ b.length) : cmpR (a.drop k) (b.drop k) = cmp3 a.length b.length := by
  rw [cmpR_ends h hk, cmp3]
  simp only [Int.ofNat_lt]

set_option maxHeartbeats 1000000 in
theorem cmpRegs_any (p q : Option Addr) (c d : Nat) (xs ys : List (List Int)) (w : World) (hx : Sl (SlE IntE) w (.slice p xs.length c) xs) (hy : Sl (SlE IntE) w (.slice q ys.length d) ys) (hL : xs.length ≤ 1000000000000000) (hLi : ∀ l ∈ xs, l.length ≤ 1000000000000000) :
    Calls Tryd.prog 31 #[.slice p xs.length c, .slice q ys.length d, .func (.func 32) #[] #[]] w fun e w' => e = .returned (.int .i64 (cmpR xs ys)) ∧ ∃ n, w' = w.drewN n := by
  go_enter Tryd.func31, Tryd.ntmps31
  go_wp2
  all_goals
    go_loopw [14] (fun i wr => ∃ k : Nat, (k ≤ xs.length ∧ k ≤ ys.length) ∧ i = .int .i64 k ∧ cmpR (xs.drop k) (ys.drop k) = cmpR xs ys ∧ ∃ n, wr = w.drewN n) (fun i _ => xs.length - (intOf i).toNat)
    case atStart => exact ⟨0, ⟨Nat.zero_le _, Nat.zero_le _⟩, rfl, rfl, 0, rfl⟩
    case round =>
      obtain ⟨k, hk, rfl, hF, nn, hn⟩ := hrel
      have HF : Hid _ := hF
      have hbr : Below w.heap.size w wr := by rw [hn]; exact below_drewN _ (Below.refl _ _)
      have HN : Hid _ := hn
      clear hF hn
      by_cases hlt : k < xs.length ∧ k < ys.length
      · obtain ⟨hlt, hltb⟩ := hlt
        obtain ⟨b1, o1, rfl, u, hu, hU⟩ := (sl_at (hx.keep hbr)).2 k hlt
        obtain ⟨b2, o2, rfl, v, hv, hV⟩ := (sl_at (hy.keep hbr)).2 k hltb
        have hxl := hLi _ (List.getElem_mem hlt)
        generalize h1 : xs[k] = x at hU hxl
        generalize h2 : ys[k] = y at hV
        have H1 : Hid (xs.drop k = x :: xs.drop (k + 1)) := by rw [← h1]; exact drop_at hlt
        have H2 : Hid (ys.drop k = y :: ys.drop (k + 1)) := by rw [← h2]; exact drop_at hltb
        clear h1 h2
        obtain ⟨pu, cu, rfl⟩ := hU.len
        obtain ⟨pv, cv, rfl⟩ := hV.len
        have hlt' : (k : Int) < (xs.length : Int) := by omega
        have hlt2 : (k : Int) < (ys.length : Int) := by omega
        obtain ⟨r, hr⟩ : ∃ r, cmpL x y = r := ⟨_, rfl⟩
        have HR : Hid _ := hr
        have HC : Hid (∀ n, Calls Tryd.prog 32 #[.slice pu x.length cu, .slice pv y.length cv] (wr.drewN n) fun e w' => e = .returned (.int .i64 r) ∧ ∃ m, w' = (wr.drewN n).drewN m) := fun n => by
          have hbn := below_drewN n (Below.refl wr.heap.size wr)
          rw [← hr]; exact compareNumbers_any pu pv cu cv x y _ (SlA.keep hU hbn) (SlA.keep hV hbn) hxl
        clear hr
        go_wp2
        go_quiet (first | (go_at_call 32; exact Calls.quiet_of (HC.out _)))
        have hF := HF.out
        rw [cmpR_step H1.out H2.out, HR.out] at hF
        by_cases hr : r = 0
        · have hr' : (r != 0) = false := by simpa using hr
          rw [if_neg (by simpa using hr)] at hF
          have HF' : Hid _ := hF
          clear hF hr
          go_wp2
          go_roundw
          case rel => exact ⟨k + 1, ⟨by omega, by omega⟩, by go_num, HF'.out, nn + nq, by rw [HN.out, World.drewN_drewN]⟩
          case measure => simp [intOf]; omega
        · have hr' : (r != 0) = true := by simpa using hr
          rw [if_pos hr] at hF
          have HF' : Hid _ := hF
          clear hF hr
          go_wp2
          go_ret
          exact ⟨by rw [HF'.out]; rfl, nn + nq, by rw [HN.out, World.drewN_drewN]⟩
      · have HC : Hid (∀ W, Calls Tryd.prog 43 #[.int .i64 xs.length, .int .i64 ys.length] W fun e w' => e = .returned (.int .i64 (cmpR xs ys)) ∧ w' = W) := fun W => by
          rw [← HF.out, cmpR_end3 (by omega) hk]
          exact cmpInt_any _ _ W
        try (have h9 : ¬ ((k : Int) < (xs.length : Int)) := by omega)
        try (have h9 : ¬ ((k : Int) < (ys.length : Int)) := by omega)
        go_wp2_with (go_at_call 43; refine (HC.out _).mono ?_; rintro e w2 ⟨rfl, rfl⟩)
        go_ret
        exact ⟨rfl, nn, HN.out⟩

/-- An outcome as a value: two slices that read as its lists. -/
def OutV (w : World) (v1 v2 : Value) (o : Out) : Prop := Sl (SlE IntE) w v1 o.regs ∧ Sl IntE w v2 o.mem
theorem OutV.keep {w w' : World} {v1 v2 : Value} {o : Out} (h : OutV w v1 v2 o) (hb : Below w.heap.size w w') : OutV w' v1 v2 o := ⟨h.1.keep hb, h.2.keep hb⟩
/-- How long its lists may be. -/
def Osz (o : Out) : Prop := o.regs.length ≤ 1000000000000000 ∧ (∀ l ∈ o.regs, l.length ≤ 1000000000000000) ∧ o.mem.length ≤ 1000000000000000

theorem two_grow (w : World) (A B : Obj) (n : Nat) : ((w.alloc A).alloc B).drewN n = Sort.grow (w.drewN n) #[A, B] := by
  show ({ w with heap := (w.heap.push A).push B, drawn := w.drawn + n } : World) = { w with heap := w.heap ++ #[A, B], drawn := w.drawn + n }
  congr 1

set_option maxHeartbeats 1000000 in
theorem Compare_grow (v1 v2 u1 u2 : Value) (a b : Out) (w : World) (ha : OutV w v1 v2 a) (hb : OutV w u1 u2 b) (hz : Osz a) :
    Calls Tryd.prog 18 #[.agg #[v1, v2], .agg #[u1, u2]] w fun e w' => e = .returned (.int .i64 (cmpO a b)) ∧ ∃ q os, w' = Sort.grow (w.drewN q) os := by
  have hb1 := (((Below.refl w.heap.size w).alloc (Nat.le_refl _) (.cells #[v1, v2] 36)).alloc (by simp) (.cells #[u1, u2] 36))
  have ha1 := ha.keep hb1
  have hb2 := hb.keep hb1
  obtain ⟨p1, c1, rfl⟩ := ha.1.len
  obtain ⟨p2, c2, rfl⟩ := ha.2.len
  obtain ⟨q1, d1, rfl⟩ := hb.1.len
  obtain ⟨q2, d2, rfl⟩ := hb.2.len
  obtain ⟨r, hr⟩ : ∃ r, cmpR a.regs b.regs = r := ⟨_, rfl⟩
  obtain ⟨s, hs⟩ : ∃ s, cmpO a b = s := ⟨_, rfl⟩
  have HC := cmpRegs_any p1 q1 c1 d1 a.regs b.regs _ ha1.1 hb2.1 hz.1 hz.2.1
  have HD := fun n => compareNumbers_any p2 q2 c2 d2 a.mem b.mem _ (ha1.2.keep (below_drewN n (Below.refl _ _))) (hb2.2.keep (below_drewN n (Below.refl _ _))) hz.2.2
  have hO : s = if r ≠ 0 then r else cmpL a.mem b.mem := by rw [← hs, ← hr]; rfl
  rw [hr] at HC
  rw [hs]
  have HC : Hid _ := HC
  clear hr hs
  by_cases h0 : r = 0
  · rw [if_neg (by simpa using h0)] at hO
    subst hO
    have h0' : (r != 0) = false := by simpa using h0
    have HD : Hid _ := HD
    clear h0 ha1 hb2 hb1
    go_enter Tryd.func18, Tryd.ntmps18
    go_wp2_with (first
      | (go_at_call 31; refine Calls.mono HC.out ?_; rintro e w2 ⟨rfl, nn, rfl⟩)
      | (go_at_call 32; refine (HD.out _).mono ?_; rintro e w2 ⟨rfl, mm, rfl⟩))
    go_ret
    exact ⟨rfl, nn + mm, _, by rw [two_grow]⟩
  · rw [if_pos h0] at hO
    subst hO
    have h0' : (s != 0) = true := by simpa using h0
    clear h0 ha1 hb2 hb1 HD
    go_enter Tryd.func18, Tryd.ntmps18
    go_wp2_with (go_at_call 31; refine Calls.mono HC.out ?_; rintro e w2 ⟨rfl, nn, rfl⟩)
    go_ret
    exact ⟨rfl, nn, _, by rw [two_grow]⟩
theorem grow_bel (w : World) (k : Nat) (os : Array Obj) : Below w.heap.size w (Sort.grow (w.drewN k) os) :=
  ⟨rfl, rfl, rfl, by simp [Sort.grow, World.drewN], fun i hi => by
    show (w.heap ++ os)[i]? = _
    rw [Array.getElem?_append_left hi]⟩
theorem Compare_any (v1 v2 u1 u2 : Value) (a b : Out) (w : World) (ha : OutV w v1 v2 a) (hb : OutV w u1 u2 b) (hz : Osz a) :
    Calls Tryd.prog 18 #[.agg #[v1, v2], .agg #[u1, u2]] w fun e w' => e = .returned (.int .i64 (cmpO a b)) ∧ Below w.heap.size w w' :=
  (Compare_grow v1 v2 u1 u2 a b w ha hb hz).mono fun _ _ ⟨h1, q, os, h2⟩ => ⟨h1, by rw [h2]; exact grow_bel w q os⟩
end Go.Proofs.YtdealgleehbhlaaDoor
