/- RegsP: RegsRep, RegsSet, RegsPlace, RegsMap, RegsHangs, RegsFile, RegsBits, RegsShown, in one text. -/
import Derived.Test.YtcalinfdckklfaaGreatDoorProg
import Derived.Test.YtcalinfdckklfaaGreatDoorPk1
import Derived.Test.YtcalinfdckklfaaGreatDoorPk2
import Derived.Laws.Build
import Derived.Maps.OwnSet
import Derived.Maps.OwnOps
import Derived.Laws.BitsLemmas
import Derived.OwnWalk
namespace Go.Proofs.YtcalinfdckklfaaGreatDoor
open Go.RowKit
attribute [local go_sem] Ext.cell Ext.frozen

/-- A file of registers, as a value. -/
def fileV (v d : Nat → Int) : Value := .agg #[.int .i64 (v 0), .int .i64 (v 1), .int .i64 (v 2), .int .i64 (v 3), .int .u32 (d 0), .int .u32 (d 1), .int .u32 (d 2), .int .u32 (d 3)]
/-- One of them, 0 where there is none. -/
def atR (v : Nat → Int) (n : Int) : Int := if 0 ≤ n ∧ n < 4 then v n.toNat else 0
/-- With another one. -/
def upd (v : Nat → Int) (n x : Int) : Nat → Int := fun k => if (k : Int) = n then x else v k

theorem reg_cases (n : Int) : n = 0 ∨ n = 1 ∨ n = 2 ∨ n = 3 ∨ (n < 0 ∨ 4 ≤ n) := by omega
theorem atR_out (v : Nat → Int) {n : Int} (h : n < 0 ∨ 4 ≤ n) : atR v n = 0 := if_neg (by omega)
theorem fileV_out (v d : Nat → Int) {n : Int} (x y : Int) (h : n < 0 ∨ 4 ≤ n) : fileV (upd v n x) (upd d n y) = fileV v d := by
  unfold fileV
  simp only [upd]
  repeat rw [if_neg (by omega)]

theorem regsReg_any (n : Int) (w : World) : Calls Tryz.prog 141 #[.int .i64 n] w fun e w' => e = .returned (.bool (decide (0 ≤ n ∧ n < 4))) ∧ w' = w := by
  by_cases h : 0 ≤ n
  · by_cases h' : n < 4
    · rw [decide_eq_true (And.intro h h')]
      go_enter Tryz.func141, Tryz.ntmps141
      go_wp2
      go_ret
      exact ⟨rfl, rfl⟩
    · rw [decide_eq_false (fun x => h' x.2)]
      go_enter Tryz.func141, Tryz.ntmps141
      go_wp2
      go_ret
      exact ⟨rfl, rfl⟩
  · rw [decide_eq_false (fun x => h x.1)]
    go_enter Tryz.func141, Tryz.ntmps141
    go_wp2
    go_ret
    exact ⟨rfl, rfl⟩
theorem regsReg_is (n : Int) (w : World) (r : Bool) (h : decide (0 ≤ n ∧ n < 4) = r) : Calls Tryz.prog 141 #[.int .i64 n] w fun e w' => e = .returned (.bool r) ∧ w' = w := by
  subst h; exact regsReg_any n w

set_option maxHeartbeats 1000000 in
theorem Get_any (v d : Nat → Int) (n : Int) (w : World) : Calls Tryz.prog 126 #[fileV v d, .int .i64 n] w fun e w' => e = .returned (.tuple #[.int .i64 (atR v n), .int .u32 (atR d n)]) ∧ Below w.heap.size w w' := by
  unfold fileV
  rcases reg_cases n with h | h | h | h | h
  case inr.inr.inr.inr =>
    rw [atR_out v h, atR_out d h]
    have hr : decide (0 ≤ n ∧ n < 4) = false := decide_eq_false (by omega)
    go_enter Tryz.func126, Tryz.ntmps126
    go_wp2_with (go_at_call 141; refine (regsReg_is _ _ _ hr).mono ?_; rintro e w' ⟨rfl, rfl⟩)
    go_returns
    exact ⟨rfl, by go_grown⟩
  all_goals
    subst h
    go_enter Tryz.func126, Tryz.ntmps126
    go_wp2_with (go_at_call 141; refine (regsReg_is _ _ _ rfl).mono ?_; rintro e w' ⟨rfl, rfl⟩)
    have hne : ∀ w, Nonempty (Ext w) := ext_some
    refine wp_region_ext (by kernel_rfl) (by kernel_rfl) ?_
    repeat (go_big_quiet_step (fail))
    refine wpQuiet_nil ?_
    rintro _ ⟨rr, rfl⟩
    go_wp2
    go_returns
    exact ⟨rfl, Below.thru ((Below.refl _ _).alloc (Nat.le_refl _) _) (rr.ok) (by simp)⟩
end Go.Proofs.YtcalinfdckklfaaGreatDoor

namespace Go.Proofs.YtcalinfdckklfaaGreatDoor
open Go.RowKit

theorem Set_0 (v d : Nat → Int) (x y : Int) : fileV (upd v 0 x) (upd d 0 y) = .agg #[.int .i64 x, .int .i64 (v 1), .int .i64 (v 2), .int .i64 (v 3), .int .u32 y, .int .u32 (d 1), .int .u32 (d 2), .int .u32 (d 3)] := by simp [fileV, upd]
theorem Set_1 (v d : Nat → Int) (x y : Int) : fileV (upd v 1 x) (upd d 1 y) = .agg #[.int .i64 (v 0), .int .i64 x, .int .i64 (v 2), .int .i64 (v 3), .int .u32 (d 0), .int .u32 y, .int .u32 (d 2), .int .u32 (d 3)] := by simp [fileV, upd]
theorem Set_2 (v d : Nat → Int) (x y : Int) : fileV (upd v 2 x) (upd d 2 y) = .agg #[.int .i64 (v 0), .int .i64 (v 1), .int .i64 x, .int .i64 (v 3), .int .u32 (d 0), .int .u32 (d 1), .int .u32 y, .int .u32 (d 3)] := by simp [fileV, upd]
theorem Set_3 (v d : Nat → Int) (x y : Int) : fileV (upd v 3 x) (upd d 3 y) = .agg #[.int .i64 (v 0), .int .i64 (v 1), .int .i64 (v 2), .int .i64 x, .int .u32 (d 0), .int .u32 (d 1), .int .u32 (d 2), .int .u32 y] := by simp [fileV, upd]

set_option maxHeartbeats 2000000 in
theorem Set_any (v d : Nat → Int) (n x y : Int) (w : World) : Calls Tryz.prog 123 #[fileV v d, .int .i64 n, .int .i64 x, .int .u32 y] w fun e w' => e = .returned (fileV (upd v n x) (upd d n y)) ∧ Below w.heap.size w w' := by
  rcases reg_cases n with h | h | h | h | h
  case inr.inr.inr.inr =>
    rw [fileV_out v d x y h]
    unfold fileV
    have hr : decide (0 ≤ n ∧ n < 4) = false := decide_eq_false (by omega)
    go_enter Tryz.func123, Tryz.ntmps123
    go_wp2_with (go_at_call 141; refine (regsReg_is _ _ _ hr).mono ?_; rintro e w' ⟨rfl, rfl⟩)
    go_returns
    exact ⟨rfl, by go_grown⟩
  all_goals
    subst h
    first | rw [Set_0] | rw [Set_1] | rw [Set_2] | rw [Set_3]
    unfold fileV
    go_enter Tryz.func123, Tryz.ntmps123
    go_wp2_with (go_at_call 141; refine (regsReg_is _ _ _ rfl).mono ?_; rintro e w' ⟨rfl, rfl⟩)
    go_returns
    exact ⟨rfl, by go_grown⟩

end Go.Proofs.YtcalinfdckklfaaGreatDoor

namespace Go.Proofs.YtcalinfdckklfaaGreatDoor
open Go.RowKit

theorem wrap_is {x : Int} (h : -9223372036854775808 ≤ x) (h' : x < 9223372036854775808) : wrap64 x = x := by unfold wrap64; omega
theorem tmod_neg {a m : Int} (hm : 0 < m) (h : a.tmod m < 0) : a.tmod m + m = a % m := by
  rw [Int.tmod_eq_emod] at *
  have := Int.emod_nonneg a (Int.ne_of_gt hm)
  split at h <;> split <;> omega
theorem tmod_pos {a m : Int} (hm : 0 < m) (h : 0 ≤ a.tmod m) : a.tmod m = a % m := by
  rw [Int.tmod_eq_emod] at *
  have := Int.emod_lt_of_pos a hm
  split at h <;> split <;> omega

theorem modulo_is (a m x : Int) (w : World) (hm : 0 < m) (hm' : m < 9223372036854775808) (hx : a % m = x) : Calls Tryz.prog 151 #[.int .i64 a, .int .i64 m] w fun e w' => e = .returned (.int .i64 x) ∧ w' = w := by
  have h0 : m ≠ 0 := by omega
  have l1 := Int.emod_nonneg a h0
  have l2 := Int.emod_lt_of_pos a hm
  subst hx
  by_cases h : a.tmod m < 0
  · have e := tmod_neg hm h
    have e2 : wrap64 (a.tmod m + m) = a % m := by rw [e]; exact wrap_is (by omega) (by omega)
    go_enter Tryz.func151, Tryz.ntmps151
    go_wp2
    go_ret
    exact ⟨rfl, rfl⟩
  · have e := tmod_pos (a := a) hm (by omega)
    rw [← e]
    clear e l1 l2
    go_enter Tryz.func151, Tryz.ntmps151
    go_wp2
    go_ret
    exact ⟨rfl, rfl⟩

theorem sum_mod {a b m x y : Int} (hx : a % m = x) (hy : b % m = y) : (a + b) % m = (x + y) % m := by subst hx hy; rw [← Int.add_emod]
theorem sumModulo_any (a b m : Int) (w : World) (hm : 0 < m) (hm' : m < 9223372036854775808) : Calls Tryz.prog 140 #[.int .i64 a, .int .i64 b, .int .i64 m] w fun e w' => e = .returned (.int .i64 ((a + b) % m)) ∧ w' = w := by
  have h0 : m ≠ 0 := by omega
  obtain ⟨x, hx⟩ : ∃ x, a % m = x := ⟨_, rfl⟩
  obtain ⟨y, hy⟩ : ∃ y, b % m = y := ⟨_, rfl⟩
  have X : 0 ≤ x ∧ x < m := by subst hx; exact ⟨Int.emod_nonneg a h0, Int.emod_lt_of_pos a hm⟩
  have Y : 0 ≤ y ∧ y < m := by subst hy; exact ⟨Int.emod_nonneg b h0, Int.emod_lt_of_pos b hm⟩
  have hs : (a + b) % m = (x + y) % m := sum_mod hx hy
  rw [hs]
  clear hs
  have HX : Hid _ := hx
  have HY : Hid _ := hy
  clear hx hy
  have w1 : wrap64 (m - y) = m - y := wrap_is (by omega) (by omega)
  by_cases hc : m - y ≤ x
  · have w2 : (x + y) % m = x - (m - y) := by
      have : (x + y) % m = (x + y - m) % m := by simp
      rw [this, Int.emod_eq_of_lt (by omega) (by omega)]
      omega
    rw [w2]
    clear w2
    have F1 := trivial
    go_enter Tryz.func140, Tryz.ntmps140
    go_wp2_with (first | (go_at_call 151; clear F1; refine (modulo_is _ _ _ _ hm hm' HX.out).mono ?_; rintro e w' ⟨rfl, rfl⟩; have F2 := trivial) | (go_at_call 151; clear F2; refine (modulo_is _ _ _ _ hm hm' HY.out).mono ?_; rintro e w' ⟨rfl, rfl⟩))
    go_ret
    exact ⟨rfl, rfl⟩
  · have w2 : (x + y) % m = x + y := Int.emod_eq_of_lt (by omega) (by omega)
    rw [w2]
    clear w2
    have F1 := trivial
    go_enter Tryz.func140, Tryz.ntmps140
    go_wp2_with (first | (go_at_call 151; clear F1; refine (modulo_is _ _ _ _ hm hm' HX.out).mono ?_; rintro e w' ⟨rfl, rfl⟩; have F2 := trivial) | (go_at_call 151; clear F2; refine (modulo_is _ _ _ _ hm hm' HY.out).mono ?_; rintro e w' ⟨rfl, rfl⟩))
    go_ret
    exact ⟨rfl, rfl⟩

theorem Kind_eq (op d a b l i k : Int) (w : World) (T : Tab w) (h : kindZ op = k) :
    Calls Tryz.prog 80 #[.agg #[.int .i64 op, .int .i64 d, .int .i64 a, .int .i64 b, .int .i64 l, .int .i64 i]] w fun e w' => e = .returned (.int .i64 k) ∧ Below w.heap.size w w' := by
  subst h; exact Kind_any op d a b l i w T

/-- A load's, or a store's, place. -/
def placeZ (v : Nat → Int) (op a l locs : Int) : Int := if kindZ op = 0 ∨ locs < 1 then 0 else (l + atR v a) % locs
def placeD (d : Nat → Int) (op a locs : Int) : Int := if kindZ op = 0 ∨ locs < 1 then 0 else atR d a

set_option maxHeartbeats 2000000 in
theorem Place_any (v d : Nat → Int) (op xd a b l i locs : Int) (w : World) (T : Tab w) (hm' : locs < 9223372036854775808) : Calls Tryz.prog 121 #[fileV v d, .agg #[.int .i64 op, .int .i64 xd, .int .i64 a, .int .i64 b, .int .i64 l, .int .i64 i], .int .i64 locs] w fun e w' =>
    e = .returned (.tuple #[.int .i64 (placeZ v op a l locs), .int .u32 (placeD d op a locs)]) ∧ Below w.heap.size w w' := by
  obtain ⟨k, hk⟩ : ∃ k, kindZ op = k := ⟨_, rfl⟩
  by_cases h0 : k = 0
  · rw [show placeZ v op a l locs = 0 from if_pos (.inl (hk.trans h0)), show placeD d op a locs = 0 from if_pos (.inl (hk.trans h0))]
    subst h0
    unfold fileV
    have HK : Hid _ := hk
    clear hk
    go_enter Tryz.func121, Tryz.ntmps121
    go_wp2_with (go_at_call 80; refine (Kind_eq _ _ _ _ _ _ _ _ ((T.alloc _).alloc _) HK.out).mono ?_; rintro e w1 ⟨rfl, hb⟩)
    go_returns
    exact ⟨rfl, (((Below.refl _ _).alloc (Nat.le_refl _) _).alloc (by simp) _).trans (hb.mono (by simp; omega))⟩
  · have hk0 : ¬ kindZ op = 0 := fun h => h0 (hk.symm.trans h)
    have hkb : (k == 0) = false := by simpa using h0
    have HK : Hid _ := hk
    clear hk
    by_cases hl : locs < 1
    · rw [show placeZ v op a l locs = 0 from if_pos (.inr hl), show placeD d op a locs = 0 from if_pos (.inr hl)]
      clear hk0
      unfold fileV
      go_enter Tryz.func121, Tryz.ntmps121
      go_wp2_with (go_at_call 80; refine (Kind_eq _ _ _ _ _ _ _ _ ((T.alloc _).alloc _) HK.out).mono ?_; rintro e w1 ⟨rfl, hb⟩)
      go_returns
      exact ⟨rfl, (((Below.refl _ _).alloc (Nat.le_refl _) _).alloc (by simp) _).trans (hb.mono (by simp; omega))⟩
    · rw [show placeZ v op a l locs = (l + atR v a) % locs from if_neg (by omega), show placeD d op a locs = atR d a from if_neg (by omega)]
      clear hk0
      have hm : 0 < locs := by omega
      have hG := fun w => Get_any v d a w
      unfold fileV at hG ⊢
      have HG : Hid _ := hG
      clear hG
      go_enter Tryz.func121, Tryz.ntmps121
      go_wp2_with fail
      refine (Kind_eq _ _ _ _ _ _ _ _ ((T.alloc _).alloc _) HK.out).mono ?_
      rintro e w1 ⟨rfl, hb⟩
      obtain ⟨hc, hf⟩ := bcell hb
      have B1 : Below w.heap.size w w1 := (((Below.refl _ _).alloc (Nat.le_refl _) _).alloc (by simp) _).trans (hb.mono (by simp; omega))
      have hz1 : w.heap.size + 1 < w1.heap.size := by have := hb.size; simp at this; omega
      go_wp2_with fail
      refine (HG.out _).mono ?_
      rintro e w2 ⟨rfl, hb2⟩
      obtain ⟨hc2, hf2⟩ := bcell hb2
      have B2 : Below w.heap.size w w2 := Below.thru B1 hb2 (Nat.le_refl _)
      have hz2 : w.heap.size + 1 < w2.heap.size := by have := hb2.size; omega
      go_wp2_with (go_at_call 140; refine (sumModulo_any _ _ _ _ hm hm').mono ?_; rintro e w' ⟨rfl, rfl⟩)
      go_returns
      exact ⟨rfl, B2⟩
end Go.Proofs.YtcalinfdckklfaaGreatDoor

namespace Go.Proofs.YtcalinfdckklfaaGreatDoor
open Go.RowKit Go.Maps

/-- A function of the program, as an entry reads. -/
def funElem : Value → Option (DataW Unit × List MemPlace)
  | .func (.func f) p c => if p.size = 0 ∧ c.size = 0 then some (.lit (.int .i64 (f : Nat)), []) else none
  | .nilFunc => some (.lit (.int .i64 (-1)), [])
  | _ => none
theorem funElem_mk (f : Nat) : funElem (.func (.func f) #[] #[]) = some (.lit (.int .i64 (f : Nat)), []) := rfl
/-- What the map reads as. -/
def makersD : DataW Unit := .map [(.int .i64 1, .lit (.int .i64 152)), (.int .i64 2, .lit (.int .i64 153)), (.int .i64 3, .lit (.int .i64 154)), (.int .i64 4, .lit (.int .i64 155))]

theorem makers_any (w : World) : Calls Tryz.prog 142 #[] w fun e w' => ∃ b, e = .returned (.map (some b)) ∧ w'.ownsMap Tryz.prog 3 funElem b 4 makersD ∧ w.heap.size ≤ b ∧ Below w.heap.size w w' := by
  have hmm := @run_makeMap Tryz.prog
  have K : Keyed Tryz.prog 3 := int_keyed Tryz.underlying3
  have key : ∀ k : Int, (Lit.int .i64 k).wf = true → keyOf Tryz.prog 3 (.int .i64 k) = some (.int .i64 k) := fun k h => keyOf_int_mk Tryz.underlying3 h
  have o0 := World.ownsMap_made w Tryz.prog 3 funElem
  obtain ⟨w1, r1, o1, g1⟩ := o0.update (t := 194) K Tryz.underlying194 (by decide) (key 1 rfl) (funElem_mk 152)
  obtain ⟨w2, r2, o2, g2⟩ := o1.update (t := 194) K Tryz.underlying194 (by decide) (key 2 rfl) (funElem_mk 153)
  obtain ⟨w3, r3, o3, g3⟩ := o2.update (t := 194) K Tryz.underlying194 (by decide) (key 3 rfl) (funElem_mk 154)
  obtain ⟨w4, r4, o4, g4⟩ := o3.update (t := 194) K Tryz.underlying194 (by decide) (key 4 rfl) (funElem_mk 155)
  go_enter Tryz.func142, Tryz.ntmps142
  go_wp2
  go_ret
  refine ⟨_, rfl, ?_, Nat.le_refl _, ?_⟩
  · exact o4
  · have q0 : w.heap.size ≤ (w.alloc (Obj.map #[] 0)).heap.size := by simp
    have hk : ∀ k : Nat, some w.heap.size = some k → w.heap.size ≤ k := fun k h => by cases h; exact Nat.le_refl _
    exact (((((Below.refl _ _).alloc (Nat.le_refl _) _).grown g1 q0 hk).grown g2 (Nat.le_trans q0 g1.size) hk).grown g3 (Nat.le_trans q0 (Nat.le_trans g1.size g2.size)) hk).grown g4 (Nat.le_trans q0 (Nat.le_trans g1.size (Nat.le_trans g2.size g3.size))) hk

theorem zeroFn (w : World) : (zeroValue 192).run Tryz.prog w = .ok .nilFunc w := by kernel_rfl
theorem funElem_inv {v : Value} {n : Int} {ps : List MemPlace} (h : funElem v = some (.lit (.int .i64 n), ps)) : (n = -1 ∧ v = .nilFunc) ∨ ∃ f : Nat, n = f ∧ v = .func (.func f) #[] #[] := by
  unfold funElem at h
  split at h
  · split at h
    · rename_i hs
      simp only [Option.some.injEq, Prod.mk.injEq, DataW.lit.injEq, Lit.int.injEq, true_and] at h
      refine .inr ⟨_, h.1.symm, ?_⟩
      rw [Array.eq_empty_of_size_eq_zero hs.1, Array.eq_empty_of_size_eq_zero hs.2]
    · cases h
  · simp only [Option.some.injEq, Prod.mk.injEq, DataW.lit.injEq, Lit.int.injEq, true_and] at h
    exact .inl ⟨h.1.symm, rfl⟩
  · cases h

theorem look_run {w : World} {b : Nat} (h : w.ownsMap Tryz.prog 3 funElem b 4 makersD) (op : Int) (hw : (Lit.int .i64 op).wf = true) : ∃ v ps, (Instr.lookup 194 (.map (some b)) (.int .i64 op) true).run Tryz.prog w = .ok (.tuple #[v, .bool (Maps.has makersD (.int .i64 op))]) w ∧ funElem v = some (makersD.atKey (.int .i64 op) (.lit (.int .i64 (-1))), ps) :=
  h.look_ok (t := 194) (int_keyed Tryz.underlying3) Tryz.underlying194 (zeroFn w) (zd := .lit (.int .i64 (-1))) (zp := []) rfl (keyOf_int_mk Tryz.underlying3 hw)
theorem look_in {w : World} {b : Nat} (h : w.ownsMap Tryz.prog 3 funElem b 4 makersD) (op : Int) (f : Nat) (hop : (op = 1 ∧ f = 152) ∨ (op = 2 ∧ f = 153) ∨ (op = 3 ∧ f = 154) ∨ (op = 4 ∧ f = 155)) :
    (Instr.lookup 194 (.map (some b)) (.int .i64 op) true).run Tryz.prog w = .ok (.tuple #[.func (.func f) #[] #[], .bool true]) w := by
  obtain ⟨v, ps, hr, hv⟩ := look_run h op (by rcases hop with h | h | h | h <;> (rw [h.1]; rfl))
  have hat : makersD.atKey (.int .i64 op) (.lit (.int .i64 (-1))) = .lit (.int .i64 (f : Nat)) := by rcases hop with h | h | h | h <;> (rw [h.1, h.2]; rfl)
  have hhas : Maps.has makersD (.int .i64 op) = true := by rcases hop with h | h | h | h <;> (rw [h.1]; rfl)
  rw [hat] at hv
  rw [hhas] at hr
  rcases funElem_inv hv with ⟨h1, _⟩ | ⟨g, h1, rfl⟩
  · omega
  · have : f = g := by omega
    subst this
    exact hr
/-- What an operation makes of two numbers, and of Imm. -/
def makeZ (op a b i : Int) : Int := if op = 1 then i else if op = 2 then wrap64 (a + b) else if op = 3 then bits .xor .i64 a b else bits .and .i64 a b
theorem make1_any (a b i : Int) (w : World) : Calls Tryz.prog 152 #[.int .i64 a, .int .i64 b, .int .i64 i] w fun e w' => e = .returned (.int .i64 (makeZ 1 a b i)) ∧ w' = w := by
  rw [show makeZ 1 a b i = i from rfl]
  go_enter Tryz.func152, Tryz.ntmps152
  go_wp2
  go_ret
  exact ⟨rfl, rfl⟩
theorem make2_any (a b i : Int) (w : World) : Calls Tryz.prog 153 #[.int .i64 a, .int .i64 b, .int .i64 i] w fun e w' => e = .returned (.int .i64 (makeZ 2 a b i)) ∧ w' = w := by
  rw [show makeZ 2 a b i = wrap64 (a + b) from rfl]
  go_enter Tryz.func153, Tryz.ntmps153
  go_wp2
  go_ret
  exact ⟨rfl, rfl⟩
theorem make3_any (a b i : Int) (w : World) : Calls Tryz.prog 154 #[.int .i64 a, .int .i64 b, .int .i64 i] w fun e w' => e = .returned (.int .i64 (makeZ 3 a b i)) ∧ w' = w := by
  rw [show makeZ 3 a b i = bits .xor .i64 a b from rfl]
  go_enter Tryz.func154, Tryz.ntmps154
  go_wp2
  go_ret
  exact ⟨rfl, rfl⟩
theorem make4_any (a b i : Int) (w : World) : Calls Tryz.prog 155 #[.int .i64 a, .int .i64 b, .int .i64 i] w fun e w' => e = .returned (.int .i64 (makeZ 4 a b i)) ∧ w' = w := by
  rw [show makeZ 4 a b i = bits .and .i64 a b from rfl]
  go_enter Tryz.func155, Tryz.ntmps155
  go_wp2
  go_ret
  exact ⟨rfl, rfl⟩
theorem make_any (op : Int) (f : Nat) (hop : (op = 1 ∧ f = 152) ∨ (op = 2 ∧ f = 153) ∨ (op = 3 ∧ f = 154) ∨ (op = 4 ∧ f = 155)) (a b i : Int) (w : World) : Calls Tryz.prog f #[.int .i64 a, .int .i64 b, .int .i64 i] w fun e w' => e = .returned (.int .i64 (makeZ op a b i)) ∧ w' = w := by
  rcases hop with ⟨rfl, rfl⟩ | ⟨rfl, rfl⟩ | ⟨rfl, rfl⟩ | ⟨rfl, rfl⟩
  · exact make1_any a b i w
  · exact make2_any a b i w
  · exact make3_any a b i w
  · exact make4_any a b i w
end Go.Proofs.YtcalinfdckklfaaGreatDoor

namespace Go.Proofs.YtcalinfdckklfaaGreatDoor
open Go.RowKit

/-- The sets of some registers, together. -/
def hangF (d : Nat → Int) : List Int → Int → Int
  | [], acc => acc
  | n :: l, acc => hangF d l (bits .or .u32 acc (atR d n))

theorem drop_cons {l : List Int} {k : Nat} (h : k < l.length) : l.drop k = l.getD k 0 :: l.drop (k + 1) := by
  rw [List.drop_eq_getElem_cons h]
  simp [h]

set_option maxHeartbeats 2000000 in
theorem hangs_any (v d : Nat → Int) (op xd a b l i : Int) (w : World) (T : Tab w) : Calls Tryz.prog 144 #[fileV v d, .agg #[.int .i64 op, .int .i64 xd, .int .i64 a, .int .i64 b, .int .i64 l, .int .i64 i]] w fun e w' =>
    e = .returned (.int .u32 (hangF d (usesL op a b) 0)) ∧ Below w.heap.size w w' := by
  generalize hG : hangF d (usesL op a b) 0 = G
  obtain ⟨xs, hxs⟩ : ∃ xs, usesL op a b = xs := ⟨_, rfl⟩
  rw [hxs] at hG
  have hn : xs.length ≤ 2 := by
    rw [← hxs]
    unfold usesL
    rw [List.length_append]
    split <;> split <;> simp
  have HX : Hid _ := hxs
  have HG : Hid _ := hG
  clear hG hxs
  have hGet := fun n w => Get_any v d n w
  unfold fileV at hGet ⊢
  have HGet : Hid _ := hGet
  clear hGet
  go_enter Tryz.func144, Tryz.ntmps144
  go_wp2_with fail
  refine (Uses_any _ _ _ _ _ _ _ ((T.alloc _).alloc _)).mono ?_
  rintro e w1 ⟨v1, rfl, hown, hb⟩
  rw [HX.out] at hown
  obtain ⟨hc, hf⟩ := bcell hb
  have B1 : Below w.heap.size w w1 := (((Below.refl _ _).alloc (Nat.le_refl _) _).alloc (by simp) _).trans (hb.mono (by simp; omega))
  have hz1 : w.heap.size + 1 < w1.heap.size := by have := hb.size; simp at this; omega
  have HS : Hid (IntSl w1 _ _) := ints_own hown
  clear hown
  have kF : Blk w1 w.heap.size #[.int .i64 (v 0), .int .i64 (v 1), .int .i64 (v 2), .int .i64 (v 3), .int .u32 (d 0), .int .u32 (d 1), .int .u32 (d 2), .int .u32 (d 3)] 35 := (Blk.new.alloc _).keep hb
  obtain ⟨p, cap, hv⟩ := intsl_len HS.out
  subst hv
  go_wp2
  go_loopw [5, 13] (fun r i wr => ∃ (k : Nat) (z : Int), k ≤ xs.length ∧ i = .int .i64 k ∧ r = .int .u32 z ∧ hangF d (xs.drop k) z = G ∧ Below w1.heap.size w1 wr) (fun _ i _ => xs.length - (intOf i).toNat)
  case atStart => exact ⟨0, 0, Nat.zero_le _, rfl, rfl, HG.out, Below.refl _ _⟩
  case round =>
    obtain ⟨k, z, hk, rfl, rfl, hg, hB⟩ := hrel
    have HGk : Hid _ := hg
    clear hg
    have kR := kF.keep hB
    have c0 := kR.cell 0
    have c1 := kR.cell 1
    have c2 := kR.cell 2
    have c3 := kR.cell 3
    have c4 := kR.cell 4
    have c5 := kR.cell 5
    have c6 := kR.cell 6
    have c7 := kR.cell 7
    simp only [List.getElem?_toArray, List.getElem?_cons_zero, List.getElem?_cons_succ] at c0 c1 c2 c3 c4 c5 c6 c7
    have hzr : w.heap.size + 1 < wr.heap.size := Nat.lt_of_lt_of_le hz1 hB.size
    by_cases hlt : k < xs.length
    · obtain ⟨b', o', cap', hv, hcell⟩ := intsl_at (IntSl.below HS.out hB) hlt
      simp only [Value.slice.injEq, true_and] at hv
      obtain ⟨rfl, rfl⟩ := hv
      generalize hx : xs.getD k 0 = x at hcell
      have HL : Hid (xs.drop k = x :: xs.drop (k + 1)) := by rw [← hx]; exact drop_cons hlt
      clear hx
      have hlt' : (k : Int) < (xs.length : Int) := by omega
      have hbl := cell_lt hcell
      have hgo : hangF d (xs.drop (k + 1)) (bits .or .u32 z (atR d x)) = G := by
        have := HGk.out
        rw [HL.out] at this
        exact this
      have HGo : Hid _ := hgo
      clear hgo
      go_wp2_with (go_at_call 126; refine (HGet.out _ _).mono ?_; rintro e w3 ⟨rfl, hb3⟩)
      go_roundw
      case rel => exact ⟨k + 1, _, by omega, by go_num, rfl, HGo.out, Below.thru hB hb3 (Nat.le_refl _)⟩
      case measure => simp [intOf]; omega
    · have h := HGk.out
      rw [List.drop_of_length_le (by omega)] at h
      have hz : z = G := h
      subst hz
      clear HGk h
      go_wp2
      go_ret
      exact ⟨rfl, B1.trans (hB.mono B1.size)⟩
end Go.Proofs.YtcalinfdckklfaaGreatDoor

namespace Go.Proofs.YtcalinfdckklfaaGreatDoor
open Go.RowKit

/-- A block that holds a file; one that holds an instruction. -/
def FileAt (w : World) (b : Nat) (v d : Nat → Int) (t : TypeId) : Prop := Blk w b #[.int .i64 (v 0), .int .i64 (v 1), .int .i64 (v 2), .int .i64 (v 3), .int .u32 (d 0), .int .u32 (d 1), .int .u32 (d 2), .int .u32 (d 3)] t
def InsB (w : World) (b : Nat) (op xd xa xb l i : Int) : Prop := Blk w b #[.int .i64 op, .int .i64 xd, .int .i64 xa, .int .i64 xb, .int .i64 l, .int .i64 i] 72
theorem FileAt.keep {w w' : World} {b : Nat} {v d : Nat → Int} {t : TypeId} (h : FileAt w b v d t) (hb : Below w.heap.size w w') : FileAt w' b v d t := Blk.keep h hb
theorem InsB.keep {w w' : World} {b : Nat} {op xd xa xb l i : Int} (h : InsB w b op xd xa xb l i) (hb : Below w.heap.size w w') : InsB w' b op xd xa xb l i := Blk.keep h hb
theorem FileAt.lt {w : World} {b : Nat} {v d : Nat → Int} {t : TypeId} (h : FileAt w b v d t) : b < w.heap.size := Blk.lt h
theorem InsB.lt {w : World} {b : Nat} {op xd xa xb l i : Int} (h : InsB w b op xd xa xb l i) : b < w.heap.size := Blk.lt h
theorem FileAt.cells {w : World} {b : Nat} {v d : Nat → Int} {t : TypeId} (h : FileAt w b v d t) : (w.cell? ⟨b, 0, none⟩ = some (.int .i64 (v 0)) ∧ w.cell? ⟨b, 1, none⟩ = some (.int .i64 (v 1)) ∧ w.cell? ⟨b, 2, none⟩ = some (.int .i64 (v 2)) ∧ w.cell? ⟨b, 3, none⟩ = some (.int .i64 (v 3))) ∧
    w.cell? ⟨b, 4, none⟩ = some (.int .u32 (d 0)) ∧ w.cell? ⟨b, 5, none⟩ = some (.int .u32 (d 1)) ∧ w.cell? ⟨b, 6, none⟩ = some (.int .u32 (d 2)) ∧ w.cell? ⟨b, 7, none⟩ = some (.int .u32 (d 3)) := by
  have k := fun i => Blk.cell h i
  exact ⟨⟨(k 0).trans rfl, (k 1).trans rfl, (k 2).trans rfl, (k 3).trans rfl⟩, (k 4).trans rfl, (k 5).trans rfl, (k 6).trans rfl, (k 7).trans rfl⟩
theorem InsB.cells {w : World} {b : Nat} {op xd xa xb l i : Int} (h : InsB w b op xd xa xb l i) : w.cell? ⟨b, 0, none⟩ = some (.int .i64 op) ∧ w.cell? ⟨b, 1, none⟩ = some (.int .i64 xd) ∧ w.cell? ⟨b, 2, none⟩ = some (.int .i64 xa) ∧
    w.cell? ⟨b, 3, none⟩ = some (.int .i64 xb) ∧ w.cell? ⟨b, 4, none⟩ = some (.int .i64 l) ∧ w.cell? ⟨b, 5, none⟩ = some (.int .i64 i) := by
  have k := fun i => Blk.cell h i
  exact ⟨(k 0).trans rfl, (k 1).trans rfl, (k 2).trans rfl, (k 3).trans rfl, (k 4).trans rfl, (k 5).trans rfl⟩

theorem FileAt.frozen {w : World} {b : Nat} {v d : Nat → Int} {t : TypeId} (h : FileAt w b v d t) : (w.frozen? ⟨b, 0, none⟩ = false ∧ w.frozen? ⟨b, 1, none⟩ = false ∧ w.frozen? ⟨b, 2, none⟩ = false ∧ w.frozen? ⟨b, 3, none⟩ = false) ∧
    w.frozen? ⟨b, 4, none⟩ = false ∧ w.frozen? ⟨b, 5, none⟩ = false ∧ w.frozen? ⟨b, 6, none⟩ = false ∧ w.frozen? ⟨b, 7, none⟩ = false :=
  ⟨⟨Blk.frozen h 0, Blk.frozen h 1, Blk.frozen h 2, Blk.frozen h 3⟩, Blk.frozen h 4, Blk.frozen h 5, Blk.frozen h 6, Blk.frozen h 7⟩
/-- A whole file written, cell by cell. -/
def put8 (w : World) (b : Nat) (v d : Nat → Int) : World := (((((((w.setCell ⟨b, 0, none⟩ (.int .i64 (v 0))).setCell ⟨b, 1, none⟩ (.int .i64 (v 1))).setCell ⟨b, 2, none⟩ (.int .i64 (v 2))).setCell ⟨b, 3, none⟩ (.int .i64 (v 3))).setCell ⟨b, 4, none⟩ (.int .u32 (d 0))).setCell ⟨b, 5, none⟩ (.int .u32 (d 1))).setCell ⟨b, 6, none⟩ (.int .u32 (d 2))).setCell ⟨b, 7, none⟩ (.int .u32 (d 3))
theorem FileAt.put {w : World} {b : Nat} {v d v' d' : Nat → Int} {t : TypeId} (h : FileAt w b v d t) : FileAt (put8 w b v' d') b v' d' t := by
  have k := Blk.set (i := 7) (Blk.set (i := 6) (Blk.set (i := 5) (Blk.set (i := 4) (Blk.set (i := 3) (Blk.set (i := 2) (Blk.set (i := 1) (Blk.set (i := 0) h (.int .i64 (v' 0))) (.int .i64 (v' 1))) (.int .i64 (v' 2))) (.int .i64 (v' 3))) (.int .u32 (d' 0))) (.int .u32 (d' 1))) (.int .u32 (d' 2))) (.int .u32 (d' 3))
  simp only [List.setIfInBounds_toArray, List.set] at k
  exact k
theorem below_setC {w : World} {b i : Nat} {B : Nat} {a : World} (h : Below B a w) (hB : B ≤ b) (v : Value) : Below B a (w.setCell ⟨b, i, none⟩ v) :=
  ⟨h.os, h.tape, h.output, Nat.le_trans h.size (by simp [World.setCell]), fun k hk => (Below.heap_setCell _ _ _ _ (by simp; omega)).trans (h.block k hk)⟩
theorem below_put8 {w : World} {b : Nat} {B : Nat} {a : World} (h : Below B a w) (hB : B ≤ b) (v d : Nat → Int) : Below B a (put8 w b v d) :=
  below_setC (below_setC (below_setC (below_setC (below_setC (below_setC (below_setC (below_setC h hB _) hB _) hB _) hB _) hB _) hB _) hB _) hB _

theorem FileAt.at {w : World} {b : Nat} {v d : Nat → Int} {t : TypeId} (h : FileAt w b v d t) {k : Nat} (hk : k < 4) : w.cell? ⟨b, k, none⟩ = some (.int .i64 (v k)) ∧ w.cell? ⟨b, 4 + k, none⟩ = some (.int .u32 (d k)) := by
  obtain ⟨⟨c0, c1, c2, c3⟩, c4, c5, c6, c7⟩ := h.cells
  match k, hk with
  | 0, _ => exact ⟨c0, c4⟩
  | 1, _ => exact ⟨c1, c5⟩
  | 2, _ => exact ⟨c2, c6⟩
  | 3, _ => exact ⟨c3, c7⟩
theorem FileAt.new {w : World} {v d : Nat → Int} {t : TypeId} : FileAt (w.alloc (.cells #[.int .i64 (v 0), .int .i64 (v 1), .int .i64 (v 2), .int .i64 (v 3), .int .u32 (d 0), .int .u32 (d 1), .int .u32 (d 2), .int .u32 (d 3)] t)) w.heap.size v d t := Blk.new
theorem InsB.new {w : World} {op xd xa xb l i : Int} : InsB (w.alloc (.cells #[.int .i64 op, .int .i64 xd, .int .i64 xa, .int .i64 xb, .int .i64 l, .int .i64 i] 72)) w.heap.size op xd xa xb l i := Blk.new
theorem below_new (w : World) (o : Obj) : Below w.heap.size w (w.alloc o) := (Below.refl _ _).alloc (Nat.le_refl _) o
end Go.Proofs.YtcalinfdckklfaaGreatDoor

namespace Go.Proofs.YtcalinfdckklfaaGreatDoor
open Go.RowKit

/-- Sets: numbers of 32 bits. -/
theorem or_nat {a b : Nat} (ha : a < 4294967296) (hb : b < 4294967296) : bits .or .u32 (a : Int) (b : Int) = ((a ||| b : Nat) : Int) := by
  have hx : a ||| b < 2 ^ 32 := Nat.or_lt_two_pow (by omega) (by omega)
  have h1 : (BitVec.ofInt 32 (a : Int)).toNat = a := by rw [BitVec.ofInt_natCast, BitVec.toNat_ofNat]; exact Nat.mod_eq_of_lt (by omega)
  have h2 : (BitVec.ofInt 32 (b : Int)).toNat = b := by rw [BitVec.ofInt_natCast, BitVec.toNat_ofNat]; exact Nat.mod_eq_of_lt (by omega)
  show IntKind.u32.wrap ((BitVec.ofInt 32 (a : Int) ||| BitVec.ofInt 32 (b : Int)).toNat : Int) = _
  rw [BitVec.toNat_or, h1, h2, IntKind.wrap_u32]
  omega
theorem or_0 {a : Int} (h : 0 ≤ a) (h' : a < 4294967296) : bits .or .u32 0 a = a := by
  obtain ⟨n, rfl⟩ : ∃ n : Nat, a = (n : Int) := ⟨a.toNat, by omega⟩
  have := or_nat (a := 0) (b := n) (by decide) (by omega)
  rw [Nat.zero_or] at this
  exact this
theorem uses_two {op : Int} (h : op = 2 ∨ op = 3 ∨ op = 4) (a b : Nat) : usesL op a b = [(a : Int), (b : Int)] := by
  have hA : hasAB op = true := by rcases h with rfl | rfl | rfl <;> decide
  have hB : hasBB op = true := by rcases h with rfl | rfl | rfl <;> decide
  unfold usesL
  rw [hA, hB]
  simp
theorem uses_mov (a b : Int) : usesL 1 a b = [] := by
  have hA : hasAB 1 = false := by decide
  have hB : hasBB 1 = false := by decide
  unfold usesL
  rw [hA, hB]
  simp
end Go.Proofs.YtcalinfdckklfaaGreatDoor

namespace Go.Proofs.YtcalinfdckklfaaGreatDoor
open Go.RowKit

theorem info_i64 : ((Tryz.prog.info? 2).map fun i => (i.zero, i.size, i.bytes)) = some (some (.int .i64 0), 1, 8) := by kernel_rfl
theorem info_u32 : ((Tryz.prog.info? 29).map fun i => (i.zero, i.size, i.bytes)) = some (some (.int .u32 0), 1, 4) := by kernel_rfl
theorem four_same (n : Nat) (a b c d : Int) (w : World) : (Op.equalIn (n + 2) 28 (.agg #[.int .i64 a, .int .i64 b, .int .i64 c, .int .i64 d]) (.agg #[.int .i64 a, .int .i64 b, .int .i64 c, .int .i64 d])).run Tryz.prog w = .ok true w := by
  have h1 : Tryz.prog.underlying 28 = some (.array 4 2) := by kernel_rfl
  have h3 : Tryz.prog.underlying 2 = some (.int .i64) := by kernel_rfl
  obtain ⟨i0, j1, j2, j3, j4⟩ := info_parts info_i64
  rw [Op.equalIn]
  simp only [Sem.run_bind, run_underlying h1, Result.andThen_ok]
  simp [sizeOf, typeInfo, j1, j3, List.range', part, run_equalIn_int _ n 2 .i64 .i64 _ _ h3]
theorem fourD_same (n : Nat) (a b c d : Int) (w : World) : (Op.equalIn (n + 2) 30 (.agg #[.int .u32 a, .int .u32 b, .int .u32 c, .int .u32 d]) (.agg #[.int .u32 a, .int .u32 b, .int .u32 c, .int .u32 d])).run Tryz.prog w = .ok true w := by
  have h1 : Tryz.prog.underlying 30 = some (.array 4 29) := by kernel_rfl
  have h3 : Tryz.prog.underlying 29 = some (.int .u32) := by kernel_rfl
  obtain ⟨i0, j1, j2, j3, j4⟩ := info_parts info_u32
  rw [Op.equalIn]
  simp only [Sem.run_bind, run_underlying h1, Result.andThen_ok]
  simp [sizeOf, typeInfo, j1, j3, List.range', part, run_equalIn_int _ n 29 .u32 .u32 _ _ h3]

theorem four_same' (a b c d : Int) (w : World) : (Op.equalIn 9999 28 (.agg #[.int .i64 a, .int .i64 b, .int .i64 c, .int .i64 d]) (.agg #[.int .i64 a, .int .i64 b, .int .i64 c, .int .i64 d])).run Tryz.prog w = .ok true w := four_same 9997 a b c d w
theorem fourD_same' (a b c d : Int) (w : World) : (Op.equalIn 9999 30 (.agg #[.int .u32 a, .int .u32 b, .int .u32 c, .int .u32 d]) (.agg #[.int .u32 a, .int .u32 b, .int .u32 c, .int .u32 d])).run Tryz.prog w = .ok true w := fourD_same 9997 a b c d w

end Go.Proofs.YtcalinfdckklfaaGreatDoor
