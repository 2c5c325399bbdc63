/- Contracts of slices.Clone at numbers and at outcomes, and of cond.deepCopy. -/
import Derived.Test.YtdealgleehbhlaaDoorCondMade
import Derived.Test.YtdealgleehbhlaaDoorCondCmp2
import Derived.Test.YtdealgleehbhlaaDoorRepB
import Derived.Test.YtdealgleehbhlaaDoorMixL
namespace Go.Proofs.YtdealgleehbhlaaDoor
open Go.RowKit

theorem own_new {α : Type} {A : Nat → Prop} {R : Elem α} {w : World} {base g : Nat} {e : TypeId} (hb : base ≤ g) (h : Blk w g #[] e) : Own A R w base e (.slice (some ⟨g, 0, none⟩) 0 0) [] :=
  ⟨[], ⟨by simp, .inr ⟨g, 0, #[], rfl, hb, h, Nat.le_refl _, by unfold maxLen; omega, by simp, by simp⟩⟩, rfl, fun i h => by simp at h⟩
theorem info_i64 : ((Tryd.prog.info? 2).map fun i => (i.zero.map (·.cells.size), i.size, i.bytes)) = some (some 1, 1, 8) := by kernel_rfl
theorem info_nums : ((Tryd.prog.info? 34).map fun i => (i.zero.map (·.cells.size), i.size, i.bytes)) = some (some 1, 1, 24) := by kernel_rfl
theorem info_out : ((Tryd.prog.info? 36).map fun i => (i.zero.map (·.cells.size), i.size, i.bytes)) = some (some 2, 2, 48) := by kernel_rfl
theorem eqlNums (w : World) (a : Option Addr) (l c : Nat) : (binOp .eql 34 (.slice a l c) (.slice none 0 0)).run Tryd.prog w = .ok (.bool a.isNone) w := eql_slice_nil w _ _ a l c Tryd.underlying34
theorem eqlOuts (w : World) (a : Option Addr) (l c : Nat) : (binOp .eql 25 (.slice a l c) (.slice none 0 0)).run Tryd.prog w = .ok (.bool a.isNone) w := eql_slice_nil w _ _ a l c Tryd.underlying25
attribute [local go_sem] eqlNums eqlOuts

theorem nil_of {α : Type} {A : Nat → Prop} {R : Elem α} {w : World} {n c : Nat} {xs : List α} (h : SlA A R w (.slice none n c) xs) : xs = [] := by
  obtain ⟨p, cap, e, _, h⟩ := h
  simp only [Value.slice.injEq] at e
  obtain ⟨rfl, _, _⟩ := e
  by_cases hx : xs = []
  · exact hx
  · obtain ⟨b, o, e, _⟩ := h hx
    cases e

set_option maxHeartbeats 1000000 in
theorem cloneI_any (p : Option Addr) (c : Nat) (xs : List Int) (w : World) (hx : Sl IntE w (.slice p xs.length c) xs) (hz : xs.length * 8 ≤ 140737488355328) :
    Calls Tryd.prog 48 #[.slice p xs.length c] w fun e w' => ∃ v, e = .returned v ∧ SlA (fun b => w.heap.size ≤ b) IntE w' v xs ∧ Below w.heap.size w w' := by
  obtain ⟨i0, z0, j1, j2, j3, j4, j5⟩ := info_get info_i64
  have J1 : Hid _ := j1
  have J2 : Hid _ := j2
  have J3 : Hid _ := j3
  have J4 : Hid _ := j4
  have J5 : Hid _ := j5
  clear j1 j2 j3 j4 j5
  cases p with
  | none =>
    have e := nil_of hx
    subst e
    clear hx
    go_enter Tryd.func48, Tryd.ntmps48
    go_wp2
    go_ret
    exact ⟨_, rfl, SlA.nil, Below.refl _ _⟩
  | some ad =>
    go_enter Tryd.func48, Tryd.ntmps48
    have hb := (Below.refl w.heap.size w).alloc (Nat.le_refl _) (.cells #[] 2)
    have hk : Blk (w.alloc (.cells #[] 2)) w.heap.size #[] 2 := Blk.new
    have hx1 := hx.keep hb
    go_wp2_with (at_builtin; refine wpList_appB (R := IntE) (A := fun _ => False) (B := fun _ => True) (xs := []) (ys := xs) (by rfl) (.tmp 5) (.tmp 6) 34 2 i0 z0 8 (by rfl) Tryd.underlying34 J1.out J2.out J4.out J5.out J3.out w.heap.size (.slice (some ⟨w.heap.size, 0, none⟩) 0 0) (.slice (some ad) xs.length c) (by rfl) (by rfl) (own_new (Nat.le_refl _) hk) hx1 (fun _ _ _ h => h) (by simp only [List.length_nil]; unfold maxLen; omega) (by simpa using hz) (by simp) ?_; intro p6 c6 w6 hO6 hg6 _; simp only [List.nil_append] at hO6 ⊢)
    go_ret
    exact ⟨_, rfl, SlA.mono (fun b hb => hb.elim id False.elim) hO6.sl, hb.grown hg6 (by simp) (fun k hk => by simp [Value.ownBlock] at hk; omega)⟩

set_option maxHeartbeats 1000000 in
theorem cloneO_any (p : Option Addr) (c : Nat) (xs : List Out) (w : World) (hx : Sl OutE w (.slice p xs.length c) xs) (hz : xs.length ≤ 1000) :
    Calls Tryd.prog 34 #[.slice p xs.length c] w fun e w' => ∃ v, e = .returned v ∧ Own (fun b => b < w.heap.size) OutE w' w.heap.size 36 v xs ∧ Below w.heap.size w w' := by
  obtain ⟨i0, z0, j1, j2, j3, j4, j5⟩ := info_get info_out
  have J1 : Hid _ := j1
  have J2 : Hid _ := j2
  have J3 : Hid _ := j3
  have J4 : Hid _ := j4
  have J5 : Hid _ := j5
  clear j1 j2 j3 j4 j5
  cases p with
  | none =>
    have e := nil_of hx
    subst e
    clear hx
    go_enter Tryd.func34, Tryd.ntmps34
    go_wp2
    go_ret
    exact ⟨_, rfl, Own.nil, Below.refl _ _⟩
  | some ad =>
    go_enter Tryd.func34, Tryd.ntmps34
    have hb := (Below.refl w.heap.size w).alloc (Nat.le_refl _) (.cells #[] 36)
    have hk : Blk (w.alloc (.cells #[] 36)) w.heap.size #[] 36 := Blk.new
    have hx1 := hx.old.keep hb
    go_wp2_with (at_builtin; refine wpList_appB (R := OutE) (A := fun b => b < w.heap.size) (B := fun b => b < w.heap.size) (xs := []) (ys := xs) (by rfl) (.tmp 5) (.tmp 6) 25 36 i0 z0 48 (by rfl) Tryd.underlying25 J1.out J2.out J4.out J5.out J3.out w.heap.size (.slice (some ⟨w.heap.size, 0, none⟩) 0 0) (.slice (some ad) xs.length c) (by rfl) (by rfl) (own_new (Nat.le_refl _) hk) hx1 (fun _ _ _ h => OutE.mono (fun b hb => ⟨hb, fun e => by simp [Value.ownBlock] at e; omega⟩) h) (by simp only [List.length_nil]; unfold maxLen; omega) (by simp only [List.length_nil]; omega) (by simp) ?_; intro p6 c6 w6 hO6 hg6 _; simp only [List.nil_append] at hO6 ⊢)
    go_ret
    exact ⟨_, rfl, hO6, hb.grown hg6 (by simp) (fun k hk => by simp [Value.ownBlock] at hk; omega)⟩
end Go.Proofs.YtdealgleehbhlaaDoor
