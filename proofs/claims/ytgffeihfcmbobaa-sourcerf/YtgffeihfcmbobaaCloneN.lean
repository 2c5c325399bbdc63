/- Contract of slices.Clone at a row of ints. -/
import Derived.Test.YtgffeihfcmbobaaCloneI
namespace Go.Proofs.Ytgffeihfcmbobaa
open Go.RowKit

theorem info_intcl : ((Try.prog.info? 3).map fun i => (i.zero.map (·.cells.size), i.size, i.bytes)) = some (some 1, 1, 8) := by kernel_rfl
theorem eqlNumsN (w : World) (a : Option Addr) (l c : Nat) : (binOp .eql 24 (.slice a l c) (.slice none 0 0)).run Try.prog w = .ok (.bool a.isNone) w := eql_slice_nil w _ _ a l c Try.underlying24
attribute [local go_sem] eqlNumsN

set_option maxHeartbeats 1000000 in
theorem cloneN_any (p : Option Addr) (c : Nat) (xs : List Int) (w : World) (hx : Sl IntE w (.slice p xs.length c) xs) (hz : xs.length * 8 ≤ 140737488355328) :
    Calls Try.prog 28 #[.slice p xs.length c] w fun e w' => ∃ v, e = .returned v ∧ SlA (fun b => w.heap.size ≤ b) IntE w' v xs ∧ Below w.heap.size w w' := by
  obtain ⟨i0, z0, j1, j2, j3, j4, j5⟩ := cl_get info_intcl
  have J1 : Hid _ := j1
  have J2 : Hid _ := j2
  have J3 : Hid _ := j3
  have J4 : Hid _ := j4
  have J5 : Hid _ := j5
  clear j1 j2 j3 j4 j5
  cases p with
  | none =>
    have e := nil_of hx
    subst e
    clear hx
    go_enter Try.func28, Try.ntmps28
    go_wp2
    go_ret
    exact ⟨_, rfl, SlA.nil, Below.refl _ _⟩
  | some ad =>
    go_enter Try.func28, Try.ntmps28
    have hb := (Below.refl w.heap.size w).alloc (Nat.le_refl _) (.cells #[] 3)
    have hk : Blk (w.alloc (.cells #[] 3)) w.heap.size #[] 3 := Blk.new
    have hx1 := hx.keep hb
    go_wp2_with (at_builtin; refine wpList_appB (R := IntE) (A := fun _ => False) (B := fun _ => True) (xs := []) (ys := xs) (by rfl) (.tmp 5) (.tmp 6) 24 3 i0 z0 8 (by rfl) Try.underlying24 J1.out J2.out J4.out J5.out J3.out w.heap.size (.slice (some ⟨w.heap.size, 0, none⟩) 0 0) (.slice (some ad) xs.length c) (by rfl) (by rfl) (own_new (Nat.le_refl _) hk) hx1 (fun _ _ _ h => h) (by simp only [List.length_nil]; unfold maxLen; omega) (by simpa using hz) (by simp) ?_; intro p6 c6 w6 hO6 hg6 _; simp only [List.nil_append] at hO6 ⊢)
    go_ret
    exact ⟨_, rfl, SlA.mono (fun b hb => hb.elim id False.elim) hO6.sl, hb.grown hg6 (by simp) (fun k hk => by simp [Value.ownBlock] at hk; omega)⟩

end Go.Proofs.Ytgffeihfcmbobaa
