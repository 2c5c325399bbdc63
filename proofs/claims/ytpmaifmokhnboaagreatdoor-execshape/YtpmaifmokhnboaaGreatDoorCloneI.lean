/- Contract of slices.Clone at numbers. -/
import Derived.Test.YtpmaifmokhnboaaGreatDoorRepB
import Derived.Test.YtpmaifmokhnboaaGreatDoorBase
import Derived.Test.YtpmaifmokhnboaaGreatDoorProg
namespace Go.Proofs.YtpmaifmokhnboaaGreatDoor
open Go.RowKit

theorem cl_get {P : Program} {t : TypeId} {a b c : Nat} (h : ((P.info? t).map fun i => (i.zero.map (·.cells.size), i.size, i.bytes)) = some (some a, b, c)) : ∃ i z, P.info? t = some i ∧ i.zero = some z ∧ z.cells.size = a ∧ i.size = b ∧ i.bytes = c := by
  cases hi : P.info? t with
  | none => rw [hi] at h; simp at h
  | some i =>
    rw [hi] at h
    simp only [Option.map_some, Option.some.injEq, Prod.mk.injEq] at h
    obtain ⟨h1, h2, h3⟩ := h
    cases hz : i.zero with
    | none => rw [hz] at h1; simp at h1
    | some z => rw [hz] at h1; simp at h1; exact ⟨i, z, rfl, hz, h1, h2, h3⟩
theorem own_new {α : Type} {A : Nat → Prop} {R : Elem α} {w : World} {base g : Nat} {e : TypeId} (hb : base ≤ g) (h : Blk w g #[] e) : Own A R w base e (.slice (some ⟨g, 0, none⟩) 0 0) [] :=
  ⟨[], ⟨by simp, .inr ⟨g, 0, #[], rfl, hb, h, Nat.le_refl _, by unfold maxLen; omega, by simp, by simp⟩⟩, rfl, fun i h => by simp at h⟩
theorem info_i64cl : ((Tryz.prog.info? 2).map fun i => (i.zero.map (·.cells.size), i.size, i.bytes)) = some (some 1, 1, 8) := by kernel_rfl
theorem eqlNums (w : World) (a : Option Addr) (l c : Nat) : (binOp .eql 60 (.slice a l c) (.slice none 0 0)).run Tryz.prog w = .ok (.bool a.isNone) w := eql_slice_nil w _ _ a l c Tryz.underlying60
attribute [local go_sem] eqlNums

theorem nil_of {α : Type} {A : Nat → Prop} {R : Elem α} {w : World} {n c : Nat} {xs : List α} (h : SlA A R w (.slice none n c) xs) : xs = [] := by
  obtain ⟨p, cap, e, _, h⟩ := h
  simp only [Value.slice.injEq] at e
  obtain ⟨rfl, _, _⟩ := e
  by_cases hx : xs = []
  · exact hx
  · obtain ⟨b, o, e, _⟩ := h hx
    cases e

set_option maxHeartbeats 1000000 in
theorem cloneI_any (p : Option Addr) (c : Nat) (xs : List Int) (w : World) (hx : Sl IntE w (.slice p xs.length c) xs) (hz : xs.length * 8 ≤ 140737488355328) :
    Calls Tryz.prog 69 #[.slice p xs.length c] w fun e w' => ∃ v, e = .returned v ∧ SlA (fun b => w.heap.size ≤ b) IntE w' v xs ∧ Below w.heap.size w w' := by
  obtain ⟨i0, z0, j1, j2, j3, j4, j5⟩ := cl_get info_i64cl
  have J1 : Hid _ := j1
  have J2 : Hid _ := j2
  have J3 : Hid _ := j3
  have J4 : Hid _ := j4
  have J5 : Hid _ := j5
  clear j1 j2 j3 j4 j5
  cases p with
  | none =>
    have e := nil_of hx
    subst e
    clear hx
    go_enter Tryz.func69, Tryz.ntmps69
    go_wp2
    go_ret
    exact ⟨_, rfl, SlA.nil, Below.refl _ _⟩
  | some ad =>
    go_enter Tryz.func69, Tryz.ntmps69
    have hb := (Below.refl w.heap.size w).alloc (Nat.le_refl _) (.cells #[] 2)
    have hk : Blk (w.alloc (.cells #[] 2)) w.heap.size #[] 2 := Blk.new
    have hx1 := hx.keep hb
    go_wp2_with (at_builtin; refine wpList_appB (R := IntE) (A := fun _ => False) (B := fun _ => True) (xs := []) (ys := xs) (by rfl) (.tmp 5) (.tmp 6) 60 2 i0 z0 8 (by rfl) Tryz.underlying60 J1.out J2.out J4.out J5.out J3.out w.heap.size (.slice (some ⟨w.heap.size, 0, none⟩) 0 0) (.slice (some ad) xs.length c) (by rfl) (by rfl) (own_new (Nat.le_refl _) hk) hx1 (fun _ _ _ h => h) (by simp only [List.length_nil]; unfold maxLen; omega) (by simpa using hz) (by simp) ?_; intro p6 c6 w6 hO6 hg6 _; simp only [List.nil_append] at hO6 ⊢)
    go_ret
    exact ⟨_, rfl, SlA.mono (fun b hb => hb.elim id False.elim) hO6.sl, hb.grown hg6 (by simp) (fun k hk => by simp [Value.ownBlock] at hk; omega)⟩

end Go.Proofs.YtpmaifmokhnboaaGreatDoor
