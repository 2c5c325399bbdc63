/- Contracts of slices.Clone (of instructions, of numbers), of the closures that turn threads, and of test.turned, copied, Bare, Fenced. -/
import Derived.Test.YtpmecgagbjphdaaDoorTestRelaid
import Derived.Test.YtpmecgagbjphdaaDoorTestCheck
import Derived.Test.YtpmecgagbjphdaaDoorMix
namespace Go.Proofs.YtpmecgagbjphdaaDoor
open Go.RowKit

theorem Own.made {α : Type} {A : Nat → Prop} {R : Elem α} {w : World} {e : TypeId} : Own A R (w.alloc (.cells #[] e)) w.heap.size e (.slice (some ⟨w.heap.size, 0, none⟩) 0 0) [] :=
  ⟨[], World.ownsRow_made w #[] 0 (Nat.le_refl _) (Nat.zero_le _) (by simp), rfl, fun i h => by simp at h⟩
theorem Own.sl' {α : Type} {R : Elem α} {w : World} {base : Nat} {e : TypeId} {v : Value} {xs : List α} (h : Own (fun _ => False) R w base e v xs) : SlA (fun b => base ≤ b) R w v xs :=
  SlA.mono (fun b h => by rcases h with h | h; exact h; exact h.elim) h.sl

attribute [local go_sem] eql_slice_nil

set_option maxHeartbeats 1000000 in
theorem cloneIns_any (p : Option Addr) (c : Nat) (l : List Ins) (w : World) (hl : Sl InsE w (.slice p l.length c) l) (hL : l.length ≤ 1000000) :
    Calls Tryd.prog 45 #[.slice p l.length c] w fun e w' => ∃ p' c', e = .returned (.slice p' l.length c') ∧ SlA (fun b => w.heap.size ≤ b) InsE w' (.slice p' l.length c') l ∧ Below w.heap.size w w' := by
  obtain ⟨i0, z0, j1, j2, j3, j4, j5⟩ := info_get info_ins
  have J1 : Hid _ := j1
  have J2 : Hid _ := j2
  have J3 : Hid _ := j3
  have J4 : Hid _ := j4
  have J5 : Hid _ := j5
  clear j1 j2 j3 j4 j5
  cases p with
  | none =>
    have hl0 : l = [] := by
      cases l with
      | nil => rfl
      | cons x xs => obtain ⟨b, o, h, _⟩ := (ins_at hl).2 0 (by simp); cases h
    subst hl0
    go_enter Tryd.func45, Tryd.ntmps45
    go_wp2
    go_ret
    exact ⟨none, 0, rfl, SlA.nil, by go_grown⟩
  | some ad =>
    have hb1 := ((Below.refl w.heap.size w).alloc (Nat.le_refl _) (.cells #[] 40))
    go_enter Tryd.func45, Tryd.ntmps45
    go_wp2_with (at_builtin; refine wpList_app (R := InsE) (A := fun _ => False) (xs := []) (ys := l) (by rfl) (.tmp 5) (.tmp 6) 37 40 i0 z0 48 (by rfl) Tryd.underlying37 J1.out J2.out J4.out J5.out J3.out w.heap.size (.slice (some ⟨w.heap.size, 0, none⟩) 0 0) (.slice (some ad) l.length c) (by rfl) (by rfl) Own.made (hl.keep hb1) (fun _ _ _ h => h) (by simp; omega) (by decide) (by simp) ?_; intro p7 c7 w7 hO7 hg7 _)
    go_ret
    exact ⟨p7, c7, by simp, by simpa using hO7.sl', hb1.grown hg7 (by simp) (fun q hq => by simp [Value.ownBlock] at hq; omega)⟩

set_option maxHeartbeats 1000000 in
theorem cloneInt_any (p : Option Addr) (c : Nat) (l : List Int) (w : World) (hl : Sl IntE w (.slice p l.length c) l) (hL : l.length ≤ 1000000) :
    Calls Tryd.prog 46 #[.slice p l.length c] w fun e w' => ∃ p' c', e = .returned (.slice p' l.length c') ∧ SlA (fun b => w.heap.size ≤ b) IntE w' (.slice p' l.length c') l ∧ Below w.heap.size w w' := by
  obtain ⟨i0, z0, j1, j2, j3, j4, j5⟩ := info_get info_i64
  have J1 : Hid _ := j1
  have J2 : Hid _ := j2
  have J3 : Hid _ := j3
  have J4 : Hid _ := j4
  have J5 : Hid _ := j5
  clear j1 j2 j3 j4 j5
  cases p with
  | none =>
    have hl0 : l = [] := by
      cases l with
      | nil => rfl
      | cons x xs => obtain ⟨b, o, h, _⟩ := (ints_at hl).2 0 (by simp); cases h
    subst hl0
    go_enter Tryd.func46, Tryd.ntmps46
    go_wp2
    go_ret
    exact ⟨none, 0, rfl, SlA.nil, by go_grown⟩
  | some ad =>
    have hb1 := ((Below.refl w.heap.size w).alloc (Nat.le_refl _) (.cells #[] 2))
    go_enter Tryd.func46, Tryd.ntmps46
    go_wp2_with (at_builtin; refine wpList_app (R := IntE) (A := fun _ => False) (xs := []) (ys := l) (by rfl) (.tmp 5) (.tmp 6) 22 2 i0 z0 8 (by rfl) Tryd.underlying22 J1.out J2.out J4.out J5.out J3.out w.heap.size (.slice (some ⟨w.heap.size, 0, none⟩) 0 0) (.slice (some ad) l.length c) (by rfl) (by rfl) Own.made (hl.keep hb1) (fun _ _ _ h => h) (by simp; omega) (by decide) (by simp) ?_; intro p7 c7 w7 hO7 hg7 _)
    go_ret
    exact ⟨p7, c7, by simp, by simpa using hO7.sl', hb1.grown hg7 (by simp) (fun q hq => by simp [Value.ownBlock] at hq; omega)⟩

/-- A function that turns a thread. -/
def TurnOk (f : FuncId) (ok : List Ins → Bool) (g : List Ins → List Ins) : Prop := ∀ (p : Option Addr) (c : Nat) (l : List Ins) (w : World), Tab w → Sl InsE w (.slice p l.length c) l → l.length ≤ 1000000 → ok l = true →
  Calls Tryd.prog f #[.slice p l.length c] w fun e w' => ∃ p' c', e = .returned (.slice p' (g l).length c') ∧ SlA (fun b => w.heap.size ≤ b) InsE w' (.slice p' (g l).length c') (g l) ∧ Below w.heap.size w w'

theorem lay0_len (x : Ins) : (lay0 x).length ≤ 2 := by unfold lay0; cases fnB x.op <;> simp
theorem lay1_len (x : Ins) : (lay1 x).length ≤ 2 := by unfold lay1; split <;> simp

set_option maxHeartbeats 1000000 in
theorem bare1_ok : TurnOk 29 inside (relay lay0) := by
  intro p c l w T hl hL hin
  go_enter Tryd.func29, Tryd.ntmps29
  go_wp2_with (go_at_call 30; refine (relaid_any _ (.inl rfl) lay0 withoutBarrier_ok lay0_len _ _ _ _ T hl hL hin).mono ?_; rintro e w3 ⟨p3, c3, rfl, hs3, hb3⟩)
  go_ret
  exact ⟨p3, c3, rfl, hs3, hb3⟩
set_option maxHeartbeats 1000000 in
theorem fenced1_ok : TurnOk 32 inside (relay lay1) := by
  intro p c l w T hl hL hin
  go_enter Tryd.func32, Tryd.ntmps32
  go_wp2_with (go_at_call 30; refine (relaid_any _ (.inr rfl) lay1 withFence_ok lay1_len _ _ _ _ T hl hL hin).mono ?_; rintro e w3 ⟨p3, c3, rfl, hs3, hb3⟩)
  go_ret
  exact ⟨p3, c3, rfl, hs3, hb3⟩
set_option maxHeartbeats 1000000 in
theorem copied1_ok : TurnOk 44 (fun _ => true) id := by
  intro p c l w T hl hL _
  go_enter Tryd.func44, Tryd.ntmps44
  go_wp2_with (go_at_call 45; refine (cloneIns_any _ _ _ _ hl hL).mono ?_; rintro e w3 ⟨p3, c3, rfl, hs3, hb3⟩)
  go_ret
  exact ⟨p3, c3, rfl, hs3, hb3⟩
end Go.Proofs.YtpmecgagbjphdaaDoor
