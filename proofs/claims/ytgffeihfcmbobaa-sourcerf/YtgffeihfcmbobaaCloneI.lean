/- Contract of slices.Clone at numbers. -/
import Derived.Test.YtgffeihfcmbobaaRepB
import Derived.Test.YtgffeihfcmbobaaBase
import Derived.Test.YtgffeihfcmbobaaProg
namespace Go.Proofs.Ytgffeihfcmbobaa
open Go.RowKit

theorem cl_get {P : Program} {t : TypeId} {a b c : Nat} (h : ((P.info? t).map fun i => (i.zero.map (·.cells.size), i.size, i.bytes)) = some (some a, b, c)) : ∃ i z, P.info? t = some i ∧ i.zero = some z ∧ z.cells.size = a ∧ i.size = b ∧ i.bytes = c := by
  cases hi : P.info? t with
  | none => rw [hi] at h; simp at h
  | some i =>
    rw [hi] at h
    simp only [Option.map_some, Option.some.injEq, Prod.mk.injEq] at h
    obtain ⟨h1, h2, h3⟩ := h
    cases hz : i.zero with
    | none => rw [hz] at h1; simp at h1
    | some z => rw [hz] at h1; simp at h1; exact ⟨i, z, rfl, hz, h1, h2, h3⟩
theorem own_new {α : Type} {A : Nat → Prop} {R : Elem α} {w : World} {base g : Nat} {e : TypeId} (hb : base ≤ g) (h : Blk w g #[] e) : Own A R w base e (.slice (some ⟨g, 0, none⟩) 0 0) [] :=
  ⟨[], ⟨by simp, .inr ⟨g, 0, #[], rfl, hb, h, Nat.le_refl _, by unfold maxLen; omega, by simp, by simp⟩⟩, rfl, fun i h => by simp at h⟩
theorem info_i64cl : ((Try.prog.info? 2).map fun i => (i.zero.map (·.cells.size), i.size, i.bytes)) = some (some 1, 1, 8) := by kernel_rfl
theorem eqlNums (w : World) (a : Option Addr) (l c : Nat) : (binOp .eql 23 (.slice a l c) (.slice none 0 0)).run Try.prog w = .ok (.bool a.isNone) w := eql_slice_nil w _ _ a l c Try.underlying23
attribute [local go_sem] eqlNums

theorem nil_of {α : Type} {A : Nat → Prop} {R : Elem α} {w : World} {n c : Nat} {xs : List α} (h : SlA A R w (.slice none n c) xs) : xs = [] := by
  obtain ⟨p, cap, e, _, h⟩ := h
  simp only [Value.slice.injEq] at e
  obtain ⟨rfl, _, _⟩ := e
  by_cases hx : xs = []
  · exact hx
  · obtain ⟨b, o, e, _⟩ := h hx
    cases e

end Go.Proofs.Ytgffeihfcmbobaa
