/- Rows of numbers of the call's own, and lists of what is left open, in memory. -/
import Derived.Test.YtgffeihfcmbobaaSrcG
import Derived.Test.YtgffeihfcmbobaaRelP
import Derived.Test.YtgffeihfcmbobaaSrcMay2
import Derived.Test.YtgffeihfcmbobaaRepeat
namespace Go.Proofs.Ytgffeihfcmbobaa
open Go.RowKit

def RowZ (w : World) (b : Nat) (L : List Int) : Prop := Blk w b (L.map (Value.int .i64)).toArray 3
section
variable {w w' : World} {b : Nat} {L : List Int}
theorem RowZ.lt (h : RowZ w b L) : b < w.heap.size := Blk.lt h
theorem RowZ.cell (h : RowZ w b L) {i : Nat} (hi : i < L.length) : w.cell? ⟨b, i, none⟩ = some (.int .i64 (L.getD i 0)) := by
  rw [Blk.cell h]
  simp [List.getElem?_eq_getElem hi]
theorem RowZ.frozen (h : RowZ w b L) (i : Nat) : w.frozen? ⟨b, i, none⟩ = false := Blk.frozen h i
theorem RowZ.keep (h : RowZ w b L) (hb : Below w.heap.size w w') : RowZ w' b L := Blk.keep h hb
theorem RowZ.grown {row : Option Nat} (h : RowZ w b L) (hg : w.grownBy w' row) (hr : some b ≠ row) : RowZ w' b L := Blk.grown h hg hr
theorem RowZ.only {A : Nat → Prop} (h : RowZ w b L) (ho : Only A w w') (ha : ¬ A b) : RowZ w' b L := Blk.only h ho ha
theorem RowZ.set (h : RowZ w b L) (i : Nat) (x : Int) : RowZ (w.setCell ⟨b, i, none⟩ (.int .i64 x)) b (L.set i x) := by
  have h1 := Blk.set (i := i) h (.int .i64 x)
  unfold RowZ
  rw [List.map_set]
  simpa using h1
theorem RowZ.sl {A : Nat → Prop} (h : RowZ w b L) (hA : A b) : SlA A IntE w (.slice (some ⟨b, 0, none⟩) L.length L.length) L := by
  refine ⟨_, _, rfl, ⟨(fun e => by cases e), Nat.le_refl _⟩, fun _ => ⟨b, 0, rfl, hA, fun i hi => ⟨_, rfl, fun j u hu => ?_⟩⟩⟩
  match j, hu with
  | 0, hu =>
    have := h.cell hi
    rw [List.getD_eq_getElem?_getD, List.getElem?_eq_getElem hi] at this
    simp only [List.getElem?_cons_zero, Option.some.injEq] at hu
    subst hu
    simpa [IntE] using this
  | j + 1, hu => simp at hu
theorem setCell_only (w : World) (b i : Nat) (v : Value) : Only (fun k => k = b) w (w.setCell ⟨b, i, none⟩ v) := grownBy_only (grownBy_set w ⟨b, i, none⟩ v) fun k hk => by cases hk; rfl
end
/-- A read, and whence it may read. -/
def ChoE : Elem (Nat × List Int) where
  size := 2
  pos := by decide
  cs := fun A w x c => ∃ v, c = [.int .i64 (x.1 : Int), v] ∧ SlA A IntE w v x.2
  len := fun ⟨_, h, _⟩ => by subst h; rfl
  one := fun ⟨v, h, h2⟩ u hu => by
    subst h
    obtain ⟨p, cap, rfl⟩ := h2.len
    simp at hu
    rcases hu with rfl | rfl <;> rfl
  keep := fun ⟨v, h, h2⟩ hw => ⟨v, h, h2.agree hw⟩
  mono := fun hAB ⟨v, h, h2⟩ => ⟨v, h, h2.mono hAB⟩
  lt := fun ⟨v, h, h2⟩ => ⟨v, h, h2.lt⟩
theorem cho_at {A : Nat → Prop} {w : World} {p : Option Addr} {n c : Nat} {xs : List (Nat × List Int)} (h : SlA A ChoE w (.slice p n c) xs) : n = xs.length ∧ ∀ k (hk : k < xs.length), ∃ b o v, p = some ⟨b, o, none⟩ ∧ A b ∧ SlA A IntE w v xs[k].2 ∧ w.cell? ⟨b, o + k * 2, none⟩ = some (.int .i64 (xs[k].1 : Int)) ∧ w.cell? ⟨b, o + k * 2 + 1, none⟩ = some v := by
  obtain ⟨h1, h2⟩ := h.at
  refine ⟨h1, fun k hk => ?_⟩
  obtain ⟨b, o, rfl, hA, cs, ⟨v, h3, hz⟩, h4⟩ := h2 k hk
  subst h3
  exact ⟨b, o, v, rfl, hA, hz, h4 0 _ rfl, h4 1 _ rfl⟩
end Go.Proofs.Ytgffeihfcmbobaa
