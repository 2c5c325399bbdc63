/- What is kept while the document's Read goes through the fields of an instruction. -/
import Derived.Test.YtjmcplbhjihepaaDoorTextRefLine
import Derived.Test.YtjmcplbhjihepaaDoorTextRead
import Derived.Test.YtjmcplbhjihepaaDoorRepN
namespace Go.Proofs.YtjmcplbhjihepaaDoor
open Go.RowKit

def zero6 : Array Value := #[.int .i64 0, .int .i64 0, .int .i64 0, .int .i64 0, .int .i64 0, .int .i64 0]
structure St (w0 : World) (n1 R Y lb lo : Nat) (g : Nat → List UInt8) (ws : List (List UInt8)) (vw : Value) (arr : Array Value) (W : World) : Prop where
  below : Below w0.heap.size w0 W
  res : Blk W R zero6 23
  own : Blk W Y arr 23
  cells : ∀ j, j < 5 → W.cell? ⟨lb, lo + j, none⟩ = some (.string ⟨(g j).toArray⟩)
  words : SlA (fun b => b < n1) StrE W vw ws
  o1 : w0.heap.size ≤ Y
  o2 : R < Y
  o3 : lb ≠ Y
  o4 : n1 ≤ Y
section
variable {w0 W W' : World} {n1 R Y lb lo : Nat} {g : Nat → List UInt8} {ws : List (List UInt8)} {vw : Value} {arr : Array Value}
theorem St.keep (h : St w0 n1 R Y lb lo g ws vw arr W) (hb : Below W.heap.size W W') : St w0 n1 R Y lb lo g ws vw arr W' :=
  ⟨h.below.trans (hb.mono h.below.size), h.res.keep hb, h.own.keep hb, fun j hj => cell_keep (h.cells j hj) hb, h.words.keep hb, h.o1, h.o2, h.o3, h.o4⟩
theorem St.set (h : St w0 n1 R Y lb lo g ws vw arr W) (i : Nat) (v : Value) : St w0 n1 R Y lb lo g ws vw (arr.setIfInBounds i v) (W.setCell ⟨Y, i, none⟩ v) := by
  have gg := grownBy_set W ⟨Y, i, none⟩ v
  have o2 := h.o2
  have o3 := h.o3
  have o4 := h.o4
  refine ⟨h.below.setCell (p := ⟨Y, i, none⟩) h.o1 v, h.res.grown gg (by simp; omega), h.own.set v, fun j hj => ?_, h.words.agree (grownBy_agree gg (fun b hb e => by simp at e; omega)), h.o1, o2, o3, o4⟩
  exact cell_agree (A := fun b => b ≠ Y) (h.cells j hj) o3 (grownBy_agree gg (fun b hb e => by simp at e; exact hb e))
theorem St.four (h : St w0 n1 R Y lb lo g ws vw arr W) : lb < W.heap.size ∧ W.cell? ⟨lb, lo, none⟩ = some (.string ⟨(g 0).toArray⟩) ∧ W.cell? ⟨lb, lo + 1, none⟩ = some (.string ⟨(g 1).toArray⟩) ∧ W.cell? ⟨lb, lo + 2, none⟩ = some (.string ⟨(g 2).toArray⟩) ∧ W.cell? ⟨lb, lo + 3, none⟩ = some (.string ⟨(g 3).toArray⟩) :=
  ⟨cell_lt (h.cells 0 (by omega)), h.cells 0 (by omega), h.cells 1 (by omega), h.cells 2 (by omega), h.cells 3 (by omega)⟩
theorem St.cell (h : St w0 n1 R Y lb lo g ws vw arr W) (j : Nat) : W.cell? ⟨Y, j, none⟩ = arr[j]? := h.own.cell j
theorem St.frozen (h : St w0 n1 R Y lb lo g ws vw arr W) (j : Nat) : W.frozen? ⟨Y, j, none⟩ = false := h.own.frozen j
end
theorem split_len (c : UInt8) : ∀ (l cur p : List UInt8), p ∈ split c cur l → p.length ≤ cur.length + l.length
  | [], cur, p, h => by simp [split] at h; subst h; simp
  | x :: r, cur, p, h => by
    simp only [split] at h
    by_cases hx : x = c
    · simp only [hx, if_true, List.mem_cons] at h
      rcases h with rfl | h
      · simp
      · have := split_len c r [] p h; simp at this ⊢; omega
    · simp only [hx, if_false] at h
      have := split_len c r (cur ++ [x]) p h
      simp at this ⊢; omega
theorem numF_in : ∀ (l : List UInt8) (n : Int), in64 n → in64 (numF l n)
  | [], _, h => h
  | c :: l, n, h => numF_in l (digF n c) (by
    unfold in64 digF at *
    split
    · simp only [IntKind.wrap_i64]; omega
    · exact h)
theorem numR_in (l : List UInt8) : in64 (numR l) := by
  have h := numF_in l 0 ⟨by decide, by decide⟩
  unfold numR
  cases negL l
  · unfold in64; simp only [cond_false, IntKind.wrap_i64]; omega
  · exact h
/-- The fields out of the words, in turn. -/
def refV (op : Int) (u : Nat → Int) (k : Nat) : Int := bif hasF op k then u (atAt op k) else 0
theorem refV_is (op : Int) (ws : List (List UInt8)) (k : Nat) : refVal op ws k = refV op (fun j => numR (ws.getD j [])) k := rfl

/-- Five empty texts behind a list: the first five places. -/
def five : List (List UInt8) := [[], [], [], [], []]
theorem five_blk {w : World} {b : Nat} {t : TypeId} {A : Nat → Prop} (hA : A b) (h : Blk w b #[.string ⟨#[]⟩, .string ⟨#[]⟩, .string ⟨#[]⟩, .string ⟨#[]⟩, .string ⟨#[]⟩] t) : SlA A StrE w (.slice (some ⟨b, 0, none⟩) 5 5) five := by
  refine ⟨_, 5, rfl, ⟨(fun e => by cases e), Nat.le_refl _⟩, fun _ => ⟨b, 0, rfl, hA, fun i hi => ⟨[.string ⟨#[]⟩], ?_, fun j u hu => ?_⟩⟩⟩
  · have : i = 0 ∨ i = 1 ∨ i = 2 ∨ i = 3 ∨ i = 4 := by simp [five] at hi; omega
    rcases this with rfl | rfl | rfl | rfl | rfl <;> rfl
  · have hi' : i = 0 ∨ i = 1 ∨ i = 2 ∨ i = 3 ∨ i = 4 := by simp [five] at hi; omega
    match j, hu with
    | 0, hu =>
      simp at hu; subst hu
      rcases hi' with rfl | rfl | rfl | rfl | rfl
      · exact h.cell 0
      · exact h.cell 1
      · exact h.cell 2
      · exact h.cell 3
      · exact h.cell 4
    | j + 1, hu => simp at hu
theorem five_cells {A : Nat → Prop} {w : World} {p : Option Addr} {n c : Nat} {t : List (List UInt8)} (h : SlA A StrE w (.slice p n c) (t ++ five)) :
    n = t.length + 5 ∧ ∃ b o, p = some ⟨b, o, none⟩ ∧ A b ∧ ∀ j, j < 5 → w.cell? ⟨b, o + j, none⟩ = some (.string ⟨((t ++ five).getD j []).toArray⟩) := by
  have hl : (t ++ five).length = t.length + 5 := by simp [five]
  obtain ⟨h1, h2⟩ := str_at h
  obtain ⟨_, h3⟩ := h.at
  obtain ⟨b, o, rfl, hA, _⟩ := h3 0 (by omega)
  refine ⟨by omega, b, o, rfl, hA, fun j hj => ?_⟩
  obtain ⟨b', o', e, hc⟩ := h2 j (by omega)
  simp only [Option.some.injEq, Addr.mk.injEq, and_true] at e
  obtain ⟨rfl, rfl⟩ := e
  rw [hc]
  simp [List.getD, List.getElem?_eq_getElem (show j < (t ++ five).length by omega)]
end Go.Proofs.YtjmcplbhjihepaaDoor
