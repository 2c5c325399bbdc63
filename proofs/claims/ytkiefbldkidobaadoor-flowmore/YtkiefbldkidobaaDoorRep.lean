/- Laws of no program: slices that read as lists (of ints, of structs, of slices), what they go on reading as while other blocks turn, and what an append makes of them. -/
import Derived.Test.YtkiefbldkidobaaDoorKit
import Derived.Deep.AppendLies
import Derived.Laws.AppendOwnNone
import Derived.Laws.Cover3
namespace Go.Proofs.YtkiefbldkidobaaDoor
open Go.RowKit

/-- The blocks of A that were there are as they were. -/
def Agree (A : Nat → Prop) (w w' : World) : Prop := ∀ b, A b → b < w.heap.size → w'.heap[b]? = w.heap[b]?

theorem Below.agree {A : Nat → Prop} {w w' : World} (h : Below w.heap.size w w') : Agree A w w' := fun b _ hb => h.block b hb
theorem Below.agreeAt {A : Nat → Prop} {B : Nat} {w w' : World} (h : Below B w w') (hA : ∀ b, A b → b < B) : Agree A w w' := fun b ha _ => h.block b (hA b ha)
theorem grownBy_agree {A : Nat → Prop} {w w' : World} {row : Option Nat} (h : w.grownBy w' row) (hA : ∀ b, A b → some b ≠ row) : Agree A w w' := fun b ha hb => h.block b hb (hA b ha)
theorem Agree.mono {A B : Nat → Prop} {w w' : World} (h : Agree A w w') (hAB : ∀ b, B b → A b) : Agree B w w' := fun b hb hl => h b (hAB b hb) hl

theorem cell_agree {A : Nat → Prop} {w w' : World} {b o : Nat} {v : Value} (h : w.cell? ⟨b, o, none⟩ = some v) (hA : A b) (hw : Agree A w w') : w'.cell? ⟨b, o, none⟩ = some v :=
  (World.cell?_of_block (w := w) (a := ⟨b, o, none⟩) (hw b hA (cell_lt h))).trans h
theorem cell_keep {w w' : World} {b o : Nat} {v : Value} (h : w.cell? ⟨b, o, none⟩ = some v) (hb : Below w.heap.size w w') : w'.cell? ⟨b, o, none⟩ = some v :=
  (hb.cell (p := ⟨b, o, none⟩) (cell_lt h)).trans h

/-- How x lies in cells, in blocks of A alone (where the cells point into memory). -/
structure Elem (α : Type) where
  size : Nat
  pos : 0 < size
  cs : (Nat → Prop) → World → α → List Value → Prop
  len : ∀ {A w x c}, cs A w x c → c.length = size
  one : ∀ {A w x c}, cs A w x c → ∀ u ∈ c, u.oneCell' = true
  keep : ∀ {A} {w w' : World} {x c}, cs A w x c → Agree A w w' → cs A w' x c
  mono : ∀ {A B : Nat → Prop} {w x c}, (∀ b, A b → B b) → cs A w x c → cs B w x c
  lt : ∀ {A} {w : World} {x c}, cs A w x c → cs (fun b => A b ∧ b < w.heap.size) w x c

/-- A slice that reads as a list, in blocks of A. -/
def SlA {α : Type} (A : Nat → Prop) (R : Elem α) (w : World) (v : Value) (xs : List α) : Prop :=
  ∃ p cap, v = .slice p xs.length cap ∧ ((p = none → cap = 0) ∧ xs.length ≤ cap) ∧ (xs ≠ [] → ∃ b o, p = some ⟨b, o, none⟩ ∧ A b ∧ ∀ i (h : i < xs.length), ∃ c, R.cs A w xs[i] c ∧ ∀ j u, c[j]? = some u → w.cell? ⟨b, o + i * R.size + j, none⟩ = some u)
def Sl {α : Type} (R : Elem α) (w : World) (v : Value) (xs : List α) : Prop := SlA (fun _ => True) R w v xs

section
variable {α : Type} {R : Elem α} {A B : Nat → Prop} {w w' : World} {v : Value} {xs ys : List α}

theorem SlA.agree (h : SlA A R w v xs) (hw : Agree A w w') : SlA A R w' v xs := by
  obtain ⟨p, cap, rfl, h0, h⟩ := h
  refine ⟨p, cap, rfl, h0, fun hne => ?_⟩
  obtain ⟨b, o, rfl, hA, h2⟩ := h hne
  refine ⟨b, o, rfl, hA, fun i hi => ?_⟩
  obtain ⟨c, h3, h4⟩ := h2 i hi
  exact ⟨c, R.keep h3 hw, fun j u hu => cell_agree (h4 j u hu) hA hw⟩
theorem SlA.keep (h : SlA A R w v xs) (hb : Below w.heap.size w w') : SlA A R w' v xs := h.agree (Below.agree hb)
theorem SlA.mono (hAB : ∀ b, A b → B b) (h : SlA A R w v xs) : SlA B R w v xs := by
  obtain ⟨p, cap, rfl, h0, h⟩ := h
  refine ⟨p, cap, rfl, h0, fun hne => ?_⟩
  obtain ⟨b, o, rfl, hA, h2⟩ := h hne
  refine ⟨b, o, rfl, hAB _ hA, fun i hi => ?_⟩
  obtain ⟨c, h3, h4⟩ := h2 i hi
  exact ⟨c, R.mono hAB h3, h4⟩
theorem SlA.any (h : SlA A R w v xs) : Sl R w v xs := SlA.mono (fun _ _ => trivial) h
theorem SlA.lt (h : SlA A R w v xs) : SlA (fun b => A b ∧ b < w.heap.size) R w v xs := by
  obtain ⟨p, cap, rfl, h0, h⟩ := h
  refine ⟨p, cap, rfl, h0, fun hne => ?_⟩
  obtain ⟨b, o, rfl, hA, h2⟩ := h hne
  have hb : b < w.heap.size := by
    obtain ⟨c, h3, h4⟩ := h2 0 (List.length_pos_iff.2 hne)
    have hl := R.len h3
    have hp := R.pos
    exact cell_lt (h4 0 c[0] (List.getElem?_eq_getElem (by omega)))
  refine ⟨b, o, rfl, ⟨hA, hb⟩, fun i hi => ?_⟩
  obtain ⟨c, h3, h4⟩ := h2 i hi
  exact ⟨c, R.lt h3, h4⟩
theorem SlA.len (h : SlA A R w v xs) : ∃ p cap, v = .slice p xs.length cap := by
  obtain ⟨p, cap, rfl, _⟩ := h; exact ⟨p, cap, rfl⟩
theorem SlA.cap {p : Option Addr} {n c : Nat} (h : SlA A R w (.slice p n c) xs) : xs.length ≤ c := by
  obtain ⟨p', c', he, h0, _⟩ := h
  simp only [Value.slice.injEq] at he
  obtain ⟨_, _, rfl⟩ := he
  exact h0.2
theorem SlA.nil : SlA A R w (.slice none 0 0) [] := ⟨none, 0, rfl, ⟨fun _ => rfl, Nat.le_refl _⟩, fun h => absurd rfl h⟩
theorem SlA.at {p : Option Addr} {n c : Nat} (h : SlA A R w (.slice p n c) xs) : n = xs.length ∧ ∀ k (hk : k < xs.length), ∃ b o, p = some ⟨b, o, none⟩ ∧ A b ∧ ∃ cs, R.cs A w xs[k] cs ∧ ∀ j u, cs[j]? = some u → w.cell? ⟨b, o + k * R.size + j, none⟩ = some u := by
  obtain ⟨p', c', he, _, h⟩ := h
  simp only [Value.slice.injEq] at he
  obtain ⟨rfl, rfl, rfl⟩ := he
  refine ⟨rfl, fun k hk => ?_⟩
  obtain ⟨b, o, rfl, hA, h2⟩ := h (fun e => by subst e; simp at hk)
  exact ⟨b, o, rfl, hA, h2 k hk⟩
theorem Sl.keep (h : Sl R w v xs) (hb : Below w.heap.size w w') : Sl R w' v xs := SlA.keep h hb
theorem Sl.len (h : Sl R w v xs) : ∃ p cap, v = .slice p xs.length cap := SlA.len h
/-- What was there stays in blocks that were there. -/
theorem Sl.old (h : Sl R w v xs) : SlA (fun b => b < w.heap.size) R w v xs := SlA.mono (fun _ h => h.2) (SlA.lt h)
/-- A part of a slice. -/
theorem SlA.part {p : Option Addr} {n c : Nat} (h : SlA A R w (.slice p n c) xs) {i k c' : Nat} (hik : i + k ≤ xs.length) (hk : 0 < k) (hc : k ≤ c') :
    ∃ b o, p = some ⟨b, o, none⟩ ∧ SlA A R w (.slice (some ⟨b, o + i * R.size, none⟩) k c') ((xs.drop i).take k) := by
  obtain ⟨hn, h⟩ := h.at
  obtain ⟨b, o, rfl, hA, _⟩ := h i (by omega)
  refine ⟨b, o, rfl, _, c', by rw [List.length_take, List.length_drop, Nat.min_eq_left (by omega)], ⟨(fun e => by cases e), by rw [List.length_take, List.length_drop]; omega⟩, fun _ => ⟨b, _, rfl, hA, fun j hj => ?_⟩⟩
  rw [List.length_take, List.length_drop] at hj
  obtain ⟨b', o', he, _, cs, h3, h4⟩ := h (i + j) (by omega)
  simp only [Option.some.injEq, Addr.mk.injEq, and_true] at he
  obtain ⟨rfl, rfl⟩ := he
  refine ⟨cs, by simpa [List.getElem_take, List.getElem_drop] using h3, fun m u hu => ?_⟩
  have := h4 m u hu
  rw [Nat.add_mul] at this
  rw [show o + i * R.size + j * R.size + m = o + (i * R.size + j * R.size) + m by omega]
  exact this
end

/-- What is left of a list behind k of it. -/
theorem drop_at {α : Type} {xs : List α} {k : Nat} (h : k < xs.length) : xs.drop k = xs[k] :: xs.drop (k + 1) := List.drop_eq_getElem_cons h
theorem len_eq0 {n : Nat} (h : n = 0) : ((n : Int) == 0) = true := by subst h; rfl
theorem len_ne0 {n : Nat} (h : n ≠ 0) : ((n : Int) == 0) = false := by simp; omega

/-- Ints. -/
def IntE : Elem Int where
  size := 1
  pos := Nat.one_pos
  cs := fun _ _ n c => c = [.int .i64 n]
  len := fun h => by subst h; rfl
  one := fun h u hu => by subst h; simp at hu; subst hu; rfl
  keep := fun h _ => h
  mono := fun _ h => h
  lt := fun h => h

/-- A slice in a slice. -/
def SlE {α : Type} (R : Elem α) : Elem (List α) where
  size := 1
  pos := Nat.one_pos
  cs := fun A w xs c => ∃ v, c = [v] ∧ SlA A R w v xs
  len := fun ⟨_, h, _⟩ => by subst h; rfl
  one := fun ⟨v, h, h2⟩ u hu => by subst h; simp at hu; subst hu; obtain ⟨p, cap, rfl⟩ := h2.len; rfl
  keep := fun ⟨v, h, h2⟩ hw => ⟨v, h, h2.agree hw⟩
  mono := fun hAB ⟨v, h, h2⟩ => ⟨v, h, h2.mono hAB⟩
  lt := fun ⟨v, h, h2⟩ => ⟨v, h, h2.lt⟩

/-- An instruction. -/
structure Ins where
  op : Int
  d : Int
  a : Int
  b : Int
  l : Int
  i : Int

def Ins.v (x : Ins) : Value := .agg #[.int .i64 x.op, .int .i64 x.d, .int .i64 x.a, .int .i64 x.b, .int .i64 x.l, .int .i64 x.i]
def Ins.cells (x : Ins) : List Value := [.int .i64 x.op, .int .i64 x.d, .int .i64 x.a, .int .i64 x.b, .int .i64 x.l, .int .i64 x.i]

def InsAt (w : World) (b o : Nat) (x : Ins) : Prop :=
  w.cell? ⟨b, o, none⟩ = some (.int .i64 x.op) ∧ w.cell? ⟨b, o + 1, none⟩ = some (.int .i64 x.d) ∧ w.cell? ⟨b, o + 2, none⟩ = some (.int .i64 x.a) ∧
  w.cell? ⟨b, o + 3, none⟩ = some (.int .i64 x.b) ∧ w.cell? ⟨b, o + 4, none⟩ = some (.int .i64 x.l) ∧ w.cell? ⟨b, o + 5, none⟩ = some (.int .i64 x.i)

def InsE : Elem Ins where
  size := 6
  pos := by decide
  cs := fun _ _ x c => c = x.cells
  len := fun h => by subst h; rfl
  one := fun h u hu => by subst h; simp [Ins.cells] at hu; rcases hu with rfl | rfl | rfl | rfl | rfl | rfl <;> rfl
  keep := fun h _ => h
  mono := fun _ h => h
  lt := fun h => h

/-- Threads. -/
def ThrE : Elem (List Ins) := SlE InsE

theorem ints_at {A : Nat → Prop} {w : World} {p : Option Addr} {n c : Nat} {xs : List Int} (h : SlA A IntE w (.slice p n c) xs) : n = xs.length ∧ ∀ k (hk : k < xs.length), ∃ b o, p = some ⟨b, o, none⟩ ∧ w.cell? ⟨b, o + k, none⟩ = some (.int .i64 xs[k]) := by
  obtain ⟨h1, h2⟩ := h.at
  refine ⟨h1, fun k hk => ?_⟩
  obtain ⟨b, o, rfl, _, cs, h3, h4⟩ := h2 k hk
  have := h4 0 _ (by rw [show cs = [.int .i64 xs[k]] from h3]; rfl)
  exact ⟨b, o, rfl, by simpa [IntE] using this⟩
theorem ins_at {A : Nat → Prop} {w : World} {p : Option Addr} {n c : Nat} {xs : List Ins} (h : SlA A InsE w (.slice p n c) xs) : n = xs.length ∧ ∀ k (hk : k < xs.length), ∃ b o, p = some ⟨b, o, none⟩ ∧ InsAt w b (o + k * 6) xs[k] := by
  obtain ⟨h1, h2⟩ := h.at
  refine ⟨h1, fun k hk => ?_⟩
  obtain ⟨b, o, rfl, _, cs, h3, h4⟩ := h2 k hk
  have e : cs = xs[k].cells := h3
  subst e
  exact ⟨b, o, rfl, h4 0 _ rfl, h4 1 _ rfl, h4 2 _ rfl, h4 3 _ rfl, h4 4 _ rfl, h4 5 _ rfl⟩
theorem sl_at {α : Type} {R : Elem α} {A : Nat → Prop} {w : World} {p : Option Addr} {n c : Nat} {xs : List (List α)} (h : SlA A (SlE R) w (.slice p n c) xs) : n = xs.length ∧ ∀ k (hk : k < xs.length), ∃ b o, p = some ⟨b, o, none⟩ ∧ ∃ v, w.cell? ⟨b, o + k, none⟩ = some v ∧ SlA A R w v xs[k] := by
  obtain ⟨h1, h2⟩ := h.at
  refine ⟨h1, fun k hk => ?_⟩
  obtain ⟨b, o, rfl, _, cs, ⟨v, rfl, h3⟩, h4⟩ := h2 k hk
  have := h4 0 v rfl
  exact ⟨b, o, rfl, v, by simpa [SlE] using this, h3⟩
theorem thr_at {A : Nat → Prop} {w : World} {p : Option Addr} {n c : Nat} {xs : List (List Ins)} (h : SlA A ThrE w (.slice p n c) xs) : n = xs.length ∧ ∀ k (hk : k < xs.length), ∃ b o, p = some ⟨b, o, none⟩ ∧ ∃ v, w.cell? ⟨b, o + k, none⟩ = some v ∧ SlA A InsE w v xs[k] := sl_at h

/-- A slice that the call makes by appending: its own row, and what its elements point to, in blocks of A, but not in that row. -/
def Own {α : Type} (A : Nat → Prop) (R : Elem α) (w : World) (base : Nat) (e : TypeId) (v : Value) (xs : List α) : Prop :=
  ∃ cc : List (List Value), w.ownsRow base e R.size v xs.length cc.flatten ∧ cc.length = xs.length ∧ ∀ i (h : i < xs.length) (h' : i < cc.length), R.cs (fun b => A b ∧ some b ≠ v.ownBlock) w xs[i] cc[i]

theorem Own.nil {α : Type} {A : Nat → Prop} {R : Elem α} {w : World} {base : Nat} {e : TypeId} : Own A R w base e (.slice none 0 0) [] :=
  ⟨[], World.ownsRow_nil _ _ _ _, rfl, fun i h => by simp at h⟩

section
variable {α : Type} {R : Elem α} {A B : Nat → Prop} {w w' : World} {v : Value} {xs ys : List α} {base : Nat} {e : TypeId}

theorem addr_add (b o j : Nat) : (⟨b, o, none⟩ : Addr).add j = ⟨b, o + j, none⟩ := by
  by_cases h : j = 0 <;> simp [Addr.add, h]

theorem flat_at {n : Nat} : ∀ {cc : List (List Value)} (_ : ∀ c ∈ cc, c.length = n) {i j : Nat} (hi : i < cc.length) {u : Value}, cc[i][j]? = some u → cc.flatten[i * n + j]? = some u
  | [], _, i, j, hi, _, _ => by simp at hi
  | c :: cc, hl, 0, j, _, u, hu => by
    have hj : j < c.length := by
      rcases Nat.lt_or_ge j c.length with h | h
      · exact h
      · simp [List.getElem?_eq_none h] at hu
    simp only [List.flatten_cons, Nat.zero_mul, Nat.zero_add]
    rw [List.getElem?_append_left hj]
    simpa using hu
  | c :: cc, hl, i + 1, j, hi, u, hu => by
    have hc : c.length = n := hl c (by simp)
    simp only [List.flatten_cons]
    rw [List.getElem?_append_right (by rw [hc, Nat.add_mul]; omega), show (i + 1) * n + j - c.length = i * n + j by rw [hc, Nat.add_mul]; omega]
    exact flat_at (fun c hc => hl c (by simp [hc])) (i := i) (by simpa using hi) (by simpa using hu)

theorem Own.lens {cc : List (List Value)} (h : ∀ i (h : i < xs.length) (h' : i < cc.length), R.cs A w xs[i] cc[i]) (hl : cc.length = xs.length) : ∀ c ∈ cc, c.length = R.size := by
  intro c hc
  obtain ⟨i, hi, rfl⟩ := List.getElem_of_mem hc
  exact R.len (h i (by omega) hi)
theorem Own.ones {cc : List (List Value)} (h : ∀ i (h : i < xs.length) (h' : i < cc.length), R.cs A w xs[i] cc[i]) (hl : cc.length = xs.length) : ∀ u ∈ cc.flatten, u.oneCell' = true := by
  intro u hu
  obtain ⟨c, hc, huc⟩ := List.mem_flatten.1 hu
  obtain ⟨i, hi, rfl⟩ := List.getElem_of_mem hc
  exact R.one (h i (by omega) hi) u huc

/-- What the call has made reads as the list. -/
theorem Own.sl (h : Own A R w base e v xs) : SlA (fun b => base ≤ b ∨ A b) R w v xs := by
  obtain ⟨cc, h1, h2, h3⟩ := h
  rcases h1.2 with ⟨rfl, h0⟩ | ⟨g, cap, cur, rfl, hb, _, hnc, _⟩
  · have : xs = [] := List.length_eq_zero_iff.1 h0
    subst this
    exact SlA.nil
  · refine ⟨_, cap, rfl, ⟨(fun e => by cases e), hnc⟩, fun _ => ⟨g, 0, rfl, .inl hb, fun i hi => ⟨cc[i]'(by omega), R.mono (fun b h => .inr h.1) (h3 i hi (by omega)), fun j u hu => ?_⟩⟩⟩
    have := h1.cells (g := g) rfl (i * R.size + j) u (flat_at (Own.lens h3 h2) (by omega) hu)
    rw [addr_add] at this
    rw [← this]
    congr 2
    omega
theorem Own.agree {row : Option Nat} (h : Own A R w base e v xs) (hg : w.grownBy w' row) (hr : ∀ k, row = some k → ¬ A k ∧ v.ownBlock ≠ some k) : Own A R w' base e v xs := by
  obtain ⟨cc, h1, h2, h3⟩ := h
  refine ⟨cc, h1.kept hg ?_, h2, fun i hi hi' => R.keep (h3 i hi hi') (grownBy_agree hg fun b hb he => (hr b he.symm).1 hb.1)⟩
  cases hv : v.ownBlock with
  | none => exact .inl rfl
  | some k => exact .inr fun he => (hr k he.symm).2 hv
theorem Own.keep (h : Own A R w base e v xs) (hb : Below w.heap.size w w') : Own A R w' base e v xs :=
  h.agree (Below.grownBy hb) (fun k hk => by cases hk)
theorem Own.len (h : Own A R w base e v xs) : ∃ p cap, v = .slice p xs.length cap := h.sl.len
theorem Own.lt (h : Own A R w base e v xs) : ∀ k, v.ownBlock = some k → base ≤ k ∧ k < w.heap.size := by
  obtain ⟨cc, h1, _⟩ := h; exact h1.lt

/-- A slice, as cells to be appended. -/
theorem SlA.cells (h : SlA B R w v ys) : ∃ (p : Option Addr) (cap : Nat) (cc : List (List Value)), v = .slice p ys.length cap ∧ (p = none → cap = 0 ∧ ys = []) ∧ cc.length = ys.length ∧ (∀ i (h : i < ys.length) (h' : i < cc.length), R.cs B w ys[i] cc[i]) ∧
    ∀ ad, p = some ad → ∀ j u, cc.flatten[j]? = some u → w.cell? (ad.add j) = some u := by
  obtain ⟨p, cap, rfl, h0, h⟩ := h
  by_cases hy : ys = []
  · subst hy
    exact ⟨p, cap, [], rfl, fun hp => ⟨h0.1 hp, rfl⟩, rfl, fun i h => by simp at h, fun ad _ j u hu => by simp at hu⟩
  · obtain ⟨b, o, rfl, _, h⟩ := h hy
    have : ∃ cc : List (List Value), cc.length = ys.length ∧ ∀ i (h : i < ys.length) (h' : i < cc.length), R.cs B w ys[i] cc[i] ∧ ∀ j u, cc[i][j]? = some u → w.cell? ⟨b, o + i * R.size + j, none⟩ = some u := by
      refine ⟨(List.finRange ys.length).map fun i => Classical.choose (h i.1 i.2), by simp, fun i hi hi' => ?_⟩
      simp only [List.getElem_map, List.getElem_finRange]
      exact Classical.choose_spec (h i hi)
    obtain ⟨cc, hl, hc⟩ := this
    refine ⟨_, cap, cc, rfl, (fun hp => by cases hp), hl, fun i h h' => (hc i h h').1, fun ad had j u hu => ?_⟩
    cases had
    have hlen : ∀ c ∈ cc, c.length = R.size := Own.lens (fun i h h' => (hc i h h').1) hl
    have hp := R.pos
    have hj : j < cc.flatten.length := by
      rcases Nat.lt_or_ge j cc.flatten.length with h | h
      · exact h
      · simp [List.getElem?_eq_none h] at hu
    have hfl : cc.flatten.length = cc.length * R.size := by
      clear hj hu hc hl
      induction cc with
      | nil => simp
      | cons c cc ih => simp only [List.flatten_cons, List.length_append, List.length_cons]; rw [hlen c (by simp), ih (fun c hc => hlen c (by simp [hc])), Nat.add_mul]; omega
    have hi : j / R.size < cc.length := by rw [Nat.div_lt_iff_lt_mul hp]; omega
    have hm : j % R.size < R.size := Nat.mod_lt _ hp
    have hcm : (cc[j / R.size])[j % R.size]? = some ((cc[j / R.size])[j % R.size]'(by rw [hlen _ (List.getElem_mem hi)]; exact hm)) := List.getElem?_eq_getElem _
    have e := flat_at hlen hi hcm
    have ej : j / R.size * R.size + j % R.size = j := by rw [Nat.mul_comm]; exact Nat.div_add_mod j R.size
    rw [ej, hu] at e
    have := (hc _ (by omega) hi).2 _ _ hcm
    rw [addr_add, ← (Option.some.inj e)] at *
    rw [← this]
    congr 2
    omega
end

section
variable {α : Type} {R : Elem α} {A B : Nat → Prop} {P : Program} {w : World} {xs ys : List α}

/-- THE LAW OF append, run. -/
theorem run_app (t ty e : TypeId) (i : TypeInfo) (z : Value) (bytes : Nat) (ht : P.underlying t = some (.slice e)) (hi : P.info? e = some i) (hz : i.zero = some z) (hsize : i.size = R.size) (hby : i.bytes = bytes) (hzs : z.cells.size = R.size)
    (base : Nat) (v u : Value) (hown : Own A R w base e v xs) (hu : SlA B R w u ys) (hB : ∀ y ∈ ys, ∀ c, R.cs B w y c → R.cs (fun b => A b ∧ some b ≠ v.ownBlock) w y c)
    (h63 : xs.length + ys.length ≤ 100000000) (hbytes : bytes ≤ 1000000) (hbase : base ≤ w.heap.size) :
    ∃ p cap w', (Builtin.append_ #[t, t] ty #[v, u]).run P w = .ok (.slice p (xs ++ ys).length cap) w' ∧ Own A R w' base e (.slice p (xs ++ ys).length cap) (xs ++ ys) ∧ w.grownBy w' v.ownBlock ∧
      ((Value.slice p (xs ++ ys).length cap).ownBlock = v.ownBlock ∨ (Value.slice p (xs ++ ys).length cap).ownBlock = some w.heap.size) := by
  obtain ⟨pu, cu, dd, rfl, hn, hdl, hd, hdc⟩ := hu.cells
  obtain ⟨cc, h1, h2, h3⟩ := hown
  cases pu with
  | none =>
    obtain ⟨rfl, rfl⟩ := hn rfl
    obtain ⟨p, cap, rfl⟩ := (show Own A R w base e v xs from ⟨cc, h1, h2, h3⟩).len
    refine ⟨p, cap, w, ?_, ?_, ⟨rfl, rfl, rfl, Nat.le_refl _, fun _ _ _ => rfl⟩, .inl (by simp)⟩
    · simp only [List.length_nil, List.append_nil]
      exact run_append_owned_none (P := P) (w := w) base t ty e i R.size ht hi _ _ _ h1
    · simp only [List.append_nil]
      exact ⟨cc, h1, h2, h3⟩
  | some ad =>
    have hl : dd.flatten.length = ys.length * R.size := by
      have hlen := Own.lens hd hdl
      rw [← hdl]
      clear hd hdl hdc hB hu hn h63
      induction dd with
      | nil => simp
      | cons c cc ih => simp only [List.flatten_cons, List.length_append, List.length_cons]; rw [hlen c (by simp), ih (fun c hc => hlen c (by simp [hc])), Nat.add_mul]; omega
    have hbb : (xs.length + ys.length) * bytes ≤ 140737488355328 := Nat.le_trans (Nat.mul_le_mul h63 hbytes) (by decide)
    obtain ⟨v', w', hr, h4, h5, _, h7⟩ := run_append_own_at (P := P) w base t ty e i z R.size bytes ht hi hz hsize hby hzs R.pos v xs.length cc.flatten h1 ad ys.length cu dd.flatten hl (hdc ad rfl) (Own.ones hd hdl) (by unfold maxLen; omega) hbb hbase
    have hlt := h1.lt
    have h4' : w'.ownsRow base e R.size v' (xs ++ ys).length (cc ++ dd).flatten := by rw [List.length_append, List.flatten_append]; exact h4
    have hown' : Own A R w' base e v' (xs ++ ys) := by
      refine ⟨cc ++ dd, h4', by simp [h2, hdl], fun k hk hk' => ?_⟩
      have hfix : ∀ x c, R.cs (fun b => A b ∧ some b ≠ v.ownBlock) w x c → R.cs (fun b => A b ∧ some b ≠ v'.ownBlock) w' x c := fun x c hx => by
        have a1 := R.keep (R.lt hx) (grownBy_agree h5 fun b hb => hb.1.2)
        refine R.mono (fun b hb => ⟨hb.1.1, ?_⟩) a1
        rcases h7 with h7 | h7
        · rw [h7]; exact hb.1.2
        · rw [h7]; intro e; injection e with e; omega
      by_cases hx : k < xs.length
      · rw [List.getElem_append_left hx, List.getElem_append_left (by omega)]
        exact hfix _ _ (h3 k hx (by omega))
      · rw [List.getElem_append_right (by omega), List.getElem_append_right (by omega)]
        have e : k - cc.length = k - xs.length := by omega
        simp only [e]
        have hy : k - xs.length < ys.length := by simp at hk; omega
        exact hfix _ _ (hB _ (List.getElem_mem hy) _ (hd _ hy (by omega)))
    obtain ⟨p, cap, rfl⟩ := hown'.len
    exact ⟨p, cap, w', hr, hown', h5, h7⟩

/-- At an operation of a region. -/
theorem wpList_app {ops : Array Oper} {rest : List Oper} {o : Oper} {a : Act} {Q : Exit → Act → World → Prop} (hgd : o.guard = none) (s x : Operand) (t e : TypeId) (i : TypeInfo) (z : Value) (bytes : Nat)
    (ho : o.op = .call { callee := .builtin .append, args := #[s, x], argTypes := #[t, t] })
    (ht : P.underlying t = some (.slice e)) (hi : P.info? e = some i) (hz : i.zero = some z) (hsize : i.size = R.size) (hby : i.bytes = bytes) (hzs : z.cells.size = R.size)
    (base : Nat) (v u : Value) (hs : a.eval s = v) (hx : a.eval x = u) (hown : Own A R w base e v xs) (hu : SlA B R w u ys) (hB : ∀ y ∈ ys, ∀ c, R.cs B w y c → R.cs (fun b => A b ∧ some b ≠ v.ownBlock) w y c)
    (h63 : xs.length + ys.length ≤ 100000000) (hbytes : bytes ≤ 1000000) (hbase : base ≤ w.heap.size)
    (h : ∀ p cap w', Own A R w' base e (.slice p (xs ++ ys).length cap) (xs ++ ys) → w.grownBy w' v.ownBlock → ((Value.slice p (xs ++ ys).length cap).ownBlock = v.ownBlock ∨ (Value.slice p (xs ++ ys).length cap).ownBlock = some w.heap.size) → wpList P ops Q rest (a.put o.dst (.slice p (xs ++ ys).length cap)) w') : wpList P ops Q (o :: rest) a w := by
  refine wpList_plain hgd fun K hK => ?_
  obtain ⟨p, cap, w', hr, h2, h3, h4⟩ := run_app (P := P) t o.type e i z bytes ht hi hz hsize hby hzs base v u hown hu hB h63 hbytes hbase
  unfold Oper.wp execOp
  simp only [ho, resolve, invoke, builtin, Sem.run_bind, Sem.run_pure, Result.andThen_ok, List.map_toArray, List.map_cons, List.map_nil, hs, hx, hr]
  exact hK _ _ (h p cap w' h2 h3 h4)
end

/-- 's == nil' of a slice. -/
theorem eql_slice_nil {P : Program} (w : World) (t e : TypeId) (a : Option Addr) (l c : Nat) (h : P.underlying t = some (.slice e)) : (binOp .eql t (.slice a l c) (.slice none 0 0)).run P w = .ok (.bool a.isNone) w := by
  simp only [binOp]
  simp [run_equal_slice_nil w t e a l c h]

/-- A block that is known whole (a variable's). -/
def Blk (w : World) (b : Nat) (cs : Array Value) (t : TypeId) : Prop := w.heap[b]? = some (.cells cs t (0, 0))
theorem Blk.lt {w : World} {b : Nat} {cs : Array Value} {t : TypeId} (h : Blk w b cs t) : b < w.heap.size := by
  rcases Nat.lt_or_ge b w.heap.size with h' | h'
  · exact h'
  · unfold Blk at h; rw [Array.getElem?_eq_none h'] at h; cases h
theorem Blk.cell {w : World} {b : Nat} {cs : Array Value} {t : TypeId} (h : Blk w b cs t) (i : Nat) : w.cell? ⟨b, i, none⟩ = cs[i]? := by
  unfold Blk at h; simp [World.cell?, h]
theorem Blk.frozen {w : World} {b : Nat} {cs : Array Value} {t : TypeId} (h : Blk w b cs t) (i : Nat) : w.frozen? ⟨b, i, none⟩ = false := by
  unfold Blk at h; simp [World.frozen?, h]
theorem Blk.keep {w w' : World} {b : Nat} {cs : Array Value} {t : TypeId} (h : Blk w b cs t) (hb : Below w.heap.size w w') : Blk w' b cs t := by
  unfold Blk at *; rw [hb.block b (Blk.lt h)]; exact h
theorem Blk.grown {w w' : World} {b : Nat} {cs : Array Value} {t : TypeId} {row : Option Nat} (h : Blk w b cs t) (hg : w.grownBy w' row) (hr : some b ≠ row) : Blk w' b cs t := by
  unfold Blk at *; rw [hg.block b (Blk.lt h) hr]; exact h
theorem Blk.new {w : World} {cs : Array Value} {t : TypeId} : Blk (w.alloc (.cells cs t (0, 0))) w.heap.size cs t := by
  unfold Blk; show (w.heap.push _)[w.heap.size]? = _; simp
theorem Blk.newAt {w : World} {b : Nat} {cs : Array Value} {t : TypeId} (h : w.heap.size = b) : Blk (w.alloc (.cells cs t (0, 0))) b cs t := by subst h; exact Blk.new
theorem Blk.alloc {w : World} {b : Nat} {cs : Array Value} {t : TypeId} (h : Blk w b cs t) (o : Obj) : Blk (w.alloc o) b cs t := h.keep ((Below.refl _ _).alloc (Nat.le_refl _) _)
theorem Blk.set {w : World} {b i : Nat} {cs : Array Value} {t : TypeId} (h : Blk w b cs t) (v : Value) : Blk (w.setCell ⟨b, i, none⟩ v) b (cs.setIfInBounds i v) t := by
  have := h.lt
  unfold Blk at *
  simp only [World.setCell, Array.getElem?_modify, if_true, h]
  rfl
theorem grownBy_set (w : World) (a : Addr) (v : Value) : w.grownBy (w.setCell a v) (some a.block) :=
  ⟨rfl, rfl, rfl, by simp [World.setCell], fun k _ hne => Below.heap_setCell _ _ _ _ (fun e => hne (by rw [e]))⟩
theorem Blk.drew {w : World} {b : Nat} {cs : Array Value} {t : TypeId} (h : Blk w b cs t) : Blk w.drew b cs t := h

/-- A slice of one slice, in a new block. -/
theorem sl_one {α : Type} {R : Elem α} {A : Nat → Prop} {w : World} {b c : Nat} {v : Value} {l : List α} (hA : A b) (h : w.cell? ⟨b, 0, none⟩ = some v) (hv : SlA A R w v l) (hc : 1 ≤ c) : SlA A (SlE R) w (.slice (some ⟨b, 0, none⟩) 1 c) [l] := by
  refine ⟨_, c, rfl, ⟨(fun e => by cases e), hc⟩, fun _ => ⟨b, 0, rfl, hA, fun i hi => ⟨[v], ?_, fun j u hu => ?_⟩⟩⟩
  · have : i = 0 := by simp at hi; omega
    subst this
    exact ⟨v, rfl, hv⟩
  · have : i = 0 := by simp at hi; omega
    subst this
    match j, hu with
    | 0, hu => simp at hu; subst hu; simpa using h
    | j + 1, hu => simp at hu

/-- Elements that point nowhere. -/
theorem int_flat {A B : Nat → Prop} {w : World} : ∀ (y : Int) (c : List Value), IntE.cs A w y c → IntE.cs B w y c := fun _ _ h => h
theorem ins_flat {A B : Nat → Prop} {w : World} : ∀ (y : Ins) (c : List Value), InsE.cs A w y c → InsE.cs B w y c := fun _ _ h => h

end Go.Proofs.YtkiefbldkidobaaDoor
