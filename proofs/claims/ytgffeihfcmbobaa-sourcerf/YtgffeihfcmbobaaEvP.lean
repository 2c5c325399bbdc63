/- Events in memory, and what an execution's cells are. -/
import Derived.Test.YtgffeihfcmbobaaBase
import Derived.Test.YtgffeihfcmbobaaProg
namespace Go.Proofs.Ytgffeihfcmbobaa
open Go.RowKit

/-- An event. -/
structure Ev where
  th : Int
  kd : Int
  lc : Int
  vl : Int
  aq : Bool
  rl : Bool
  ex : Bool
def Ev.cells (e : Ev) : List Value := [.int .i64 e.th, .int .i64 e.kd, .int .i64 e.lc, .int .i64 e.vl, .bool e.aq, .bool e.rl, .bool e.ex]
def EvE : Elem Ev where
  size := 7
  pos := by decide
  cs := fun _ _ x c => c = x.cells
  len := fun h => by subst h; rfl
  one := fun h u hu => by subst h; simp [Ev.cells] at hu; rcases hu with rfl | rfl | rfl | rfl | rfl | rfl | rfl <;> rfl
  keep := fun h _ => h
  mono := fun _ h => h
  lt := fun h => h
def EvAt (w : World) (b o : Nat) (x : Ev) : Prop :=
  w.cell? ⟨b, o, none⟩ = some (.int .i64 x.th) ∧ w.cell? ⟨b, o + 1, none⟩ = some (.int .i64 x.kd) ∧ w.cell? ⟨b, o + 2, none⟩ = some (.int .i64 x.lc) ∧
  w.cell? ⟨b, o + 3, none⟩ = some (.int .i64 x.vl) ∧ w.cell? ⟨b, o + 4, none⟩ = some (.bool x.aq) ∧ w.cell? ⟨b, o + 5, none⟩ = some (.bool x.rl) ∧ w.cell? ⟨b, o + 6, none⟩ = some (.bool x.ex)
theorem ev_at {A : Nat → Prop} {w : World} {p : Option Addr} {n c : Nat} {xs : List Ev} (h : SlA A EvE w (.slice p n c) xs) : n = xs.length ∧ ∀ k (hk : k < xs.length), ∃ b o, p = some ⟨b, o, none⟩ ∧ EvAt w b (o + k * 7) xs[k] := by
  obtain ⟨h1, h2⟩ := h.at
  refine ⟨h1, fun k hk => ?_⟩
  obtain ⟨b, o, rfl, _, cs, h3, h4⟩ := h2 k hk
  have e : cs = xs[k].cells := h3
  subst e
  exact ⟨b, o, rfl, h4 0 _ rfl, h4 1 _ rfl, h4 2 _ rfl, h4 3 _ rfl, h4 4 _ rfl, h4 5 _ rfl, h4 6 _ rfl⟩
/-- Nowhere. -/
def F0 : Nat → Prop := fun _ => False
def exC (r : Nat → Value) : Array Value := #[r 0, r 1, r 2, r 3, r 4, r 5, r 6]
/-- A number of 64 bits. -/
def InZ (n : Int) : Prop := (Lit.int .i64 n).wf = true
theorem inZ_of {n : Int} (h1 : -1000000 ≤ n) (h2 : n ≤ 1000000) : InZ n := WalkArith.wf_i64 (by omega)
theorem inZ0 : InZ 0 := inZ_of (by decide) (by decide)
theorem below_new (w : World) (o : Obj) : Below w.heap.size w (w.alloc o) := (Below.refl _ _).alloc (Nat.le_refl _) o
theorem ev_cells {w : World} {b : Nat} {a : Ev} {t : TypeId} (h : Blk w b a.cells.toArray t) : w.cell? ⟨b, 0, none⟩ = some (.int .i64 a.th) ∧ w.cell? ⟨b, 1, none⟩ = some (.int .i64 a.kd) ∧ w.cell? ⟨b, 2, none⟩ = some (.int .i64 a.lc) ∧ w.cell? ⟨b, 3, none⟩ = some (.int .i64 a.vl) ∧ w.cell? ⟨b, 4, none⟩ = some (.bool a.aq) ∧ w.cell? ⟨b, 5, none⟩ = some (.bool a.rl) ∧ w.cell? ⟨b, 6, none⟩ = some (.bool a.ex) :=
  ⟨h.cell 0, h.cell 1, h.cell 2, h.cell 3, h.cell 4, h.cell 5, h.cell 6⟩
section
variable {ops : Array Oper} {rest : List Oper} {o : Oper} {a : Act} {w : World} {Q : Exit → Act → World → Prop}
/-- An event is stored into a new block. -/
theorem wpList_toldE (hgd : o.guard = none) (x y : Operand) (ho : o.op = .store 49 x y) (e : Ev) (hx : a.eval x = .pointer (some ⟨w.heap.size, 0, none⟩)) (hy : a.eval y = .agg e.cells.toArray)
    (h : ∀ w', Blk w' w.heap.size e.cells.toArray 49 → Below w.heap.size w w' → wpList Try.prog ops Q rest (a.put o.dst undef) w') : wpList Try.prog ops Q (o :: rest) a (w.alloc (.cells #[.int .i64 0, .int .i64 0, .int .i64 0, .int .i64 0, .bool false, .bool false, .bool false] 49 (0, 0))) := by
  refine wpList_storeB hgd 49 x y ho w.heap.size e.cells.toArray _ 49 hx hy Blk.new (by kernel_rfl) (by rfl) (by simp [Value.oneCell', Ev.cells]) ?_
  intro w4 kL oL zL
  exact h w4 kL ((below_new _ _).trans (oL.below (by simp) (fun k hk => by omega)))
end
/-- One thing, in a new block. -/
theorem sl_single {α : Type} {R : Elem α} {A : Nat → Prop} {w : World} {b c : Nat} {x : α} {cs : List Value} (hA : A b) (hx : R.cs A w x cs) (h : ∀ j u, cs[j]? = some u → w.cell? ⟨b, j, none⟩ = some u) (hc : 1 ≤ c) : SlA A R w (.slice (some ⟨b, 0, none⟩) 1 c) [x] := by
  refine ⟨_, c, rfl, ⟨(fun e => by cases e), hc⟩, fun _ => ⟨b, 0, rfl, hA, fun i hi => ⟨cs, ?_, fun j u hu => ?_⟩⟩⟩
  · have : i = 0 := by simp at hi; omega
    subst this
    exact hx
  · have : i = 0 := by simp at hi; omega
    subst this
    simpa using h j u hu

section
variable {α : Type} {R : Elem α} {P : Program} {w : World} {xs : List α} {x : α}
/-- An append of one thing that lies in a block of its own. -/
theorem wpList_push {ops : Array Oper} {rest : List Oper} {o : Oper} {a : Act} {Q : Exit → Act → World → Prop} (hgd : o.guard = none) (s y : Operand) (t e : TypeId) (i : TypeInfo) (z : Value) (bytes : Nat)
    (ho : o.op = .call { callee := .builtin .append, args := #[s, y], argTypes := #[t, t] })
    (ht : P.underlying t = some (.slice e)) (hi : P.info? e = some i) (hz : i.zero = some z) (hsize : i.size = R.size) (hby : i.bytes = bytes) (hzs : z.cells.size = R.size)
    (base : Nat) (v : Value) (g : Nat) (hs : a.eval s = v) (hx : a.eval y = .slice (some ⟨g, 0, none⟩) 1 1) (hown : Own F0 R w base e v xs)
    (cs : List Value) (hcs : ∀ A w, R.cs A w x cs) (hR : ∀ A B w y c, R.cs A w y c → R.cs B w y c) (hg : ∀ j u, cs[j]? = some u → w.cell? ⟨g, j, none⟩ = some u)
    (h63 : xs.length ≤ 1000000) (hbytes : bytes ≤ 1000000) (hbase : base ≤ w.heap.size)
    (h : ∀ p cap w', Own F0 R w' base e (.slice p (xs.length + 1) cap) (xs ++ [x]) → w.grownBy w' v.ownBlock → ((Value.slice p (xs.length + 1) cap).ownBlock = v.ownBlock ∨ (Value.slice p (xs.length + 1) cap).ownBlock = some w.heap.size) → wpList P ops Q rest (a.put o.dst (.slice p (xs.length + 1) cap)) w') : wpList P ops Q (o :: rest) a w :=
  wpList_app (A := F0) (B := fun _ => True) (ys := [x]) hgd s y t e i z bytes ho ht hi hz hsize hby hzs base v _ hs hx hown (sl_single trivial (hcs _ _) hg (Nat.le_refl _)) (fun _ _ _ hc => hR _ _ _ _ _ hc) (by simp; omega) hbytes hbase (fun p cap w' h1 h2 h3 => by rw [show (xs ++ [x]).length = xs.length + 1 by simp] at h1 h3 ⊢; exact h p cap w' h1 h2 h3)
end
/-- One thing, its row anywhere. -/
theorem slO_single {α : Type} {R : Elem α} {A : Nat → Prop} {w : World} {b c : Nat} {x : α} {cs : List Value} (hx : R.cs A w x cs) (h : ∀ j u, cs[j]? = some u → w.cell? ⟨b, j, none⟩ = some u) (hc : 1 ≤ c) : SlO A R w (.slice (some ⟨b, 0, none⟩) 1 c) [x] := by
  refine ⟨_, c, rfl, ⟨(fun e => by cases e), hc⟩, fun _ => ⟨b, 0, rfl, fun i hi => ⟨cs, ?_, fun j u hu => ?_⟩⟩⟩
  · have : i = 0 := by simp at hi; omega
    subst this
    exact hx
  · have : i = 0 := by simp at hi; omega
    subst this
    simpa using h j u hu
end Go.Proofs.Ytgffeihfcmbobaa
