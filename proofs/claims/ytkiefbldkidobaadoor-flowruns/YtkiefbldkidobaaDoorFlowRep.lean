/- The runner of a thread in memory: its block, and the five rows that it appends to. -/
import Derived.Test.YtkiefbldkidobaaDoorFlowMath
import Derived.Test.YtkiefbldkidobaaDoorRepN
import Derived.Test.YtkiefbldkidobaaDoorOnly
namespace Go.Proofs.YtkiefbldkidobaaDoor
open Go.RowKit

def Ev.cells (e : Ev) : List Value := [.int .i64 e.th, .int .i64 e.kd, .int .i64 e.lc, .int .i64 e.vl, .bool e.aq, .bool e.rl, .bool e.ex]
def EvE : Elem Ev where
  size := 7
  pos := by decide
  cs := fun _ _ x c => c = x.cells
  len := fun h => by subst h; rfl
  one := fun h u hu => by subst h; simp [Ev.cells] at hu; rcases hu with rfl | rfl | rfl | rfl | rfl | rfl | rfl <;> rfl
  keep := fun h _ => h
  mono := fun _ h => h
  lt := fun h => h
/-- Sets of loads. -/
def MskE : Elem Int where
  size := 1
  pos := Nat.one_pos
  cs := fun _ _ n c => c = [.int .u32 n]
  len := fun h => by subst h; rfl
  one := fun h u hu => by subst h; simp at hu; subst hu; rfl
  keep := fun h _ => h
  mono := fun _ h => h
  lt := fun h => h
def BoolE : Elem Bool where
  size := 1
  pos := Nat.one_pos
  cs := fun _ _ n c => c = [.bool n]
  len := fun h => by subst h; rfl
  one := fun h u hu => by subst h; simp at hu; subst hu; rfl
  keep := fun h _ => h
  mono := fun _ h => h
  lt := fun h => h
theorem msk_at {A : Nat → Prop} {w : World} {p : Option Addr} {n c : Nat} {xs : List Int} (h : SlA A MskE w (.slice p n c) xs) : n = xs.length ∧ ∀ k (hk : k < xs.length), ∃ b o, p = some ⟨b, o, none⟩ ∧ w.cell? ⟨b, o + k, none⟩ = some (.int .u32 xs[k]) := by
  obtain ⟨h1, h2⟩ := h.at
  refine ⟨h1, fun k hk => ?_⟩
  obtain ⟨b, o, rfl, _, cs, h3, h4⟩ := h2 k hk
  have := h4 0 _ (by rw [show cs = [.int .u32 xs[k]] from h3]; rfl)
  exact ⟨b, o, rfl, by simpa [MskE] using this⟩
theorem bool_at {A : Nat → Prop} {w : World} {p : Option Addr} {n c : Nat} {xs : List Bool} (h : SlA A BoolE w (.slice p n c) xs) : n = xs.length ∧ ∀ k (hk : k < xs.length), ∃ b o, p = some ⟨b, o, none⟩ ∧ w.cell? ⟨b, o + k, none⟩ = some (.bool xs[k]) := by
  obtain ⟨h1, h2⟩ := h.at
  refine ⟨h1, fun k hk => ?_⟩
  obtain ⟨b, o, rfl, _, cs, h3, h4⟩ := h2 k hk
  have := h4 0 _ (by rw [show cs = [.bool xs[k]] from h3]; rfl)
  exact ⟨b, o, rfl, by simpa [BoolE] using this⟩
def EvAt (w : World) (b o : Nat) (x : Ev) : Prop :=
  w.cell? ⟨b, o, none⟩ = some (.int .i64 x.th) ∧ w.cell? ⟨b, o + 1, none⟩ = some (.int .i64 x.kd) ∧ w.cell? ⟨b, o + 2, none⟩ = some (.int .i64 x.lc) ∧
  w.cell? ⟨b, o + 3, none⟩ = some (.int .i64 x.vl) ∧ w.cell? ⟨b, o + 4, none⟩ = some (.bool x.aq) ∧ w.cell? ⟨b, o + 5, none⟩ = some (.bool x.rl) ∧ w.cell? ⟨b, o + 6, none⟩ = some (.bool x.ex)
theorem ev_at {A : Nat → Prop} {w : World} {p : Option Addr} {n c : Nat} {xs : List Ev} (h : SlA A EvE w (.slice p n c) xs) : n = xs.length ∧ ∀ k (hk : k < xs.length), ∃ b o, p = some ⟨b, o, none⟩ ∧ EvAt w b (o + k * 7) xs[k] := by
  obtain ⟨h1, h2⟩ := h.at
  refine ⟨h1, fun k hk => ?_⟩
  obtain ⟨b, o, rfl, _, cs, h3, h4⟩ := h2 k hk
  have e : cs = xs[k].cells := h3
  subst e
  exact ⟨b, o, rfl, h4 0 _ rfl, h4 1 _ rfl, h4 2 _ rfl, h4 3 _ rfl, h4 4 _ rfl, h4 5 _ rfl, h4 6 _ rfl⟩

/-- One thing, in a new block. -/
theorem sl_single {α : Type} {R : Elem α} {A : Nat → Prop} {w : World} {b c : Nat} {x : α} {cs : List Value} (hA : A b) (hx : R.cs A w x cs) (h : ∀ j u, cs[j]? = some u → w.cell? ⟨b, j, none⟩ = some u) (hc : 1 ≤ c) : SlA A R w (.slice (some ⟨b, 0, none⟩) 1 c) [x] := by
  refine ⟨_, c, rfl, ⟨(fun e => by cases e), hc⟩, fun _ => ⟨b, 0, rfl, hA, fun i hi => ⟨cs, ?_, fun j u hu => ?_⟩⟩⟩
  · have : i = 0 := by simp at hi; omega
    subst this
    exact hx
  · have : i = 0 := by simp at hi; omega
    subst this
    simpa using h j u hu

/-- Nowhere. -/
def F0 : Nat → Prop := fun _ => False

section
variable {α : Type} {R : Elem α} {P : Program} {w : World} {xs : List α} {x : α}
/-- An append of one thing that lies in a block of its own. -/
theorem wpList_push {ops : Array Oper} {rest : List Oper} {o : Oper} {a : Act} {Q : Exit → Act → World → Prop} (hgd : o.guard = none) (s y : Operand) (t e : TypeId) (i : TypeInfo) (z : Value) (bytes : Nat)
    (ho : o.op = .call { callee := .builtin .append, args := #[s, y], argTypes := #[t, t] })
    (ht : P.underlying t = some (.slice e)) (hi : P.info? e = some i) (hz : i.zero = some z) (hsize : i.size = R.size) (hby : i.bytes = bytes) (hzs : z.cells.size = R.size)
    (base : Nat) (v : Value) (g : Nat) (hs : a.eval s = v) (hx : a.eval y = .slice (some ⟨g, 0, none⟩) 1 1) (hown : Own F0 R w base e v xs)
    (cs : List Value) (hcs : ∀ A w, R.cs A w x cs) (hR : ∀ A B w y c, R.cs A w y c → R.cs B w y c) (hg : ∀ j u, cs[j]? = some u → w.cell? ⟨g, j, none⟩ = some u)
    (h63 : xs.length ≤ 1000000) (hbytes : bytes ≤ 1000000) (hbase : base ≤ w.heap.size)
    (h : ∀ p cap w', Own F0 R w' base e (.slice p (xs.length + 1) cap) (xs ++ [x]) → w.grownBy w' v.ownBlock → ((Value.slice p (xs.length + 1) cap).ownBlock = v.ownBlock ∨ (Value.slice p (xs.length + 1) cap).ownBlock = some w.heap.size) → wpList P ops Q rest (a.put o.dst (.slice p (xs.length + 1) cap)) w') : wpList P ops Q (o :: rest) a w :=
  wpList_app (A := F0) (B := fun _ => True) (ys := [x]) hgd s y t e i z bytes ho ht hi hz hsize hby hzs base v _ hs hx hown (sl_single trivial (hcs _ _) hg (Nat.le_refl _)) (fun _ _ _ hc => hR _ _ _ _ _ hc) (by simp; omega) hbytes hbase (fun p cap w' h1 h2 h3 => by rw [show (xs ++ [x]).length = xs.length + 1 by simp] at h1 h3 ⊢; exact h p cap w' h1 h2 h3)
end

/-- With another row. -/
def updV (r : Nat → Value) (i : Nat) (v : Value) : Nat → Value := fun k => if k = i then v else r k
theorem updV_same (r : Nat → Value) (i : Nat) (v : Value) : updV r i v i = v := if_pos rfl
theorem updV_other (r : Nat → Value) {i k : Nat} (v : Value) (h : k ≠ i) : updV r i v k = r k := if_neg h

/-- The five rows of a trace. -/
structure Five (w : World) (base : Nat) (r : Nat → Value) (evs : List Ev) (ad da ct pa : List Int) : Prop where
  e0 : Own F0 EvE w base 47 (r 0) evs
  e1 : Own F0 MskE w base 31 (r 1) ad
  e2 : Own F0 MskE w base 31 (r 2) da
  e3 : Own F0 MskE w base 31 (r 3) ct
  e4 : Own F0 IntE w base 3 (r 4) pa
  dis : ∀ i j k, i < 5 → j < 5 → i ≠ j → (r i).ownBlock = some k → (r j).ownBlock ≠ some k
section
variable {w w' : World} {base : Nat} {r : Nat → Value} {evs : List Ev} {ad da ct pa : List Int} {v : Value}
theorem Five.lt (h : Five w base r evs ad da ct pa) {i k : Nat} (hi : i < 5) (hk : (r i).ownBlock = some k) : base ≤ k ∧ k < w.heap.size := by
  match i, hi with
  | 0, _ => exact h.e0.lt k hk
  | 1, _ => exact h.e1.lt k hk
  | 2, _ => exact h.e2.lt k hk
  | 3, _ => exact h.e3.lt k hk
  | 4, _ => exact h.e4.lt k hk
theorem Five.only {A : Nat → Prop} (h : Five w base r evs ad da ct pa) (ho : Only A w w') (ha : ∀ i k, i < 5 → (r i).ownBlock = some k → ¬ A k) : Five w' base r evs ad da ct pa :=
  ⟨h.e0.only ho (fun k hk => ha 0 k (by decide) hk) (fun _ h => h.elim), h.e1.only ho (fun k hk => ha 1 k (by decide) hk) (fun _ h => h.elim), h.e2.only ho (fun k hk => ha 2 k (by decide) hk) (fun _ h => h.elim),
    h.e3.only ho (fun k hk => ha 3 k (by decide) hk) (fun _ h => h.elim), h.e4.only ho (fun k hk => ha 4 k (by decide) hk) (fun _ h => h.elim), h.dis⟩
theorem Five.keep (h : Five w base r evs ad da ct pa) (hb : Below w.heap.size w w') : Five w' base r evs ad da ct pa :=
  h.only (A := F0) (Below.only hb) (fun _ _ _ _ h => h)
theorem Five.set (h : Five w base r evs ad da ct pa) {b i : Nat} (hb : b < base) (u : Value) : Five (w.setCell ⟨b, i, none⟩ u) base r evs ad da ct pa :=
  h.only (A := fun k => k = b) (grownBy_only (grownBy_set w ⟨b, i, none⟩ u) (fun k hk => by cases hk; rfl)) (fun i k hi hk e => by have := (h.lt hi hk).1; omega)
/-- One row has become longer. -/
theorem Five.dis' (h : Five w base r evs ad da ct pa) {i : Nat} (hi : i < 5) (hv : v.ownBlock = (r i).ownBlock ∨ v.ownBlock = some w.heap.size) : ∀ a j k, a < 5 → j < 5 → a ≠ j → (updV r i v a).ownBlock = some k → (updV r i v j).ownBlock ≠ some k := by
  intro a j k ha hj haj hk
  by_cases e : a = i
  · subst e
    rw [updV_same] at hk
    rw [updV_other _ _ (Ne.symm haj)]
    rcases hv with hv | hv
    · rw [hv] at hk; exact h.dis a j k ha hj haj hk
    · rw [hv] at hk
      cases hk
      intro hk
      have := (h.lt hj hk).2
      omega
  · rw [updV_other _ _ e] at hk
    by_cases e' : j = i
    · subst e'
      rw [updV_same]
      rcases hv with hv | hv
      · rw [hv]; exact h.dis a j k ha hj haj hk
      · rw [hv]
        intro e2
        cases e2
        have := (h.lt ha hk).2
        omega
    · rw [updV_other _ _ e']
      exact h.dis a j k ha hj haj hk
theorem Five.rest {i : Nat} (h : Five w base r evs ad da ct pa) (hi : i < 5) {j : Nat} (hj : j < 5) (hij : j ≠ i) : ∀ k, (r j).ownBlock = some k → ¬ (r i).ownBlock = some k := fun k hk => h.dis j i k hj hi hij hk
theorem Five.app0 (h : Five w base r evs ad da ct pa) {l : List Ev} (hg : w.grownBy w' (r 0).ownBlock) (ho : Own F0 EvE w' base 47 v l) (hv : v.ownBlock = (r 0).ownBlock ∨ v.ownBlock = some w.heap.size) : Five w' base (updV r 0 v) l ad da ct pa := by
  have O : Only (fun k => (r 0).ownBlock = some k) w w' := grownBy_only hg fun k hk => hk
  exact ⟨ho, h.e1.only O (h.rest (by decide) (by decide) (by decide)) (fun _ h => h.elim), h.e2.only O (h.rest (by decide) (by decide) (by decide)) (fun _ h => h.elim), h.e3.only O (h.rest (by decide) (by decide) (by decide)) (fun _ h => h.elim), h.e4.only O (h.rest (by decide) (by decide) (by decide)) (fun _ h => h.elim), h.dis' (by decide) hv⟩
theorem Five.app1 (h : Five w base r evs ad da ct pa) {l : List Int} (hg : w.grownBy w' (r 1).ownBlock) (ho : Own F0 MskE w' base 31 v l) (hv : v.ownBlock = (r 1).ownBlock ∨ v.ownBlock = some w.heap.size) : Five w' base (updV r 1 v) evs l da ct pa := by
  have O : Only (fun k => (r 1).ownBlock = some k) w w' := grownBy_only hg fun k hk => hk
  exact ⟨h.e0.only O (h.rest (by decide) (by decide) (by decide)) (fun _ h => h.elim), ho, h.e2.only O (h.rest (by decide) (by decide) (by decide)) (fun _ h => h.elim), h.e3.only O (h.rest (by decide) (by decide) (by decide)) (fun _ h => h.elim), h.e4.only O (h.rest (by decide) (by decide) (by decide)) (fun _ h => h.elim), h.dis' (by decide) hv⟩
theorem Five.app2 (h : Five w base r evs ad da ct pa) {l : List Int} (hg : w.grownBy w' (r 2).ownBlock) (ho : Own F0 MskE w' base 31 v l) (hv : v.ownBlock = (r 2).ownBlock ∨ v.ownBlock = some w.heap.size) : Five w' base (updV r 2 v) evs ad l ct pa := by
  have O : Only (fun k => (r 2).ownBlock = some k) w w' := grownBy_only hg fun k hk => hk
  exact ⟨h.e0.only O (h.rest (by decide) (by decide) (by decide)) (fun _ h => h.elim), h.e1.only O (h.rest (by decide) (by decide) (by decide)) (fun _ h => h.elim), ho, h.e3.only O (h.rest (by decide) (by decide) (by decide)) (fun _ h => h.elim), h.e4.only O (h.rest (by decide) (by decide) (by decide)) (fun _ h => h.elim), h.dis' (by decide) hv⟩
theorem Five.app3 (h : Five w base r evs ad da ct pa) {l : List Int} (hg : w.grownBy w' (r 3).ownBlock) (ho : Own F0 MskE w' base 31 v l) (hv : v.ownBlock = (r 3).ownBlock ∨ v.ownBlock = some w.heap.size) : Five w' base (updV r 3 v) evs ad da l pa := by
  have O : Only (fun k => (r 3).ownBlock = some k) w w' := grownBy_only hg fun k hk => hk
  exact ⟨h.e0.only O (h.rest (by decide) (by decide) (by decide)) (fun _ h => h.elim), h.e1.only O (h.rest (by decide) (by decide) (by decide)) (fun _ h => h.elim), h.e2.only O (h.rest (by decide) (by decide) (by decide)) (fun _ h => h.elim), ho, h.e4.only O (h.rest (by decide) (by decide) (by decide)) (fun _ h => h.elim), h.dis' (by decide) hv⟩
theorem Five.app4 (h : Five w base r evs ad da ct pa) {l : List Int} (hg : w.grownBy w' (r 4).ownBlock) (ho : Own F0 IntE w' base 3 v l) (hv : v.ownBlock = (r 4).ownBlock ∨ v.ownBlock = some w.heap.size) : Five w' base (updV r 4 v) evs ad da ct l := by
  have O : Only (fun k => (r 4).ownBlock = some k) w w' := grownBy_only hg fun k hk => hk
  exact ⟨h.e0.only O (h.rest (by decide) (by decide) (by decide)) (fun _ h => h.elim), h.e1.only O (h.rest (by decide) (by decide) (by decide)) (fun _ h => h.elim), h.e2.only O (h.rest (by decide) (by decide) (by decide)) (fun _ h => h.elim), h.e3.only O (h.rest (by decide) (by decide) (by decide)) (fun _ h => h.elim), ho, h.dis' (by decide) hv⟩
end

/-- The runner's cells behind the rows. -/
structure Tail where
  v : Nat → Int
  d : Nat → Int
  vals : Int
  lucks : Int
  more : Int
  locs : Int
  vv : Value
  lv : Value
  next : Int
  ctrl : Int
  opn : Int
def runC (a0 a1 a2 a3 a4 : Value) (t : Tail) : Array Value := #[a0, a1, a2, a3, a4, .int .i64 (t.v 0), .int .i64 (t.v 1), .int .i64 (t.v 2), .int .i64 (t.v 3), .int .u32 (t.d 0), .int .u32 (t.d 1), .int .u32 (t.d 2), .int .u32 (t.d 3),
  .int .i64 t.vals, .int .i64 t.lucks, .int .i64 t.more, .int .i64 t.locs, t.vv, t.lv, .int .i64 t.next, .int .u32 t.ctrl, .int .i64 t.opn]
def St.tail (s : St) (locs : Int) (vv lv : Value) : Tail := ⟨s.v, s.d, (s.vals : Nat), (s.lucks : Nat), s.more, locs, vv, lv, (s.next : Nat), s.ctrl, s.opn⟩
def RB (w : World) (b : Nat) (a0 a1 a2 a3 a4 : Value) (t : Tail) : Prop := Blk w b (runC a0 a1 a2 a3 a4 t) 56
theorem RB.keep {w w' : World} {b : Nat} {a0 a1 a2 a3 a4 : Value} {t : Tail} (h : RB w b a0 a1 a2 a3 a4 t) (hb : Below w.heap.size w w') : RB w' b a0 a1 a2 a3 a4 t := Blk.keep h hb
theorem RB.lt {w : World} {b : Nat} {a0 a1 a2 a3 a4 : Value} {t : Tail} (h : RB w b a0 a1 a2 a3 a4 t) : b < w.heap.size := Blk.lt h
theorem RB.rows {w : World} {b : Nat} {a0 a1 a2 a3 a4 : Value} {t : Tail} (h : RB w b a0 a1 a2 a3 a4 t) : w.cell? ⟨b, 0, none⟩ = some a0 ∧ w.cell? ⟨b, 1, none⟩ = some a1 ∧ w.cell? ⟨b, 2, none⟩ = some a2 ∧ w.cell? ⟨b, 3, none⟩ = some a3 ∧ w.cell? ⟨b, 4, none⟩ = some a4 :=
  ⟨(Blk.cell h 0).trans rfl, (Blk.cell h 1).trans rfl, (Blk.cell h 2).trans rfl, (Blk.cell h 3).trans rfl, (Blk.cell h 4).trans rfl⟩
theorem RB.regs {w : World} {b : Nat} {a0 a1 a2 a3 a4 : Value} {t : Tail} (h : RB w b a0 a1 a2 a3 a4 t) : (w.cell? ⟨b, 5, none⟩ = some (.int .i64 (t.v 0)) ∧ w.cell? ⟨b, 6, none⟩ = some (.int .i64 (t.v 1)) ∧ w.cell? ⟨b, 7, none⟩ = some (.int .i64 (t.v 2)) ∧ w.cell? ⟨b, 8, none⟩ = some (.int .i64 (t.v 3))) ∧
    w.cell? ⟨b, 9, none⟩ = some (.int .u32 (t.d 0)) ∧ w.cell? ⟨b, 10, none⟩ = some (.int .u32 (t.d 1)) ∧ w.cell? ⟨b, 11, none⟩ = some (.int .u32 (t.d 2)) ∧ w.cell? ⟨b, 12, none⟩ = some (.int .u32 (t.d 3)) :=
  ⟨⟨(Blk.cell h 5).trans rfl, (Blk.cell h 6).trans rfl, (Blk.cell h 7).trans rfl, (Blk.cell h 8).trans rfl⟩, (Blk.cell h 9).trans rfl, (Blk.cell h 10).trans rfl, (Blk.cell h 11).trans rfl, (Blk.cell h 12).trans rfl⟩
theorem RB.more {w : World} {b : Nat} {a0 a1 a2 a3 a4 : Value} {t : Tail} (h : RB w b a0 a1 a2 a3 a4 t) : (w.cell? ⟨b, 13, none⟩ = some (.int .i64 t.vals) ∧ w.cell? ⟨b, 14, none⟩ = some (.int .i64 t.lucks) ∧ w.cell? ⟨b, 15, none⟩ = some (.int .i64 t.more) ∧ w.cell? ⟨b, 16, none⟩ = some (.int .i64 t.locs)) ∧
    w.cell? ⟨b, 17, none⟩ = some t.vv ∧ w.cell? ⟨b, 18, none⟩ = some t.lv ∧ w.cell? ⟨b, 19, none⟩ = some (.int .i64 t.next) ∧ w.cell? ⟨b, 20, none⟩ = some (.int .u32 t.ctrl) ∧ w.cell? ⟨b, 21, none⟩ = some (.int .i64 t.opn) :=
  ⟨⟨(Blk.cell h 13).trans rfl, (Blk.cell h 14).trans rfl, (Blk.cell h 15).trans rfl, (Blk.cell h 16).trans rfl⟩, (Blk.cell h 17).trans rfl, (Blk.cell h 18).trans rfl, (Blk.cell h 19).trans rfl, (Blk.cell h 20).trans rfl, (Blk.cell h 21).trans rfl⟩
theorem RB.frozen {w : World} {b : Nat} {a0 a1 a2 a3 a4 : Value} {t : Tail} (h : RB w b a0 a1 a2 a3 a4 t) (i : Nat) : w.frozen? ⟨b, i, none⟩ = false := Blk.frozen h i

theorem RB.set0 {w : World} {b : Nat} {a0 a1 a2 a3 a4 : Value} {t : Tail} (h : RB w b a0 a1 a2 a3 a4 t) (v : Value) : RB (w.setCell ⟨b, 0, none⟩ v) b v a1 a2 a3 a4 t := by
  have k := Blk.set (i := 0) h v
  simp only [runC, List.setIfInBounds_toArray, List.set] at k
  exact k
theorem RB.set1 {w : World} {b : Nat} {a0 a1 a2 a3 a4 : Value} {t : Tail} (h : RB w b a0 a1 a2 a3 a4 t) (v : Value) : RB (w.setCell ⟨b, 1, none⟩ v) b a0 v a2 a3 a4 t := by
  have k := Blk.set (i := 1) h v
  simp only [runC, List.setIfInBounds_toArray, List.set] at k
  exact k
theorem RB.set2 {w : World} {b : Nat} {a0 a1 a2 a3 a4 : Value} {t : Tail} (h : RB w b a0 a1 a2 a3 a4 t) (v : Value) : RB (w.setCell ⟨b, 2, none⟩ v) b a0 a1 v a3 a4 t := by
  have k := Blk.set (i := 2) h v
  simp only [runC, List.setIfInBounds_toArray, List.set] at k
  exact k
theorem RB.set3 {w : World} {b : Nat} {a0 a1 a2 a3 a4 : Value} {t : Tail} (h : RB w b a0 a1 a2 a3 a4 t) (v : Value) : RB (w.setCell ⟨b, 3, none⟩ v) b a0 a1 a2 v a4 t := by
  have k := Blk.set (i := 3) h v
  simp only [runC, List.setIfInBounds_toArray, List.set] at k
  exact k
theorem RB.set4 {w : World} {b : Nat} {a0 a1 a2 a3 a4 : Value} {t : Tail} (h : RB w b a0 a1 a2 a3 a4 t) (v : Value) : RB (w.setCell ⟨b, 4, none⟩ v) b a0 a1 a2 a3 v t := by
  have k := Blk.set (i := 4) h v
  simp only [runC, List.setIfInBounds_toArray, List.set] at k
  exact k
theorem RB.setVals {w : World} {b : Nat} {a0 a1 a2 a3 a4 : Value} {t : Tail} (h : RB w b a0 a1 a2 a3 a4 t) (n : Int) : RB (w.setCell ⟨b, 13, none⟩ (.int .i64 n)) b a0 a1 a2 a3 a4 { t with vals := n } := by
  have k := Blk.set (i := 13) h (.int .i64 n)
  simp only [runC, List.setIfInBounds_toArray, List.set] at k
  exact k
theorem RB.setLucks {w : World} {b : Nat} {a0 a1 a2 a3 a4 : Value} {t : Tail} (h : RB w b a0 a1 a2 a3 a4 t) (n : Int) : RB (w.setCell ⟨b, 14, none⟩ (.int .i64 n)) b a0 a1 a2 a3 a4 { t with lucks := n } := by
  have k := Blk.set (i := 14) h (.int .i64 n)
  simp only [runC, List.setIfInBounds_toArray, List.set] at k
  exact k
theorem RB.setMore {w : World} {b : Nat} {a0 a1 a2 a3 a4 : Value} {t : Tail} (h : RB w b a0 a1 a2 a3 a4 t) (n : Int) : RB (w.setCell ⟨b, 15, none⟩ (.int .i64 n)) b a0 a1 a2 a3 a4 { t with more := n } := by
  have k := Blk.set (i := 15) h (.int .i64 n)
  simp only [runC, List.setIfInBounds_toArray, List.set] at k
  exact k
theorem RB.setNext {w : World} {b : Nat} {a0 a1 a2 a3 a4 : Value} {t : Tail} (h : RB w b a0 a1 a2 a3 a4 t) (n : Int) : RB (w.setCell ⟨b, 19, none⟩ (.int .i64 n)) b a0 a1 a2 a3 a4 { t with next := n } := by
  have k := Blk.set (i := 19) h (.int .i64 n)
  simp only [runC, List.setIfInBounds_toArray, List.set] at k
  exact k
theorem RB.setCtrl {w : World} {b : Nat} {a0 a1 a2 a3 a4 : Value} {t : Tail} (h : RB w b a0 a1 a2 a3 a4 t) (n : Int) : RB (w.setCell ⟨b, 20, none⟩ (.int .u32 n)) b a0 a1 a2 a3 a4 { t with ctrl := n } := by
  have k := Blk.set (i := 20) h (.int .u32 n)
  simp only [runC, List.setIfInBounds_toArray, List.set] at k
  exact k
theorem RB.setOpn {w : World} {b : Nat} {a0 a1 a2 a3 a4 : Value} {t : Tail} (h : RB w b a0 a1 a2 a3 a4 t) (n : Int) : RB (w.setCell ⟨b, 21, none⟩ (.int .i64 n)) b a0 a1 a2 a3 a4 { t with opn := n } := by
  have k := Blk.set (i := 21) h (.int .i64 n)
  simp only [runC, List.setIfInBounds_toArray, List.set] at k
  exact k
/-- The registers written, cell by cell. -/
def putR (w : World) (b : Nat) (v d : Nat → Int) : World := (((((((w.setCell ⟨b, 5, none⟩ (.int .i64 (v 0))).setCell ⟨b, 6, none⟩ (.int .i64 (v 1))).setCell ⟨b, 7, none⟩ (.int .i64 (v 2))).setCell ⟨b, 8, none⟩ (.int .i64 (v 3))).setCell ⟨b, 9, none⟩ (.int .u32 (d 0))).setCell ⟨b, 10, none⟩ (.int .u32 (d 1))).setCell ⟨b, 11, none⟩ (.int .u32 (d 2))).setCell ⟨b, 12, none⟩ (.int .u32 (d 3))
theorem RB.putR {w : World} {b : Nat} {a0 a1 a2 a3 a4 : Value} {t : Tail} (h : RB w b a0 a1 a2 a3 a4 t) (v d : Nat → Int) : RB (putR w b v d) b a0 a1 a2 a3 a4 { t with v := v, d := d } := by
  have k := Blk.set (i := 12) (Blk.set (i := 11) (Blk.set (i := 10) (Blk.set (i := 9) (Blk.set (i := 8) (Blk.set (i := 7) (Blk.set (i := 6) (Blk.set (i := 5) h (.int .i64 (v 0))) (.int .i64 (v 1))) (.int .i64 (v 2))) (.int .i64 (v 3))) (.int .u32 (d 0))) (.int .u32 (d 1))) (.int .u32 (d 2))) (.int .u32 (d 3))
  simp only [runC, List.setIfInBounds_toArray, List.set] at k
  exact k
/-- What the runner has: its block, and its rows' blocks. -/
def RS (b : Nat) (r : Nat → Value) (k : Nat) : Prop := k = b ∨ ∃ i, i < 5 ∧ (r i).ownBlock = some k
structure RunAt (w : World) (b base : Nat) (locs : Int) (vv lv : Value) (r : Nat → Value) (s : St) : Prop where
  blk : RB w b (r 0) (r 1) (r 2) (r 3) (r 4) (s.tail locs vv lv)
  five : Five w base r s.evs s.ad s.da s.ct s.pa
  lt : b < base
  bs : base ≤ w.heap.size
theorem RunAt.keep {w w' : World} {b base : Nat} {locs : Int} {vv lv : Value} {r : Nat → Value} {s : St} (h : RunAt w b base locs vv lv r s) (hb : Below w.heap.size w w') : RunAt w' b base locs vv lv r s :=
  ⟨h.blk.keep hb, h.five.keep hb, h.lt, Nat.le_trans h.bs hb.size⟩
theorem RunAt.rs {w : World} {b base : Nat} {locs : Int} {vv lv : Value} {r : Nat → Value} {s : St} (h : RunAt w b base locs vv lv r s) {k : Nat} (hk : RS b r k) : b ≤ k ∧ k < w.heap.size := by
  rcases hk with rfl | ⟨i, hi, hk⟩
  · exact ⟨Nat.le_refl _, h.blk.lt⟩
  · have := h.five.lt hi hk
    have := h.lt
    omega
/-- What a step leaves behind. -/
def Post (b base : Nat) (locs : Int) (vv lv : Value) (r : Nat → Value) (w : World) (s' : St) (w' : World) : Prop :=
  ∃ r', RunAt w' b base locs vv lv r' s' ∧ Only (RS b r) w w' ∧ ∀ k, RS b r' k → RS b r k ∨ w.heap.size ≤ k
theorem Post.trans {b base : Nat} {locs : Int} {vv lv : Value} {r r' : Nat → Value} {w w' w'' : World} {s'' : St} (ho : Only (RS b r) w w') (hk : ∀ k, RS b r' k → RS b r k ∨ w.heap.size ≤ k) (h : Post b base locs vv lv r' w' s'' w'') : Post b base locs vv lv r w s'' w'' := by
  obtain ⟨r2, h1, h2, h3⟩ := h
  refine ⟨r2, h1, ho.trans h2 hk, fun k hr => ?_⟩
  rcases h3 k hr with h | h
  · exact hk k h
  · exact .inr (Nat.le_trans ho.size h)
theorem Post.ahead {b base : Nat} {locs : Int} {vv lv : Value} {r : Nat → Value} {w w' w'' : World} {s'' : St} (hb : Below w.heap.size w w') (h : Post b base locs vv lv r w' s'' w'') : Post b base locs vv lv r w s'' w'' :=
  Post.trans (Below.only hb) (fun _ h => .inl h) h
theorem only_set {w : World} {b i : Nat} {r : Nat → Value} {v : Value} : Only (RS b r) w (w.setCell ⟨b, i, none⟩ v) :=
  grownBy_only (grownBy_set w ⟨b, i, none⟩ v) (fun k hk => by cases hk; exact .inl rfl)
theorem only_putR {w : World} {b : Nat} {r : Nat → Value} {v d : Nat → Int} : Only (RS b r) w (putR w b v d) := by
  have k : ∀ {a c : World} {i : Nat} {u : Value}, Only (RS b r) a c → Only (RS b r) a (c.setCell ⟨b, i, none⟩ u) := fun h => h.trans (B := RS b r) only_set (fun _ h => .inl h)
  exact k (k (k (k (k (k (k (k Only.refl)))))))
theorem Five.putR {w : World} {base : Nat} {r : Nat → Value} {evs : List Ev} {ad da ct pa : List Int} (h : Five w base r evs ad da ct pa) {b : Nat} (hb : b < base) (v d : Nat → Int) : Five (putR w b v d) base r evs ad da ct pa :=
  (((((((h.set hb _).set hb _).set hb _).set hb _).set hb _).set hb _).set hb _).set hb _
/-- An append, written back. -/
theorem app_only {w0 w w2 w3 : World} {b i : Nat} {r0 r : Nat → Value} {v : Value} (hi : i < 5) (ho : Only (RS b r0) w0 w) (hs : ∀ k, RS b r k → RS b r0 k ∨ w0.heap.size ≤ k) (hb : Below w.heap.size w w2) (hg : w2.grownBy w3 (r i).ownBlock) (hv : v.ownBlock = (r i).ownBlock ∨ v.ownBlock = some w2.heap.size) :
    Only (RS b r0) w0 (w3.setCell ⟨b, i, none⟩ v) ∧ ∀ k, RS b (updV r i v) k → RS b r0 k ∨ w0.heap.size ≤ k := by
  have o1 : Only (RS b r) w w2 := Below.only hb
  have o2 : Only (RS b r) w2 w3 := grownBy_only hg fun k hk => .inr ⟨i, hi, hk⟩
  have o3 : Only (RS b r) w3 (w3.setCell ⟨b, i, none⟩ v) := only_set
  refine ⟨ho.trans ((o1.trans o2 fun _ h => .inl h).trans o3 fun _ h => .inl h) hs, fun k hk => ?_⟩
  rcases hk with rfl | ⟨j, hj, hk⟩
  · exact hs _ (.inl rfl)
  · by_cases e : j = i
    · subst e
      rw [updV_same] at hk
      rcases hv with hv | hv
      · rw [hv] at hk; exact hs k (.inr ⟨j, hj, hk⟩)
      · rw [hv] at hk
        cases hk
        exact .inr (Nat.le_trans ho.size hb.size)
    · rw [updV_other _ _ e] at hk
      exact hs k (.inr ⟨j, hj, hk⟩)
end Go.Proofs.YtkiefbldkidobaaDoor
