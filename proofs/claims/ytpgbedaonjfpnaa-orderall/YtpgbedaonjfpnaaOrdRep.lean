/- Laws of no program: numbers in slices; what an iterator and the body of a range over it leave alone. -/
import Derived.Test.YtpgbedaonjfpnaaRelRep
import Derived.Test.YtpgbedaonjfpnaaRepB
import Derived.Test.YtpgbedaonjfpnaaOrdMath
import Derived.WalkSmall
import Derived.RangeFuncNested
import Derived.RangeFuncBound
import Derived.RangeFuncCalls
import Derived.RangeFuncLeaves
import Derived.Shelf.Abstract
import Derived.Shelf.RegionOpen
import Derived.OwnWalkIn
import Derived.TacticsInMore
import Derived.LoopNIn
import Derived.LoopIn
namespace Go.Proofs.Ytpgbedaonjfpnaa
open Go.RowKit

/-- Numbers. -/
def natV (x : Nat) : Value := .int .i64 (x : Int)
def NatE : Elem Nat where
  size := 1
  pos := Nat.one_pos
  cs := fun _ _ n c => c = [natV n]
  len := fun h => by subst h; rfl
  one := fun h u hu => by subst h; simp at hu; subst hu; rfl
  keep := fun h _ => h
  mono := fun _ h => h
  lt := fun h => h
theorem nat_at {A : Nat → Prop} {w : World} {p : Option Addr} {n c : Nat} {xs : List Nat} (h : SlA A NatE w (.slice p n c) xs) : n = xs.length ∧ ∀ k (hk : k < xs.length), ∃ b o, p = some ⟨b, o, none⟩ ∧ A b ∧ w.cell? ⟨b, o + k, none⟩ = some (.int .i64 (xs[k] : Nat)) := by
  obtain ⟨h1, h2⟩ := h.at
  refine ⟨h1, fun k hk => ?_⟩
  obtain ⟨b, o, rfl, hA, cs, h3, h4⟩ := h2 k hk
  have := h4 0 _ (by rw [show cs = [natV xs[k]] from h3]; rfl)
  exact ⟨b, o, rfl, hA, by simpa [NatE, natV] using this⟩
theorem nat_flat {A B : Nat → Prop} {w : World} : ∀ (y : Nat) (c : List Value), NatE.cs A w y c → NatE.cs B w y c := fun _ _ h => h
theorem sl_nat1 {A : Nat → Prop} {w : World} {b c k : Nat} (hA : A b) (h : w.cell? ⟨b, 0, none⟩ = some (.int .i64 (k : Int))) (hc : 1 ≤ c := by decide) : SlA A NatE w (.slice (some ⟨b, 0, none⟩) 1 c) [k] := by
  refine ⟨_, c, rfl, ⟨(fun e => by cases e), hc⟩, fun _ => ⟨b, 0, rfl, hA, fun i hi => ⟨[natV k], ?_, fun j u hu => ?_⟩⟩⟩
  · have : i = 0 := by simp at hi; omega
    subst this
    rfl
  · have : i = 0 := by simp at hi; omega
    subst this
    match j, hu with
    | 0, hu => simp at hu; subst hu; simpa [natV] using h
    | j + 1, hu => simp at hu
theorem own_new {α : Type} {A : Nat → Prop} {R : Elem α} {w : World} {base g : Nat} {e : TypeId} (hb : base ≤ g) (h : Blk w g #[] e) : Own A R w base e (.slice (some ⟨g, 0, none⟩) 0 0) [] :=
  ⟨[], ⟨by simp, .inr ⟨g, 0, #[], rfl, hb, h, Nat.le_refl _, by unfold maxLen; omega, by simp, by simp⟩⟩, rfl, fun i h => by simp at h⟩
theorem nil_of {α : Type} {A : Nat → Prop} {R : Elem α} {w : World} {n c : Nat} {xs : List α} (h : SlA A R w (.slice none n c) xs) : xs = [] := by
  obtain ⟨p, cap, e, _, h⟩ := h
  simp only [Value.slice.injEq] at e
  obtain ⟨rfl, _, _⟩ := e
  by_cases hx : xs = []
  · exact hx
  · obtain ⟨b, o, e, _⟩ := h hx
    cases e

/-- A slice of numbers that a call has made. -/
def OwnN (w : World) (base : Nat) (e : TypeId) (v : Value) (l : List Nat) : Prop := w.ownsRow base e 1 v l.length (l.map natV)
theorem flat_nat : ∀ {cc : List (List Value)} {l : List Nat}, cc.length = l.length → (∀ i (h : i < l.length) (h' : i < cc.length), cc[i] = [natV l[i]]) → cc.flatten = l.map natV
  | [], [], _, _ => rfl
  | [], _ :: _, h, _ => by simp at h
  | _ :: _, [], h, _ => by simp at h
  | c :: cc, x :: l, h, hc => by
    have h0 := hc 0 (by simp) (by simp)
    simp at h0
    subst h0
    have := flat_nat (cc := cc) (l := l) (by simpa using h) (fun i h1 h2 => hc (i + 1) (Nat.succ_lt_succ h1) (Nat.succ_lt_succ h2))
    simp [this]
theorem flat_natL (l : List Nat) : (l.map fun x => [natV x]).flatten = l.map natV := by induction l with
  | nil => rfl
  | cons x l ih => simp [ih]
section
variable {w w' : World} {base : Nat} {e : TypeId} {v : Value} {l : List Nat} {A : Nat → Prop}
theorem Own.n (h : Own A NatE w base e v l) : OwnN w base e v l := by
  obtain ⟨cc, h1, h2, h3⟩ := h
  have e : cc.flatten = l.map natV := flat_nat h2 fun i h h' => h3 i h h'
  rw [e] at h1
  exact h1
theorem OwnN.own (h : OwnN w base e v l) : Own A NatE w base e v l :=
  ⟨l.map fun x => [natV x], by rw [flat_natL]; exact h, by simp, fun i h h' => by
    show _ = [natV l[i]]
    simp⟩
theorem OwnN.lt (h : OwnN w base e v l) : ∀ k, v.ownBlock = some k → base ≤ k ∧ k < w.heap.size := World.ownsRow.lt h
theorem OwnN.len (h : OwnN w base e v l) : ∃ p cap, v = .slice p l.length cap := (h.own (A := fun _ => False)).len
theorem OwnN.rebase {b' : Nat} (h : OwnN w base e v l) (hb : ∀ k, v.ownBlock = some k → b' ≤ k) : OwnN w b' e v l := by
  obtain ⟨h1, h2⟩ := h
  refine ⟨h1, ?_⟩
  rcases h2 with h2 | ⟨g, cap, cur, rfl, _, h3⟩
  · exact .inl h2
  · exact .inr ⟨g, cap, cur, rfl, hb g rfl, h3⟩
theorem OwnN.sl (h : OwnN w base e v l) : SlA (fun b => v.ownBlock = some b) NatE w v l := by
  have hs := (h.own (A := fun _ => False)).sl
  rcases h.2 with ⟨rfl, h0⟩ | ⟨g, cap, cur, rfl, h3⟩
  · have : l = [] := List.length_eq_zero_iff.1 h0
    subst this
    exact SlA.nil
  · obtain ⟨p, c, e1, h4, h5⟩ := hs
    refine ⟨p, c, e1, h4, fun hne => ?_⟩
    obtain ⟨b, o, rfl, _, h6⟩ := h5 hne
    simp only [Value.slice.injEq, Option.some.injEq, Addr.mk.injEq, and_true] at e1
    obtain ⟨⟨rfl, rfl⟩, _, _⟩ := e1
    exact ⟨g, 0, rfl, rfl, fun i hi => by obtain ⟨c, hc, h7⟩ := h6 i hi; exact ⟨c, hc, h7⟩⟩
theorem OwnN.keepG {row : Option Nat} (h : OwnN w base e v l) (hg : w.grownBy w' row) (hr : ∀ k, v.ownBlock = some k → some k ≠ row) : OwnN w' base e v l := by
  refine World.ownsRow.kept h hg ?_
  cases hv : v.ownBlock with
  | none => exact .inl rfl
  | some k => exact .inr (hr k hv)
theorem OwnN.pop {p : Option Addr} {c k : Nat} (h : OwnN w base e (.slice p (l ++ [k]).length c) (l ++ [k])) : ∃ g, p = some ⟨g, 0, none⟩ ∧ l.length + 1 ≤ c ∧ OwnN w base e (.slice (some ⟨g, 0, none⟩) l.length c) l := by
  unfold OwnN at h
  rcases h.2 with ⟨h0, _⟩ | ⟨g, cap, cur, hv, _, _, hn, _⟩
  · simp at h0
  · simp only [Value.slice.injEq] at hv
    obtain ⟨rfl, _, rfl⟩ := hv
    refine ⟨g, rfl, by simpa using hn, ?_⟩
    have e1 : (l ++ [k]).length = l.length + 1 := by simp
    have e2 : (l ++ [k]).map natV = l.map natV ++ [natV k] := by simp
    rw [e1, e2] at h
    exact ownsRow_pop (by simp) h
end

/-- What has changed lies in A, or is new. -/
structure Only (A : Nat → Prop) (w w' : World) : Prop where
  os : w'.os = w.os
  tape : w'.tape = w.tape
  output : w'.output = w.output
  size : w.heap.size ≤ w'.heap.size
  block : ∀ b, b < w.heap.size → ¬ A b → w'.heap[b]? = w.heap[b]?
section
variable {A B : Nat → Prop} {w w' w'' : World}
theorem Only.refl : Only A w w := ⟨rfl, rfl, rfl, Nat.le_refl _, fun _ _ _ => rfl⟩
theorem Only.trans (h : Only A w w') (k : Only B w' w'') (hB : ∀ b, B b → A b ∨ w.heap.size ≤ b) : Only A w w'' :=
  ⟨k.os.trans h.os, k.tape.trans h.tape, k.output.trans h.output, Nat.le_trans h.size k.size, fun b hb ha => (k.block b (Nat.lt_of_lt_of_le hb h.size) (fun hb' => by rcases hB b hb' with h' | h'; exact ha h'; omega)).trans (h.block b hb ha)⟩
theorem Only.mono (h : Only A w w') (hAB : ∀ b, A b → B b) : Only B w w' := ⟨h.os, h.tape, h.output, h.size, fun b hb hn => h.block b hb fun ha => hn (hAB b ha)⟩
theorem Only.below {n : Nat} (h : Only A w w') (hn : n ≤ w.heap.size) (hA : ∀ b, A b → n ≤ b) : Below n w w' := ⟨h.os, h.tape, h.output, h.size, fun b hb => h.block b (by omega) fun ha => by have := hA b ha; omega⟩
theorem Only.agree (h : Only A w w') (hd : ∀ b, B b → ¬ A b) : Agree B w w' := fun b hB hb => h.block b hb (hd b hB)
theorem Below.only (h : Below w.heap.size w w') : Only A w w' := ⟨h.os, h.tape, h.output, h.size, fun b hb _ => h.block b hb⟩
theorem grownBy_only {row : Option Nat} (h : w.grownBy w' row) (hr : ∀ k, row = some k → A k) : Only A w w' := ⟨h.os, h.tape, h.output, h.size, fun b hb ha => h.block b hb fun e => ha (hr b e.symm)⟩
theorem Only.drewR (h : Only A w w') : Only A w w'.drew := ⟨h.os, h.tape, h.output, h.size, h.block⟩
theorem Blk.only {b : Nat} {cs : Array Value} {t : TypeId} (h : Blk w b cs t) (ho : Only A w w') (ha : ¬ A b) : Blk w' b cs t := by
  unfold Blk at *; rw [ho.block b (Blk.lt h) ha]; exact h
theorem OwnN.only {base : Nat} {e : TypeId} {v : Value} {l : List Nat} (h : OwnN w base e v l) (ho : Only A w w') (ha : ∀ b, v.ownBlock = some b → ¬ A b) : OwnN w' base e v l := by
  obtain ⟨h1, h2⟩ := h
  refine ⟨h1, ?_⟩
  rcases h2 with h2 | ⟨g, cap, cur, rfl, hb, hg, h3⟩
  · exact .inl h2
  · exact .inr ⟨g, cap, cur, rfl, hb, by rw [ho.block g (Array.getElem?_eq_some_iff.1 hg).1 (ha g rfl)]; exact hg, h3⟩
end

/-- A row that a round is handed, and its block. -/
def RowV (e : TypeId) (w : World) (v : Value) (x : List Nat × Nat) : Prop := OwnN w 0 e v x.1 ∧ (v.ownBlock = some x.2 ∨ (v = .slice none 0 0 ∧ x.1 = []))

/-- What a round does with the orders that it is handed. J: between two rounds; Jx: one has said 'no more'. A: what is the caller's. -/
def Yields (P : Program) (e : TypeId) (lp N : Nat) (J Jx : (Nat → Prop) → List (List Nat × Nat) → World → Prop) : Prop :=
  ∀ A pre x v W, J A pre W → (∀ b, A b → b < W.heap.size) → RowV e W v x → ¬ A x.2 → pre.length < N →
    YieldAt Fence.wide 0 P lp #[v] W fun e W' => ∃ A', (∀ b, A' b → b < W'.heap.size) ∧ (∀ b, A' b → A b ∨ b = x.2 ∨ W.heap.size ≤ b) ∧ Only A W W' ∧
      ((e = .returned (.bool true) ∧ J A' (pre ++ [x]) W') ∨ (e = .returned (.bool false) ∧ Jx A' (pre ++ [x]) W'))
def Stays (J : (Nat → Prop) → List (List Nat × Nat) → World → Prop) : Prop := ∀ A pre W W', J A pre W → Only (fun b => ¬ A b) W W' → J A pre W'

theorem RoundIn.wideAny {m m' : Nat} {P : Program} {l : Nat} {f : FuncId} {tmps : Array Value} {assign body : Code} {w : World} {R : Ending → World → Prop}
    (h : RoundIn Fence.wide m P l f tmps assign body w R) : RoundIn Fence.wide m' P l f tmps assign body w R := ⟨h.1, fun c cs _ => h.2 c cs (room_wide _)⟩

/-- The iterator's own: what stays (in C), and the beginning. -/
structure ItFix (gf : FuncId) (tr ty tf : TypeId) (W : World) (rs : List Nat) (bb ba by' bg lp : Nat) (pa : Option Addr) (ca : Nat) (C : Nat → Prop) : Prop where
  ahead : Blk W ba #[.slice pa rs.length ca] tr
  yld : Blk W by' #[.func (.yield lp) #[] #[]] ty
  go : Blk W bg #[.func (.func gf) #[] #[.pointer (some ⟨bb, 0, none⟩), .pointer (some ⟨ba, 0, none⟩), .pointer (some ⟨by', 0, none⟩), .pointer (some ⟨bg, 0, none⟩)]] tf
  sl : SlA C U32E W (.slice pa rs.length ca) rs
  ca : C ba
  cy : C by'
  cg : C bg
theorem ItFix.agree {gf : FuncId} {tr ty tf : TypeId} {W W' : World} {rs : List Nat} {bb ba by' bg lp : Nat} {pa : Option Addr} {ca : Nat} {C : Nat → Prop} (h : ItFix gf tr ty tf W rs bb ba by' bg lp pa ca C) (hw : Agree C W W') : ItFix gf tr ty tf W' rs bb ba by' bg lp pa ca C where
  ahead := by have := h.ahead; unfold Blk at *; rw [hw ba h.ca (Blk.lt h.ahead)]; exact this
  yld := by have := h.yld; unfold Blk at *; rw [hw by' h.cy (Blk.lt h.yld)]; exact this
  go := by have := h.go; unfold Blk at *; rw [hw bg h.cg (Blk.lt h.go)]; exact this
  sl := h.sl.agree hw
  ca := h.ca
  cy := h.cy
  cg := h.cg

/-- Where the iterator stands. -/
structure ItInv (tb e : TypeId) (base bb : Nat) (C : Nat → Prop) (W : World) (A : Nat → Prop) (vb : Value) (l : List Nat) : Prop where
  blk : Blk W bb #[vb] tb
  own : OwnN W base e vb l
  clt : ∀ b, C b → b < W.heap.size
  alt : ∀ b, A b → b < W.heap.size
  dA : ∀ b, A b → ¬ C b ∧ b ≠ bb ∧ vb.ownBlock ≠ some b
  dv : ∀ b, vb.ownBlock = some b → ¬ C b ∧ b ≠ bb
  dC : ¬ C bb
  base : base ≤ W.heap.size
/-- What it has come to. -/
structure ItRun (tb e : TypeId) (base bb : Nat) (W : World) (A : Nat → Prop) (vb : Value) (W' : World) (A' : Nat → Prop) (vb' : Value) (l' : List Nat) : Prop where
  alt : ∀ b, A' b → b < W'.heap.size
  asub : ∀ b, A' b → A b ∨ W.heap.size ≤ b
  only : Only (fun b => A b ∨ b = bb ∨ vb.ownBlock = some b) W W'
  blk : Blk W' bb #[vb'] tb
  own : OwnN W' base e vb' l'
  vsub : ∀ b, vb'.ownBlock = some b → vb.ownBlock = some b ∨ W.heap.size ≤ b
  vnot : ∀ b, vb'.ownBlock = some b → ¬ A' b
section
variable {tb e : TypeId} {base bb : Nat} {C A A' A'' : Nat → Prop} {W W' W'' : World} {vb vb' vb'' : Value} {l l' l'' : List Nat}
theorem ItInv.refl (h : ItInv tb e base bb C W A vb l) : ItRun tb e base bb W A vb W A vb l :=
  ⟨h.alt, fun _ hb => .inl hb, Only.refl, h.blk, h.own, fun _ hb => .inl hb, fun b hb ha => (h.dA b ha).2.2 hb⟩
theorem ItRun.trans (h : ItRun tb e base bb W A vb W' A' vb' l') (k : ItRun tb e base bb W' A' vb' W'' A'' vb'' l'') : ItRun tb e base bb W A vb W'' A'' vb'' l'' where
  alt := k.alt
  asub := fun b hb => by
    have := h.only.size
    rcases k.asub b hb with h1 | h1
    · exact h.asub b h1
    · exact .inr (by omega)
  only := h.only.trans k.only fun b hb => by
    rcases hb with h1 | h1 | h1
    · rcases h.asub b h1 with h2 | h2
      · exact .inl (.inl h2)
      · exact .inr h2
    · exact .inl (.inr (.inl h1))
    · rcases h.vsub b h1 with h2 | h2
      · exact .inl (.inr (.inr h2))
      · exact .inr h2
  blk := k.blk
  own := k.own
  vsub := fun b hb => by
    have := h.only.size
    rcases k.vsub b hb with h1 | h1
    · exact h.vsub b h1
    · exact .inr (by omega)
  vnot := k.vnot
theorem ItInv.run (h : ItInv tb e base bb C W A vb l) (k : ItRun tb e base bb W A vb W' A' vb' l') : ItInv tb e base bb C W' A' vb' l' := by
  have hs := k.only.size
  have hbb := Blk.lt h.blk
  refine ⟨k.blk, k.own, fun b hb => by have := h.clt b hb; omega, k.alt, fun b hb => ?_, fun b hb => ?_, h.dC, by have := h.base; omega⟩
  · refine ⟨?_, ?_, fun e => k.vnot b e hb⟩
    · intro hc
      have := h.clt b hc
      rcases k.asub b hb with h1 | h1
      · exact (h.dA b h1).1 hc
      · omega
    · rintro rfl
      rcases k.asub b hb with h1 | h1
      · exact (h.dA b h1).2.1 rfl
      · omega
  · refine ⟨?_, ?_⟩
    · intro hc
      have := h.clt b hc
      rcases k.vsub b hb with h1 | h1
      · exact (h.dv b h1).1 hc
      · omega
    · rintro rfl
      rcases k.vsub b hb with h1 | h1
      · exact (h.dv b h1).2 rfl
      · omega
/-- What stays, stays. -/
theorem ItInv.agree (h : ItInv tb e base bb C W A vb l) (k : ItRun tb e base bb W A vb W' A' vb' l') : Agree C W W' :=
  k.only.agree fun b hc hb => by
    rcases hb with h1 | h1 | h1
    · exact (h.dA b h1).1 hc
    · subst h1; exact h.dC hc
    · exact (h.dv b h1).1 hc
/-- New memory. -/
theorem ItInv.grow (h : ItInv tb e base bb C W A vb l) (hb : Below W.heap.size W W') : ItRun tb e base bb W A vb W' A vb l :=
  ⟨fun b ha => Nat.lt_of_lt_of_le (h.alt b ha) hb.size, fun _ ha => .inl ha, Below.only hb, h.blk.keep hb, (h.own.keepG (Below.grownBy hb) (fun _ _ => by simp)), fun _ hv => .inl hv, fun b hv ha => (h.dA b ha).2.2 hv⟩
/-- Another beginning, in new memory or where the old one was. -/
theorem ItInv.step (h : ItInv tb e base bb C W A vb l) {w1 w2 : World} (hb : Below W.heap.size W w1) (hg : w1.grownBy w2 vb.ownBlock) (ho : OwnN w2 base e vb' l') (hv : vb'.ownBlock = vb.ownBlock ∨ vb'.ownBlock = some w1.heap.size) :
    ItRun tb e base bb W A vb (w2.setCell ⟨bb, 0, none⟩ vb') A vb' l' := by
  have hs1 := hb.size
  have hs2 := hg.size
  have hbb := Blk.lt h.blk
  have hset := grownBy_set w2 ⟨bb, 0, none⟩ vb'
  have hs3 := hset.size
  have ha := h.alt
  have hne : ∀ b, vb'.ownBlock = some b → vb.ownBlock = some b ∨ W.heap.size ≤ b := fun b e => by
    rcases hv with h1 | h1
    · exact .inl (h1 ▸ e)
    · rw [h1] at e; injection e with e; exact .inr (by omega)
  have hbn : ∀ b, vb'.ownBlock = some b → b ≠ bb := fun b e => by
    rcases hne b e with h1 | h1
    · exact (h.dv b h1).2
    · omega
  refine ⟨fun b hb => by have := ha b hb; omega, fun _ hb => .inl hb, ?_, ?_, ?_, hne, ?_⟩
  · exact ((Below.only hb).trans (grownBy_only (A := fun b => A b ∨ b = bb ∨ vb.ownBlock = some b) hg (fun k e => .inr (.inr e))) (fun b hb => .inl hb)).trans (grownBy_only (A := fun b => A b ∨ b = bb ∨ vb.ownBlock = some b) hset (fun k e => by cases e; exact .inr (.inl rfl))) (fun b hb => .inl hb)
  · have h1 : Blk w2 bb #[vb] tb := (h.blk.keep hb).grown hg fun e => (h.dv bb e.symm).2 rfl
    have h2 := Blk.set (i := 0) h1 vb'
    simpa using h2
  · exact ho.keepG hset (fun k e he => hbn k e (by simpa using he))
  · intro b e hab
    rcases hne b e with h1 | h1
    · exact (h.dA b hab).2.2 h1
    · have := ha b hab; omega
/-- .. and nothing of the caller's. -/
theorem ItInv.step_only (h : ItInv tb e base bb C W A vb l) {w1 w2 : World} {v : Value} (hb : Below W.heap.size W w1) (hg : w1.grownBy w2 vb.ownBlock) : Only (fun b => ¬ A b) W (w2.setCell ⟨bb, 0, none⟩ v) :=
  ((Below.only hb).trans (grownBy_only (A := fun b => ¬ A b) hg (fun k e ha => (h.dA k ha).2.2 e)) (fun b hb => .inl hb)).trans (grownBy_only (A := fun b => ¬ A b) (grownBy_set w2 ⟨bb, 0, none⟩ v) (fun k e => by cases e; exact fun ha => (h.dA bb ha).2.1 rfl)) (fun b hb => .inl hb)
end
end Go.Proofs.Ytpgbedaonjfpnaa
