/- Base: Kit, Mix, MixL, Par, ParV, Rep, RepO, RepN, Only, StoreB, in one text. -/
import Derived.WalkKit
import Derived.Handy
import Derived.Deep.QuietTactic
import Derived.BigQuiet
import Derived.OrdersHeld
import Derived.Deep.AppendLies
import Derived.Laws.AppendOwnNone
import Derived.Laws.Cover3
import Derived.ArgAppend
import Derived.Laws.Tables
/- Small laws of no program: a world that has only grown ('Ext'), and what a contract gives in a region that draws its order. -/
namespace Go.Proofs.Ytgffeihfcmbobaa
open Go.RowKit

/-- What stood stands: cells and marks of old blocks. -/
theorem bcell {W w1 : World} (hb : Below W.heap.size W w1) : (∀ b o, b < W.heap.size → w1.cell? ⟨b, o, none⟩ = W.cell? ⟨b, o, none⟩) ∧ (∀ b o, b < W.heap.size → w1.frozen? ⟨b, o, none⟩ = W.frozen? ⟨b, o, none⟩) :=
  ⟨fun b o h => hb.cell (p := ⟨b, o, none⟩) h, fun b o h => hb.frozen (p := ⟨b, o, none⟩) h⟩

/-- One call behind another. -/
theorem Below.thru {B : Nat} {a b c : World} (h : Below B a b) (k : Below b.heap.size b c) (hB : B ≤ a.heap.size) : Below B a c :=
  h.trans (k.mono (Nat.le_trans hB h.size))

theorem below_drewN {B : Nat} {a w : World} (n : Nat) (h : Below B a w) : Below B a (w.drewN n) := ⟨h.os, h.tape, h.output, h.size, h.block⟩

/-- A world that has grown out of w. -/
structure Ext (w : World) where
  wd : World
  ok : Below w.heap.size w wd

theorem Ext.cell {w : World} (p : Ext w) (b o : Nat) (h : b < w.heap.size) : p.wd.cell? ⟨b, o, none⟩ = w.cell? ⟨b, o, none⟩ := p.ok.cell (p := ⟨b, o, none⟩) h
theorem Ext.frozen {w : World} (p : Ext w) (b o : Nat) (h : b < w.heap.size) : p.wd.frozen? ⟨b, o, none⟩ = w.frozen? ⟨b, o, none⟩ := p.ok.frozen (p := ⟨b, o, none⟩) h
theorem ext_some (w : World) : Nonempty (Ext w) := ⟨⟨w, Below.refl _ _⟩⟩

/-- A region that draws its order, whose operations only read and whose callees only lay blocks of their own: one walk, in the order of the text. -/
theorem wp_region_ext {P : Program} {id : Nat} {Q : Exit → Act → World → Prop} {a : Act} {w : World} {l : List Oper} (hm : P.follows .mixedOrders = true) (hB : Region.lexB .any l.toArray = true)
    (h : wpQuiet P l.toArray (fun w' => ∃ p : Ext w, w' = p.wd) (fun a' => ∀ w', (∃ p : Ext w, w' = p.wd) → Q .normal a' w') l a) : (Code.region id l.toArray true).wp P Q a w :=
  wp_region_quiet (C := fun w' => ∃ p : Ext w, w' = p.wd) hm hB ⟨⟨w.drew, (Below.refl _ _).drew⟩, rfl⟩ (by simpa using h)

/-- A contract, met in such a world. -/
theorem calls_ext {P : Program} {f : FuncId} {args : Array Value} {w : World} {p : Ext w} {v : Value}
    (h : Calls P f args p.wd fun e w' => e = .returned v ∧ Below p.wd.heap.size p.wd w') : Calls P f args p.wd fun e w'' => e = .returned v ∧ ∃ q : Ext w, w'' = q.wd :=
  h.mono fun _ w' ⟨he, hb⟩ => ⟨he, ⟨w', Below.thru p.ok hb (Nat.le_refl _)⟩, rfl⟩
theorem calls_ext_same {P : Program} {f : FuncId} {args : Array Value} {w : World} {p : Ext w} {v : Value}
    (h : Calls P f args p.wd fun e w' => e = .returned v ∧ w' = p.wd) : Calls P f args p.wd fun e w'' => e = .returned v ∧ ∃ q : Ext w, w'' = q.wd :=
  h.mono fun _ _ ⟨he, hb⟩ => ⟨he, p, hb⟩

/-- A world that has grown, as the laws of append say it. -/
theorem Below.grownBy {w w' : World} (h : Below w.heap.size w w') : w.grownBy w' none := ⟨h.os, h.tape, h.output, h.size, fun k hk _ => h.block k hk⟩
theorem ownsRow_below {w w' : World} {base : Nat} {e : TypeId} {size : Nat} {v : Value} {n : Nat} {xs : List Value} (h : w.ownsRow base e size v n xs) (hb : Below w.heap.size w w') : w'.ownsRow base e size v n xs :=
  h.kept (Below.grownBy hb) (by cases hv : v.ownBlock <;> simp)
/-- Behind an append onto nil: what stood stands. -/
theorem gcell {W w1 : World} (hg : W.grownBy w1 none) : ∀ b o, b < W.heap.size → w1.cell? ⟨b, o, none⟩ = W.cell? ⟨b, o, none⟩ :=
  fun b o h => World.cell?_of_block (w := W) (a := ⟨b, o, none⟩) (hg.block b h (by simp))

theorem cell_lt {w : World} {b o : Nat} {v : Value} (h : w.cell? ⟨b, o, none⟩ = some v) : b < w.heap.size := by
  rcases Nat.lt_or_ge b w.heap.size with hlt | hge
  · exact hlt
  · simp [World.cell?, Array.getElem?_eq_none hge] at h

/-- What is held through a region that draws its order: what stood at its start stands. -/
theorem keep_of {w0 w' : World} (h : Below w0.heap.size w0 w') : (∀ b o, b < w0.heap.size → w'.cell? ⟨b, o, none⟩ = w0.cell? ⟨b, o, none⟩) ∧ Below w0.heap.size w0 w' := ⟨(bcell h).1, h⟩
theorem keep_alloc {w0 w' : World} (h : Below w0.heap.size w0 w') (o : Obj) : (∀ b i, b < w0.heap.size → (w'.alloc o).cell? ⟨b, i, none⟩ = w0.cell? ⟨b, i, none⟩) ∧ Below w0.heap.size w0 (w'.alloc o) := keep_of (h.alloc h.size o)

end Go.Proofs.Ytgffeihfcmbobaa

/- A region that draws its order, whose pure operations (loads, arithmetic) read only what stood when it began, and whose calls and allocations come one behind the other: one walk serves every order. -/
namespace Go.Proofs.Ytgffeihfcmbobaa
open Go.RowKit

/-- Operations that yield a value and leave the world alone, if they go through. -/
def pureOp (o : Oper) : Bool :=
  match o.op with
  | .move _ | .assign _ | .pick .. | .load .. | .binOp .. | .unOp .. | .convert .. | .fieldAddr .. | .field .. | .indexAddr .. | .index .. | .slice .. | .extract .. | .lookup .. | .build .. | .makeInterface .. | .nilCheck _ => true
  | .call c => match c.callee with
    | .builtin .len => true
    | _ => false
  | _ => false

theorem value_of_bind {α : Type} {P : Program} {s : Sem α} {f : α → Value} {w w' : World} {n : Next} (h : (do let x ← s; pure (Next.value (f x)) : Sem Next).run P w = .ok n w') : ∃ v, n = .value v := by
  simp only [Sem.run_bind] at h
  cases hs : s.run P w with
  | ok x w1 => rw [hs] at h; simp only [Result.andThen_ok, Sem.run_pure, Result.ok.injEq] at h; exact ⟨f x, h.1.symm⟩
  | halt x w1 => rw [hs] at h; simp [Result.andThen] at h

theorem value_of_end {α : Type} {P : Program} {s : Sem α} {k : α → Sem Next} (hk : ∀ x w n w', (k x).run P w = .ok n w' → ∃ v, n = .value v) {w w' : World} {n : Next} (h : (s >>= k).run P w = .ok n w') : ∃ v, n = .value v := by
  simp only [Sem.run_bind] at h
  cases hs : s.run P w with
  | ok x w1 => rw [hs] at h; exact hk _ _ _ _ h
  | halt x w1 => rw [hs] at h; simp [Result.andThen] at h
theorem value_of_pure {P : Program} {v : Value} {w w' : World} {n : Next} (h : (pure (.value v) : Sem Next).run P w = .ok n w') : ∃ v, n = .value v := by
  simp only [Sem.run_pure, Result.ok.injEq] at h
  exact ⟨_, h.1.symm⟩
theorem nil_value {P : Program} {o : Oper} {x : Operand} (ho : o.op = .nilCheck x) {ρ : Operand → Value} {w w' : World} {n : Next} (h : (execOp ρ o).run P w = .ok n w') : ∃ v, n = .value v := by
  unfold execOp at h
  simp only [ho] at h
  split at h
  · simp [runtimePanic, go_sem] at h
  · simp [runtimePanic, go_sem] at h
  · simp [runtimePanic, go_sem] at h
  · split at h
    · simp [runtimePanic, go_sem] at h
    · refine value_of_end (fun _ _ _ _ h => value_of_end (fun _ _ _ _ h => ?_) h) h
      split at h
      · exact value_of_end (fun _ _ _ _ h => value_of_pure h) h
      · exact value_of_pure h
    · simp only [Sem.run_pure, Result.ok.injEq] at h
      exact ⟨_, h.1.symm⟩
  · simp only [Sem.run_pure, Result.ok.injEq] at h
    exact ⟨_, h.1.symm⟩
theorem pure_value {P : Program} {o : Oper} (hp : pureOp o = true) {ρ : Operand → Value} {w w' : World} {n : Next} (h : (execOp ρ o).run P w = .ok n w') : ∃ v, n = .value v := by
  unfold pureOp at hp
  split at hp
  all_goals first
    | (rename_i ho; exact nil_value ho h)
    | skip
  all_goals unfold execOp at h
  all_goals first
    | (rename_i ho; simp only [ho] at h; exact value_of_bind (f := id) h)
    | (rename_i ho; simp only [ho, Sem.run_pure, Result.ok.injEq] at h; exact ⟨_, h.1.symm⟩)
    | (rename_i ho; simp only [ho] at h; exact value_of_bind h)
    | (cases hp; done)
    | skip
  rename_i c ho
  split at hp
  · rename_i hc
    simp only [ho, resolve, hc, invoke, builtin] at h
    rw [Sem.run_bind, Sem.run_pure, Result.andThen_ok] at h
    exact value_of_bind (f := id) h
  · cases hp

/-- The class of worlds that have grown out of w. -/
def ExtC (w : World) : World → Prop := fun w' => ∃ p : Ext w, w' = p.wd

theorem extC_below {w w' : World} (h : Below w.heap.size w w') : ExtC w w' := ⟨⟨w', h⟩, rfl⟩

/-- A pure operation that is quiet in a class yields its value in every world of it. -/
theorem yieldsIf_of_quiet {P : Program} {ops : Array Oper} {C : World → Prop} {o : Oper} {a : Act} {v : Value} (hp : pureOp o = true) (hw : Region.wanted o (yielded ops a.tmps) = true)
    (h : ∀ w, C w → o.quietAt P a C w v) : YieldsIf P ops C o v a := by
  refine .inl ⟨hw, fun w hC => ?_⟩
  have h1 := h w hC
  unfold Oper.quietAt at h1
  cases hr : (execOp a.eval o).run P w with
  | ok n w' =>
    obtain ⟨u, rfl⟩ := pure_value hp hr
    rw [hr] at h1
    obtain ⟨e1, e2⟩ := h1
    rw [e1, e2]
  | halt x w' => rw [hr] at h1; exact h1.elim

/-- The operation at a place of a list. -/
def opAt : List Oper → Nat → Oper
  | [], _ => default
  | o :: _, 0 => o
  | _ :: l, n + 1 => opAt l n

theorem opAt_get {o : Oper} : ∀ {l : List Oper} {i : Nat}, l[i]? = some o → opAt l i = o
  | [], i, h => by simp at h
  | x :: l, 0, h => by simpa [opAt] using h
  | x :: l, i + 1, h => by simpa [opAt] using opAt_get (l := l) (i := i) (by simpa using h)

/-- The order of the walk: pure operations as early as may be, then, alone, a call or an allocation. -/
def segB (ops : Array Oper) : List Nat → Array Bool → (Array Bool → Bool) → Bool
  | [], listed, k => k listed
  | i :: seg, listed, k => (Region.ready .any ops listed).contains i && Region.free .any ops listed i && pureOp (opAt ops.toList i) && segB ops seg (listed.setIfInBounds i true) k
def mixB (ops : Array Oper) : List (List Nat × Nat) → List Nat → Array Bool → Bool
  | [], last, listed => segB ops last listed fun l => (Region.ready .any ops l).isEmpty
  | (seg, i) :: rest, last, listed => segB ops seg listed fun l => Region.ready .any ops l == [i] && mixB ops rest last (l.setIfInBounds i true)
def mixLen : List (List Nat × Nat) → List Nat → Nat
  | [], last => last.length
  | (seg, _) :: rest, last => seg.length + (1 + mixLen rest last)

/-- THE WALK. w0: the world when the region began. -/
def wpMix (P : Program) (ops : Array Oper) (w0 : World) (Q : Exit → Act → World → Prop) : List (List Oper × Oper) → List Oper → Act → World → Prop
  | [], last, a, w => wpQuiet P ops (fun w' => ∃ p : Ext w0, w' = p.wd) (fun a' => Q .normal a' w) last a
  | (seg, o) :: rest, last, a, w => wpQuiet P ops (fun w' => ∃ p : Ext w0, w' = p.wd) (fun a' => wpList P ops (Exit.then (fun a'' w' => Below w0.heap.size w0 w' ∧ wpMix P ops w0 Q rest last a'' w') Q) [o] a' w) seg a

section
variable {P : Program} {ops : Array Oper} {w0 : World} {Q : Exit → Act → World → Prop}

theorem mix_seg (hs : Region.noSelect ops = true) (hQ : ∀ c a d v w, Q (.panic c) (Act.put a d v) w → Q (.panic c) a w) {w : World} (hS : Below w0.heap.size w0 w) {fuel : Nat} {k : Array Bool → Bool} {N : Act → Prop} :
    ∀ (seg : List Nat) (listed : Array Bool) (a : Act), segB ops seg listed k = true → wpQuiet P ops (fun w' => ∃ p : Ext w0, w' = p.wd) N (seg.map (opAt ops.toList)) a →
      (∀ a' listed', k listed' = true → N a' → wpAnyH P .any ops Q (ExtC w0) fuel listed' a' w) → wpAnyH P .any ops Q (ExtC w0) (seg.length + fuel) listed a w
  | [], listed, a, hB, h, hk => by simpa using hk a listed hB h
  | i :: seg, listed, a, hB, h, hk => by
    simp only [segB, Bool.and_eq_true] at hB
    obtain ⟨⟨⟨hr, hf⟩, hp⟩, hB⟩ := hB
    obtain ⟨o, ho⟩ : ∃ o, ops[i]? = some o := by
      unfold Region.free at hf
      split at hf
      · cases hf
      · exact ⟨_, by assumption⟩
    have ho' : opAt ops.toList i = o := opAt_get (by simpa using ho)
    rw [ho'] at hp
    simp only [List.map_cons, wpQuiet, ho'] at h
    have e : (i :: seg).length + fuel = (seg.length + fuel) + 1 := by simp; omega
    rw [e]
    split at h
    · rename_i hw
      obtain ⟨v, h1, h2⟩ := h
      exact wpAnyH_take ho hs hf hr (fun c a w => hQ c a _ _ w) (yieldsIf_of_quiet hp hw h1) (extC_below hS) (mix_seg hs hQ hS seg _ _ hB h2 hk)
    · rename_i hw
      exact wpAnyH_take (v := undef) ho hs hf hr (fun c a w => hQ c a _ _ w) (.inr ⟨by simpa using hw, rfl⟩) (extC_below hS) (mix_seg hs hQ hS seg _ _ hB h hk)

theorem upon_then {o : Oper} {a : Act} {K K' : Act → World → Prop} {w : World} (hK : ∀ a w, K a w → K' a w) (h : o.wp P a w K (Exit.then K Q)) : o.wp P a w K' Q := by
  unfold Oper.wp at *
  generalize (execOp a.eval o).run P w = r at *
  cases r with
  | ok n w' =>
    cases n <;> simp only [Oper.upon] at h ⊢ <;>
      first
        | exact hK _ _ h
        | exact Calls.mono h (fun e w'' he => by cases e <;> first | exact hK _ _ he | exact he)
        | exact Rows.mono h (fun _ _ he => hK _ _ he)
  | halt x w' => cases x <;> simp only [Oper.upon] at h ⊢ <;> exact h

theorem mix_any (hs : Region.noSelect ops = true) (hQ : ∀ c a d v w, Q (.panic c) (Act.put a d v) w → Q (.panic c) a w) :
    ∀ (sch : List (List Nat × Nat)) (last : List Nat) (listed : Array Bool) (a : Act) (w : World), mixB ops sch last listed = true → Below w0.heap.size w0 w →
      wpMix P ops w0 Q (sch.map fun x => (x.1.map (opAt ops.toList), opAt ops.toList x.2)) (last.map (opAt ops.toList)) a w → wpAnyH P .any ops Q (ExtC w0) (mixLen sch last) listed a w
  | [], last, listed, a, w, hB, hS, h => by
    have := mix_seg (P := P) (Q := Q) hs hQ hS (fuel := 0) last listed a hB h (fun a' listed' hk hN => wpAnyH_done (by simpa using hk) hN 0)
    simpa [mixLen] using this
  | (seg, i) :: rest, last, listed, a, w, hB, hS, h => by
    refine mix_seg (P := P) (Q := Q) hs hQ hS (fuel := 1 + mixLen rest last) seg listed a hB h ?_
    intro a' listed' hk hN
    simp only [Bool.and_eq_true, beq_iff_eq] at hk
    obtain ⟨hr, hB'⟩ := hk
    rw [Nat.add_comm 1]
    refine wpAnyH_all hr (by simp) ?_
    intro j hj
    simp only [List.mem_singleton] at hj
    subst hj
    have hmem : j ∈ Region.ready .any ops listed' := by rw [hr]; simp
    obtain ⟨_, o, ho, _⟩ := mem_ready.1 hmem
    have ho' : opAt ops.toList j = o := opAt_get (by simpa using ho)
    simp only [wpList, ho'] at hN
    unfold wpOp
    simp only [ho]
    split
    · rename_i hw
      simp only [hw, if_true] at hN
      rcases hN with hN | ⟨h1, h2⟩
      · refine .inl (upon_then (fun a'' w' hK => ?_) hN)
        exact ⟨extC_below hK.1, mix_any hs hQ rest last _ a'' w' hB' hK.1 hK.2⟩
      · exact .inr ⟨h1, by obtain ⟨b, u, h⟩ := h2; exact ⟨b, u, h⟩⟩
    · rename_i hw
      simp only [hw] at hN
      obtain ⟨h1, h2⟩ := hN
      exact ⟨extC_below h1, mix_any hs hQ rest last _ _ w hB' h1 h2⟩

theorem wpMix_stage {seg : List Oper} {o : Oper} {rest : List (List Oper × Oper)} {last : List Oper} {a : Act} {w : World}
    (h : wpQuiet P ops (fun w' => ∃ p : Ext w0, w' = p.wd) (fun a' => wpList P ops (Exit.then (fun a'' w' => Below w0.heap.size w0 w' ∧ wpMix P ops w0 Q rest last a'' w') Q) [o] a' w) seg a) : wpMix P ops w0 Q ((seg, o) :: rest) last a w := h
theorem wpMix_last {last : List Oper} {a : Act} {w : World} (h : wpQuiet P ops (fun w' => ∃ p : Ext w0, w' = p.wd) (fun a' => Q .normal a' w) last a) : wpMix P ops w0 Q [] last a w := h

/-- THE LAW. -/
theorem wp_region_mix (sch : List (List Nat × Nat)) (last : List Nat) {id : Nat} {a : Act} {w : World} {l : List Oper} (hm : P.follows .mixedOrders = true)
    (hB : (Region.noSelect l.toArray && mixB l.toArray sch last (Array.replicate l.toArray.size false) && decide (mixLen sch last = l.toArray.size)) = true)
    (hQ : ∀ c a d v w, Q (.panic c) (Act.put a d v) w → Q (.panic c) a w)
    (h : wpMix P l.toArray w Q (sch.map fun x => (x.1.map (opAt l), opAt l x.2)) (last.map (opAt l)) a w.drew) : (Code.region id l.toArray true).wp P Q a w := by
  simp only [Bool.and_eq_true, decide_eq_true_eq] at hB
  obtain ⟨⟨hs, hB⟩, hl⟩ := hB
  refine wp_region_held (S := ExtC w) hm ?_
  have := mix_any (P := P) (w0 := w) hs hQ sch last _ a w.drew hB (Below.refl _ _).drew h
  rw [hl] at this
  exact this
end
end Go.Proofs.Ytgffeihfcmbobaa

/- A region that draws its order and, late in it, writes to what stood (x.f = append(x.f, g(..))): pure operations read only what stood when it began, as long as no late operation has come up; one walk serves every order. -/
namespace Go.Proofs.Ytgffeihfcmbobaa
open Go.RowKit

section
variable {P : Program} {ops : Array Oper} {Q : Exit → Act → World → Prop} {md : Region.Mode} {S : World → Prop} {late : Nat → Bool}

/-- What is known of the world: S, as long as no late operation has come up. -/
def SL (late : Nat → Bool) (S : World → Prop) (listed : Array Bool) (w : World) : Prop := (∃ j, late j = true ∧ listed.getD j false = true) ∨ S w

def wpAnyL (P : Program) (md : Region.Mode) (ops : Array Oper) (Q : Exit → Act → World → Prop) (late : Nat → Bool) (S : World → Prop) : Nat → Array Bool → Act → World → Prop
  | 0, listed, a, w => Region.ready md ops listed = [] ∧ Q .normal a w
  | fuel + 1, listed, a, w =>
    (Region.ready md ops listed = [] → Q .normal a w) ∧
    ∀ i ∈ Region.ready md ops listed, wpOp P ops Q i (fun a' w' => SL late S (listed.setIfInBounds i true) w' ∧ wpAnyL P md ops Q late S fuel (listed.setIfInBounds i true) a' w') a w

theorem wpAny_of_late : ∀ (fuel : Nat) (listed : Array Bool) (a : Act) (w : World), wpAnyL P md ops Q late S fuel listed a w → wpAny P md ops Q fuel listed a w
  | 0, _, _, _, h => h
  | fuel + 1, _, _, _, h => ⟨h.1, fun i hi => wpOp_mono (fun a' w' h' => wpAny_of_late fuel _ a' w' h'.2) (h.2 i hi)⟩

theorem SL_swap {i j : Nat} {listed : Array Bool} {w : World} (hi : late i = false) (h : SL late S ((listed.setIfInBounds i true).setIfInBounds j true) w) : SL late S (listed.setIfInBounds j true) w := by
  rcases h with ⟨k, hk, hl⟩ | h
  · refine .inl ⟨k, hk, ?_⟩
    have hki : k ≠ i := fun e => by subst e; rw [hi] at hk; cases hk
    by_cases hij : i = j
    · subst hij
      rw [Array.setIfInBounds_setIfInBounds] at hl
      exact hl
    · rw [Array.setIfInBounds_comm _ _ hij, getD_set_ne false (Ne.symm hki)] at hl
      exact hl
  · exact .inr h

/-- An operation that may come up now may be taken first. -/
theorem wpAnyL_first {C : World → Prop} {Inv : Array Bool → Prop} {i : Nat} {oi : Oper} {v : Value} (hi : ops[i]? = some oi) (hli : late i = false) (hsel : ∀ (j : Nat) (o : Oper) cs b, ops[j]? = some o → o.op ≠ .select cs b)
    (hQ : ∀ c a w, Q (.panic c) (a.put oi.dst v) w → Q (.panic c) a w)
    (hInv : ∀ L j, Inv L → j ∈ Region.ready md ops L → j ≠ i → Inv (L.setIfInBounds j true)) (hC : ∀ L w, Inv L → SL late S L w → C w) :
    ∀ (fuel : Nat) (listed : Array Bool) (a : Act) (w : World), Inv listed →
      (∀ j oj, ops[j]? = some oj → j ≠ i → listed.getD j true = false → (∀ e ∈ oj.after, Region.binds md e = true → e.on ≠ i) → oi.apart ops oj = true) →
      i ∈ Region.ready md ops listed → YieldsIf P ops C oi v a → SL late S listed w →
      wpAnyL P md ops Q late S fuel (listed.setIfInBounds i true) (a.put oi.dst v) w → wpAnyL P md ops Q late S (fuel + 1) listed a w := by
  have mono : ∀ {L : Array Bool} {w : World}, SL late S L w → SL late S (L.setIfInBounds i true) w := fun h => by
    rcases h with ⟨k, hk, hl⟩ | h
    · exact .inl ⟨k, hk, getD_set_true hl⟩
    · exact .inr h
  intro fuel
  induction fuel with
  | zero =>
    intro listed a w hV _ hr hy hS H
    refine ⟨fun h => (by rw [h] at hr; cases hr), fun j hj => ?_⟩
    by_cases hji : j = i
    · subst hji; exact hy.wpOp hi (hC _ _ hV hS) ⟨mono hS, H⟩
    · have := ready_mono hj hji
      rw [H.1] at this
      cases this
  | succ fuel ih =>
    intro listed a w hV hfree hr hy hS H
    refine ⟨fun h => (by rw [h] at hr; cases hr), fun j hj => ?_⟩
    by_cases hji : j = i
    · subst hji; exact hy.wpOp hi (hC _ _ hV hS) ⟨mono hS, H⟩
    · have h1 := H.2 j (ready_mono hj hji)
      obtain ⟨hjun, oj, hoj, hall⟩ := mem_ready.1 hj
      have hnot : ∀ e ∈ oj.after, Region.binds md e = true → e.on ≠ i := fun e he hb heq => by
        have h1 := hall e he hb
        have h0 := (mem_ready.1 hr).1
        rw [heq] at h1
        rcases Nat.lt_or_ge i listed.size with h' | h'
        · simp [h'] at h0 h1; rw [h0] at h1; cases h1
        · simp [Array.getElem?_eq_none h'] at h1
      have h2 := wpOp_putIf hoj (hfree j oj hoj hji hjun hnot) (fun cs b => hsel i oi cs b hi) (fun cs b => hsel j oj cs b hoj) hQ hy h1
      have hfree' : ∀ k ok, ops[k]? = some ok → k ≠ i → (listed.setIfInBounds j true).getD k true = false →
          (∀ e ∈ ok.after, Region.binds md e = true → e.on ≠ i) → oi.apart ops ok = true := fun k ok hk hki hun hno => by
        refine hfree k ok hk hki ?_ hno
        by_cases hjk : j = k
        · subst hjk; exact hjun
        · rw [getD_set_ne true hjk] at hun; exact hun
      refine wpOp_mono (fun a' w' h3 => ?_) h2
      have hS' := SL_swap hli h3.2.1
      refine ⟨hS', ih (listed.setIfInBounds j true) a' w' (hInv _ _ hV hj hji) hfree' (ready_mono hr (Ne.symm hji)) h3.1 hS' ?_⟩
      rw [Array.setIfInBounds_comm _ _ hji]
      exact h3.2.2

/-- Whom i has to wait ahead of: all that hangs on it. -/
def depStep (ops : Array Oper) (u : List Bool) : List Bool :=
  (List.range ops.size).map fun j => u.getD j false || match ops[j]? with
    | some o => o.after.any fun e => Region.binds .any e && u.getD e.on false
    | none => false
def depOn (ops : Array Oper) (i : Nat) : Nat → List Bool
  | 0 => (List.range ops.size).map (· == i)
  | n + 1 => depStep ops (depOn ops i n)
/-- All late operations hang on i, and nothing that hangs on it has come up. -/
def lateB (ops : Array Oper) (ls : List Nat) (listed : Array Bool) (i : Nat) : Bool :=
  let u := depOn ops i ops.size
  ls.all (fun j => u.getD j false) && (List.range ops.size).all (fun k => !u.getD k false || !listed.getD k false) &&
    (List.range ops.size).all (fun j => !u.getD j false || j == i || match ops[j]? with
      | some o => o.after.any fun e => Region.binds .any e && u.getD e.on false
      | none => false)

theorem depOn_len (ops : Array Oper) (i n : Nat) : (depOn ops i n).length = ops.size := by cases n <;> simp [depOn, depStep]

theorem late_inv {ls : List Nat} {listed : Array Bool} {i : Nat} (h : lateB ops ls listed i = true) :
    ∃ Inv : Array Bool → Prop, Inv listed ∧ (∀ L j, Inv L → j ∈ Region.ready .any ops L → j ≠ i → Inv (L.setIfInBounds j true)) ∧ ∀ L w, Inv L → SL (fun j => ls.contains j) S L w → S w := by
  simp only [lateB, Bool.and_eq_true, List.all_eq_true, List.mem_range] at h
  obtain ⟨⟨h1, h2⟩, h3⟩ := h
  have hul := depOn_len ops i ops.size
  generalize depOn ops i ops.size = u at h1 h2 h3 hul
  have small : ∀ k, u.getD k false = true → k < ops.size := fun k hk => by
    rcases Nat.lt_or_ge k ops.size with h | h
    · exact h
    · rw [List.getD_eq_getElem?_getD, List.getElem?_eq_none (by omega)] at hk; cases hk
  refine ⟨fun L => ∀ k, u.getD k false = true → L.getD k false = false, ?_, ?_, ?_⟩
  · intro k hu
    have := h2 k (small k hu)
    rw [hu] at this
    simpa using this
  · intro L j hL hj hji k hu
    obtain ⟨_, o, ho, hall⟩ := mem_ready.1 hj
    by_cases hjk : j = k
    · subst hjk
      have := h3 j (small j hu)
      rw [hu, ho] at this
      simp only [Bool.not_true, Bool.false_or, Bool.or_eq_true, beq_iff_eq, hji, false_or, Array.any_eq_true'] at this
      obtain ⟨e, he, hb⟩ := this
      simp only [Bool.and_eq_true] at hb
      have h5 := hall e he hb.1
      rw [hL _ hb.2] at h5
      cases h5
    · rw [getD_set_ne false hjk]
      exact hL k hu
  · intro L w hL hs
    rcases hs with ⟨j, hj, hl⟩ | hs
    · have hj' : j ∈ ls := by simpa using hj
      rw [hL j (h1 j hj')] at hl
      cases hl
    · exact hs

/-- Operations that read no memory. -/
def stillOp (o : Oper) : Bool :=
  match o.op with
  | .move _ | .assign _ => true
  | _ => false
theorem yieldsIf_still {C C' : World → Prop} {o : Oper} {a : Act} {v : Value} {w0 : World} (hs : stillOp o = true) (hw : Region.wanted o (yielded ops a.tmps) = true) (h : o.quietAt P a C w0 v) : YieldsIf P ops C' o v a := by
  refine .inl ⟨hw, fun w _ => ?_⟩
  unfold Oper.quietAt at h
  unfold stillOp at hs
  unfold execOp at h ⊢
  split at hs
  · rename_i ho
    simp only [ho, Sem.run_pure] at h ⊢
    have e1 : a.eval _ = v := h.2
    rw [e1]
  · rename_i ho
    simp only [ho, Sem.run_pure] at h ⊢
    have e1 : a.eval _ = v := h.2
    rw [e1]
  · cases hs
/-- The order of the walk. 'ph': a late operation has come up. -/
def segLB (ops : Array Oper) (ls : List Nat) (ph : Bool) : List Nat → Array Bool → (Array Bool → Bool) → Bool
  | [], listed, k => k listed
  | i :: seg, listed, k => (Region.ready .any ops listed).contains i && Region.free .any ops listed i && pureOp (opAt ops.toList i) && !ls.contains i && (ph || (lateB ops ls listed i || stillOp (opAt ops.toList i))) && segLB ops ls ph seg (listed.setIfInBounds i true) k
def mixLB (ops : Array Oper) (ls : List Nat) : Bool → List (List Nat × Nat × Bool) → List Nat → Array Bool → Bool
  | ph, [], last, listed => segLB ops ls ph last listed fun l => (Region.ready .any ops l).isEmpty
  | ph, (seg, i, ph') :: rest, last, listed => segLB ops ls ph seg listed fun l => Region.ready .any ops l == [i] && (ph' == (ph || ls.contains i)) && mixLB ops ls ph' rest last (l.setIfInBounds i true)
def mixLLen : List (List Nat × Nat × Bool) → List Nat → Nat
  | [], last => last.length
  | (seg, _, _) :: rest, last => seg.length + (1 + mixLLen rest last)

/-- Any world. -/
structure AnyW where
  wd : World
theorem anyW_some : Nonempty AnyW := ⟨⟨default⟩⟩

/-- Worlds in which pure operations are asked: those that have grown out of w0; all, once a late operation has come up. -/
def CL (w0 : World) : Bool → World → Prop
  | false, w' => ∃ p : Ext w0, w' = p.wd
  | true, w' => ∃ p : AnyW, w' = p.wd
/-- THE WALK. -/
def wpMixL (P : Program) (ops : Array Oper) (w0 : World) (Q : Exit → Act → World → Prop) : Bool → List (List Oper × Oper × Bool) → List Oper → Act → World → Prop
  | ph, [], last, a, w => wpQuiet P ops (CL w0 ph) (fun a' => Q .normal a' w) last a
  | ph, (seg, o, ph') :: rest, last, a, w => wpQuiet P ops (CL w0 ph) (fun a' => wpList P ops (Exit.then (fun a'' w' => (ph' = true ∨ Below w0.heap.size w0 w') ∧ wpMixL P ops w0 Q ph' rest last a'' w') Q) [o] a' w) seg a

theorem wpMixL_stage {w0 : World} {seg : List Oper} {o : Oper} {rest : List (List Oper × Oper × Bool)} {last : List Oper} {a : Act} {w : World} {ph' : Bool}
    (h : wpQuiet P ops (fun w' => ∃ p : Ext w0, w' = p.wd) (fun a' => wpList P ops (Exit.then (fun a'' w' => (ph' = true ∨ Below w0.heap.size w0 w') ∧ wpMixL P ops w0 Q ph' rest last a'' w') Q) [o] a' w) seg a) : wpMixL P ops w0 Q false ((seg, o, ph') :: rest) last a w := h
theorem wpMixL_stage_late {w0 : World} {seg : List Oper} {o : Oper} {rest : List (List Oper × Oper × Bool)} {last : List Oper} {a : Act} {w : World} {ph' : Bool}
    (h : wpQuiet P ops (fun w' => ∃ p : AnyW, w' = p.wd) (fun a' => wpList P ops (Exit.then (fun a'' w' => (ph' = true ∨ Below w0.heap.size w0 w') ∧ wpMixL P ops w0 Q ph' rest last a'' w') Q) [o] a' w) seg a) : wpMixL P ops w0 Q true ((seg, o, ph') :: rest) last a w := h
theorem wpMixL_last {w0 : World} {last : List Oper} {a : Act} {w : World} (h : wpQuiet P ops (fun w' => ∃ p : AnyW, w' = p.wd) (fun a' => Q .normal a' w) last a) : wpMixL P ops w0 Q true [] last a w := h

theorem CL_of {w0 w : World} {ls : List Nat} {listed : Array Bool} : SL (fun j => ls.contains j) (ExtC w0) listed w → ∀ ph, ph = true ∨ (∀ j, ls.contains j = true → listed.getD j false = false) → CL w0 ph w := by
  intro h ph hp
  cases ph with
  | true => exact ⟨⟨w⟩, rfl⟩
  | false =>
    rcases hp with hp | hp
    · cases hp
    rcases h with ⟨j, hj, hl⟩ | h
    · rw [hp j hj] at hl; cases hl
    · exact h

theorem mixL_seg {w0 : World} {ls : List Nat} (hs : Region.noSelect ops = true) (hQ : ∀ c a d v w, Q (.panic c) (Act.put a d v) w → Q (.panic c) a w) {ph : Bool} {w : World} {fuel : Nat} {k : Array Bool → Bool} {N : Act → Prop} :
    ∀ (seg : List Nat) (listed : Array Bool) (a : Act), segLB ops ls ph seg listed k = true → (SL (fun j => ls.contains j) (ExtC w0) listed w) → wpQuiet P ops (CL w0 ph) N (seg.map (opAt ops.toList)) a →
      (∀ a' listed', SL (fun j => ls.contains j) (ExtC w0) listed' w → (∀ j, listed.getD j false = true → listed'.getD j false = true) → k listed' = true → N a' → wpAnyL P .any ops Q (fun j => ls.contains j) (ExtC w0) fuel listed' a' w) → wpAnyL P .any ops Q (fun j => ls.contains j) (ExtC w0) (seg.length + fuel) listed a w
  | [], listed, a, hB, hS, h, hk => by simpa using hk a listed hS (fun _ h => h) hB h
  | i :: seg, listed, a, hB, hS, h, hk => by
    simp only [segLB, Bool.and_eq_true] at hB
    obtain ⟨⟨⟨⟨⟨hr, hf⟩, hp⟩, hli⟩, hph⟩, hB⟩ := hB
    have hli' : ls.contains i = false := by simpa using hli
    obtain ⟨o, ho⟩ : ∃ o, ops[i]? = some o := by
      unfold Region.free at hf
      split at hf
      · cases hf
      · exact ⟨_, by assumption⟩
    have ho' : opAt ops.toList i = o := opAt_get (by simpa using ho)
    rw [ho'] at hp
    simp only [List.map_cons, wpQuiet, ho'] at h
    have e : (i :: seg).length + fuel = (seg.length + fuel) + 1 := by simp; omega
    rw [e]
    have hS2 : SL (fun j => ls.contains j) (ExtC w0) (listed.setIfInBounds i true) w := by
      rcases hS with ⟨j, hj, hl⟩ | h
      · exact .inl ⟨j, hj, getD_set_true hl⟩
      · exact .inr h
    have skip : ∀ {v : Value}, YieldsIf P ops (fun _ => True) o v a → wpAnyL P .any ops Q (fun j => ls.contains j) (ExtC w0) (seg.length + fuel) (listed.setIfInBounds i true) (a.put o.dst v) w → wpAnyL P .any ops Q (fun j => ls.contains j) (ExtC w0) (seg.length + fuel + 1) listed a w := by
      intro v hy hrest
      exact wpAnyL_first (C := fun _ => True) (Inv := fun _ => True) ho hli' (Region.noSelect_spec hs) (fun c a w => hQ c a _ _ w) (fun _ _ _ _ _ => trivial) (fun _ _ _ _ => trivial) _ listed a w trivial (Region.free_spec ho hf) (by simpa using hr) hy hS hrest
    have take : ∀ {C : World → Prop} {v : Value}, C = CL w0 ph → (ph || lateB ops ls listed i) = true → YieldsIf P ops C o v a → wpAnyL P .any ops Q (fun j => ls.contains j) (ExtC w0) (seg.length + fuel) (listed.setIfInBounds i true) (a.put o.dst v) w → wpAnyL P .any ops Q (fun j => ls.contains j) (ExtC w0) (seg.length + fuel + 1) listed a w := by
      intro C v hC hph hy hrest
      subst hC
      cases ph with
      | true => exact wpAnyL_first (C := CL w0 true) (Inv := fun _ => True) ho hli' (Region.noSelect_spec hs) (fun c a w => hQ c a _ _ w) (fun _ _ _ _ _ => trivial) (fun _ w _ _ => ⟨⟨w⟩, rfl⟩) _ listed a w trivial (Region.free_spec ho hf) (by simpa using hr) hy hS hrest
      | false =>
        have hl : lateB ops ls listed i = true := by simpa using hph
        obtain ⟨Inv, v1, v2, v3⟩ := late_inv (S := ExtC w0) hl
        exact wpAnyL_first (C := CL w0 false) (Inv := Inv) ho hli' (Region.noSelect_spec hs) (fun c a w => hQ c a _ _ w) v2 v3 _ listed a w v1 (Region.free_spec ho hf) (by simpa using hr) hy hS hrest
    have hcl : CL w0 ph w0 := by
      cases ph with
      | true => exact ⟨⟨w0⟩, rfl⟩
      | false => exact extC_below (Below.refl _ _)
    rw [ho'] at hph
    have hph' : (ph || lateB ops ls listed i) = true ∨ stillOp o = true := by
      simp only [Bool.or_eq_true] at hph ⊢
      rcases hph with h | h | h
      · exact .inl (.inl h)
      · exact .inl (.inr h)
      · exact .inr h
    split at h
    · rename_i hw
      obtain ⟨v, h1, h2⟩ := h
      have rest := mixL_seg hs hQ seg _ _ hB hS2 h2 (fun a' l' h1 h2 h3 h4 => hk a' l' h1 (fun j hj => h2 j (getD_set_true hj)) h3 h4)
      rcases hph' with hph' | hst
      · exact take rfl hph' (yieldsIf_of_quiet hp hw h1) rest
      · exact skip (yieldsIf_still hst hw (h1 _ hcl)) rest
    · rename_i hw
      exact skip (v := undef) (.inr ⟨by simpa using hw, rfl⟩) (mixL_seg hs hQ seg _ _ hB hS2 h (fun a' l' h1 h2 h3 h4 => hk a' l' h1 (fun j hj => h2 j (getD_set_true hj)) h3 h4))

theorem phase_of {w0 w' : World} {ls : List Nat} {ph : Bool} {i : Nat} {l : Array Bool} (hi : l.getD i true = false) (hK : (ph || ls.contains i) = true ∨ Below w0.heap.size w0 w') (hph : ph = true → ∃ j, ls.contains j = true ∧ l.getD j false = true) :
    SL (fun j => ls.contains j) (ExtC w0) (l.setIfInBounds i true) w' := by
  rcases hK with hK | hK
  · simp only [Bool.or_eq_true] at hK
    rcases hK with hK | hK
    · obtain ⟨j, hj, hl⟩ := hph hK
      exact .inl ⟨j, hj, getD_set_true hl⟩
    · refine .inl ⟨i, hK, ?_⟩
      have hlt : i < l.size := by
        rcases Nat.lt_or_ge i l.size with h | h
        · exact h
        · simp [Array.getElem?_eq_none h] at hi
      simp [hlt]
  · exact .inr (extC_below hK)

/-- The operations of the walk, each late phase marked. -/
def mapL (l : List Oper) : List (List Nat × Nat × Bool) → List (List Oper × Oper × Bool)
  | [] => []
  | (seg, i, ph) :: rest => (seg.map (opAt l), opAt l i, ph) :: mapL l rest

theorem mixL_any {w0 : World} {ls : List Nat} (hs : Region.noSelect ops = true) (hQ : ∀ c a d v w, Q (.panic c) (Act.put a d v) w → Q (.panic c) a w) :
    ∀ (sch : List (List Nat × Nat × Bool)) (ph : Bool) (last : List Nat) (listed : Array Bool) (a : Act) (w : World), mixLB ops ls ph sch last listed = true → SL (fun j => ls.contains j) (ExtC w0) listed w → (ph = true → ∃ j, ls.contains j = true ∧ listed.getD j false = true) →
      wpMixL P ops w0 Q ph (mapL ops.toList sch) (last.map (opAt ops.toList)) a w → wpAnyL P .any ops Q (fun j => ls.contains j) (ExtC w0) (mixLLen sch last) listed a w
  | [], ph, last, listed, a, w, hB, hS, _, h => by
    have := mixL_seg (P := P) (Q := Q) (w0 := w0) (ls := ls) hs hQ (fuel := 0) last listed a hB hS h (fun a' listed' _ _ hk hN => (⟨by simpa using hk, hN⟩ : Region.ready .any ops listed' = [] ∧ Q .normal a' w))
    simpa [mixLLen] using this
  | (seg, i, ph') :: rest, ph, last, listed, a, w, hB, hS, hph, h => by
    refine mixL_seg (P := P) (Q := Q) (w0 := w0) (ls := ls) hs hQ (fuel := 1 + mixLLen rest last) seg listed a hB hS h ?_
    intro a' listed' _ hmono hk hN
    simp only [Bool.and_eq_true, beq_iff_eq] at hk
    obtain ⟨⟨hr, hpe⟩, hB'⟩ := hk
    have hph' : ph = true → ∃ j, ls.contains j = true ∧ listed'.getD j false = true := fun h => by obtain ⟨j, h1, h2⟩ := hph h; exact ⟨j, h1, hmono j h2⟩
    rw [Nat.add_comm 1]
    refine ⟨fun h0 => (by rw [hr] at h0; cases h0), ?_⟩
    intro j hj
    have hmem := hj
    rw [hr] at hj
    simp only [List.mem_singleton] at hj
    subst hj
    obtain ⟨hun, o, ho, _⟩ := mem_ready.1 hmem
    have ho' : opAt ops.toList j = o := opAt_get (by simpa using ho)
    simp only [wpList, ho'] at hN
    subst hpe
    have fin : ∀ (a'' : Act) (w' : World), ((ph || ls.contains j) = true ∨ Below w0.heap.size w0 w') ∧ wpMixL P ops w0 Q (ph || ls.contains j) (mapL ops.toList rest) (last.map (opAt ops.toList)) a'' w' →
        SL (fun j => ls.contains j) (ExtC w0) (listed'.setIfInBounds j true) w' ∧ wpAnyL P .any ops Q (fun j => ls.contains j) (ExtC w0) (mixLLen rest last) (listed'.setIfInBounds j true) a'' w' := by
      intro a'' w' hK
      have hSL := phase_of hun hK.1 hph'
      refine ⟨hSL, mixL_any hs hQ rest _ last _ a'' w' hB' hSL (fun hp => ?_) hK.2⟩
      simp only [Bool.or_eq_true] at hp
      rcases hp with hp | hp
      · obtain ⟨k, h1, h2⟩ := hph' hp
        exact ⟨k, h1, getD_set_true h2⟩
      · refine ⟨j, hp, ?_⟩
        have hlt : j < listed'.size := by
          rcases Nat.lt_or_ge j listed'.size with h | h
          · exact h
          · simp [Array.getElem?_eq_none h] at hun
        simp [hlt]
    unfold wpOp
    simp only [ho]
    split
    · rename_i hw
      simp only [hw, if_true] at hN
      rcases hN with hN | ⟨h1, h2⟩
      · exact .inl (upon_then (fun a'' w' hK => fin a'' w' hK) hN)
      · exact .inr ⟨h1, by obtain ⟨b, u, h⟩ := h2; exact ⟨b, u, h⟩⟩
    · rename_i hw
      simp only [hw] at hN
      exact fin _ _ hN

/-- THE LAW. 'ls': the numbers of the late operations. -/
theorem wp_region_mixL (sch : List (List Nat × Nat × Bool)) (last ls : List Nat) {id : Nat} {a : Act} {w : World} {l : List Oper} (hm : P.follows .mixedOrders = true)
    (hB : (Region.noSelect l.toArray && mixLB l.toArray ls false sch last (Array.replicate l.toArray.size false) && decide (mixLLen sch last = l.toArray.size)) = true)
    (hQ : ∀ c a d v w, Q (.panic c) (Act.put a d v) w → Q (.panic c) a w)
    (h : wpMixL P l.toArray w Q false (mapL l sch) (last.map (opAt l)) a w.drew) : (Code.region id l.toArray true).wp P Q a w := by
  simp only [Bool.and_eq_true, decide_eq_true_eq] at hB
  obtain ⟨⟨hs, hB⟩, hl⟩ := hB
  refine wp_region_any hm (wpAny_of_late _ _ _ _ ?_ (late := fun j => ls.contains j) (S := ExtC w))
  have := mixL_any (P := P) (w0 := w) hs hQ sch false last _ a w.drew hB (.inr (extC_below (Below.refl _ _).drew)) (fun h => by cases h) h
  rw [hl] at this
  exact this
end
end Go.Proofs.Ytgffeihfcmbobaa

/- A region that draws its order, in which memory is made in more ways than one: every operation is asked once, in whatever world that has grown so far; what each gives stays so while the world grows. The late operations come behind, one behind the other. -/
namespace Go.Proofs.Ytgffeihfcmbobaa
open Go.RowKit

section
variable {P : Program} {ops : Array Oper} {Q : Exit → Act → World → Prop}

def dstOf (ops : Array Oper) (i : Nat) : Option Tmp := (ops[i]?).bind (·.dst)

/-- The frame is a0's but for the temporaries of the operations of 'sel', which hold 'vals'. -/
structure Fr (ops : Array Oper) (sel : Nat → Bool) (vals : Nat → Value) (a0 a : Act) : Prop where
  defers : a.defers = a0.defers
  size : a.tmps.size = a0.tmps.size
  on : ∀ i t, sel i = true → dstOf ops i = some t → t < a0.tmps.size → a.tmps[t]? = some (vals i)
  off : ∀ t, (∀ i, sel i = true → dstOf ops i ≠ some t) → a.tmps[t]? = a0.tmps[t]?

theorem Fr.uniq {sel : Nat → Bool} {vals : Nat → Value} {a0 a b : Act} (h : Fr ops sel vals a0 a) (k : Fr ops sel vals a0 b) : a = b := by
  obtain ⟨ta, da⟩ := a
  obtain ⟨tb, db⟩ := b
  have hd : da = db := h.defers.trans k.defers.symm
  subst hd
  have ht : ta = tb := by
    refine Array.ext_getElem? fun t => ?_
    by_cases hx : ∃ i, sel i = true ∧ dstOf ops i = some t
    · obtain ⟨i, hs, hd⟩ := hx
      by_cases hlt : t < a0.tmps.size
      · rw [h.on i t hs hd hlt, k.on i t hs hd hlt]
      · have e1 : ta.size = a0.tmps.size := h.size
        have e2 : tb.size = a0.tmps.size := k.size
        rw [Array.getElem?_eq_none (by omega), Array.getElem?_eq_none (by omega)]
    · have hx' : ∀ i, sel i = true → dstOf ops i ≠ some t := fun i hs hd => hx ⟨i, hs, hd⟩
      rw [h.off t hx', k.off t hx']
  subst ht
  rfl
theorem Fr.vals {sel : Nat → Bool} {vals vals' : Nat → Value} {a0 a : Act} (h : Fr ops sel vals a0 a) (hv : ∀ i, sel i = true → vals i = vals' i) : Fr ops sel vals' a0 a :=
  ⟨h.defers, h.size, fun i t hs hd hl => by rw [h.on i t hs hd hl, hv i hs], h.off⟩
theorem Fr.sel {sel sel' : Nat → Bool} {vals : Nat → Value} {a0 a : Act} (h : Fr ops sel vals a0 a) (hv : ∀ i, sel i = sel' i) : Fr ops sel' vals a0 a := by
  have : sel = sel' := funext hv
  subst this; exact h
def setV (vals : Nat → Value) (i : Nat) (v : Value) : Nat → Value := fun j => if j = i then v else vals j
theorem Fr.put {sel : Nat → Bool} {vals : Nat → Value} {a0 a : Act} {i : Nat} {v : Value} (h : Fr ops sel vals a0 a) (hi : sel i = false) (hd : ∀ j t, sel j = true → dstOf ops j = some t → dstOf ops i ≠ some t) :
    Fr ops (fun j => sel j || j == i) (setV vals i v) a0 (a.put (dstOf ops i) v) := by
  have hne : ∀ j, sel j = true → j ≠ i := fun j hj e => by subst e; rw [hi] at hj; cases hj
  cases hdi : dstOf ops i with
  | none =>
    refine ⟨h.defers, h.size, fun j t hs hj hl => ?_, fun t ht => h.off t (fun j hs => ht j (by simp [hs]))⟩
    simp only [Bool.or_eq_true, beq_iff_eq] at hs
    rcases hs with hs | rfl
    · rw [setV, if_neg (hne j hs)]; exact h.on j t hs hj hl
    · rw [hdi] at hj; cases hj
  | some d =>
    refine ⟨h.defers, by simpa [Act.put] using h.size, fun j t hs hj hl => ?_, fun t ht => ?_⟩
    · simp only [Bool.or_eq_true, beq_iff_eq] at hs
      rcases hs with hs | rfl
      · have : d ≠ t := fun e => hd j t hs hj (by rw [hdi, e])
        rw [setV, if_neg (hne j hs)]
        simp only [Act.put]
        rw [Array.getElem?_setIfInBounds_ne this]
        exact h.on j t hs hj hl
      · rw [hdi] at hj
        cases hj
        rw [setV, if_pos rfl]
        simp only [Act.put]
        rw [Array.getElem?_setIfInBounds_self_of_lt (by rw [h.size]; exact hl)]
    · have h1 : d ≠ t := fun e => ht i (by simp) (by rw [hdi, e])
      simp only [Act.put]
      rw [Array.getElem?_setIfInBounds_ne h1]
      exact h.off t (fun j hs => ht j (by simp [hs]))

theorem Fr.eval {sel sel' : Nat → Bool} {vals : Nat → Value} {a0 a b : Act} {x : Operand} (h : Fr ops sel vals a0 a) (k : Fr ops sel' vals a0 b)
    (hx : ∀ t, x = .tmp t → ∀ j, dstOf ops j = some t → sel j = sel' j) : a.eval x = b.eval x := by
  cases x with
  | tmp t =>
    have e : a.tmps[t]? = b.tmps[t]? := by
      by_cases hh : ∃ i, sel i = true ∧ dstOf ops i = some t
      · obtain ⟨i, hs, hd⟩ := hh
        have hs' : sel' i = true := by rw [← hx t rfl i hd]; exact hs
        by_cases hlt : t < a0.tmps.size
        · rw [h.on i t hs hd hlt, k.on i t hs' hd hlt]
        · rw [Array.getElem?_eq_none (by rw [h.size]; exact Nat.not_lt.1 hlt), Array.getElem?_eq_none (by rw [k.size]; exact Nat.not_lt.1 hlt)]
      · have h1 : ∀ i, sel i = true → dstOf ops i ≠ some t := fun i hs hd => hh ⟨i, hs, hd⟩
        have h2 : ∀ i, sel' i = true → dstOf ops i ≠ some t := fun i hs hd => h1 i (by rw [hx t rfl i hd]; exact hs) hd
        rw [h.off t h1, k.off t h2]
    simp only [Act.eval, Array.getD_eq_getD_getElem?, e]
  | const _ => rfl
  | global _ => rfl
  | func _ => rfl

/-- What is asked of the region, by reckoning. -/
def parB (ops : Array Oper) (ls : List Nat) : Bool :=
  Region.noSelect ops &&
  (List.range ops.size).all (fun i => match ops[i]? with
    | none => false
    | some o => o.after.all (fun e => !Region.binds .any e || decide (e.on < i)) && (ls.contains i || (o.guard.isNone &&
        (List.range ops.size).all (fun j => ls.contains j ||
          ((j == i || dstOf ops j == none || dstOf ops j != dstOf ops i) &&
            (match dstOf ops j with
             | some d => !(o.looksAt ops).contains d || o.after.any (fun e => Region.binds .any e && e.on == j)
             | none => true)))))) &&
  (List.range ops.size).all (fun i => ls.contains i || ls.all fun j => (depOn ops i ops.size).getD j false) &&
  (List.range ops.size).all (fun i => ls.contains i || (List.range ops.size).all fun k => !(depOn ops i ops.size).getD k false || k == i || match ops[k]? with
      | some o => o.after.any fun e => Region.binds .any e && (depOn ops i ops.size).getD e.on false
      | none => false)
/-- The late ones, in their turn. -/
def seqB (ops : Array Oper) : List Nat → Array Bool → Bool
  | [], listed => (Region.ready .any ops listed).isEmpty
  | i :: rest, listed => Region.ready .any ops listed == [i] && seqB ops rest (listed.setIfInBounds i true)

theorem seq_any : ∀ (ls : List Nat) (listed : Array Bool) (a : Act) (w : World), seqB ops ls listed = true → wpList P ops Q (ls.map (opAt ops.toList)) a w → wpAny P .any ops Q ls.length listed a w
  | [], listed, a, w, hB, h => ⟨by simpa [seqB] using hB, by simpa [wpList] using h⟩
  | i :: rest, listed, a, w, hB, h => by
    simp only [seqB, Bool.and_eq_true, beq_iff_eq] at hB
    obtain ⟨hr, hB⟩ := hB
    refine ⟨fun h0 => (by rw [hr] at h0; cases h0), fun j hj => ?_⟩
    have hmem := hj
    rw [hr] at hj
    simp only [List.mem_singleton] at hj
    subst hj
    obtain ⟨_, o, ho, _⟩ := mem_ready.1 hmem
    have ho' : opAt ops.toList j = o := opAt_get (by simpa using ho)
    simp only [List.map_cons, wpList, ho'] at h
    unfold wpOp
    simp only [ho]
    split
    · rename_i hw
      simp only [hw, if_true] at h
      rcases h with h | h
      · exact .inl (Oper.wp_mono (fun a' w' hk => seq_any rest _ a' w' hB hk) h)
      · exact .inr h
    · rename_i hw
      simp only [hw] at h
      exact seq_any rest _ _ w hB h

theorem parB_op {ls : List Nat} (h : parB ops ls = true) {i : Nat} {o : Oper} (ho : ops[i]? = some o) : (∀ e ∈ o.after, Region.binds .any e = true → e.on < i) ∧ (ls.contains i = false → o.guard = none ∧
    ∀ j, ls.contains j = false → j < ops.size → ∀ d, dstOf ops j = some d → (j ≠ i → dstOf ops i ≠ some d) ∧ (d ∈ o.looksAt ops → ∃ e ∈ o.after, Region.binds .any e = true ∧ e.on = j)) := by
  have hi : i < ops.size := (Array.getElem?_eq_some_iff.1 ho).1
  simp only [parB, Bool.and_eq_true, List.all_eq_true, List.mem_range] at h
  have h1 := h.1.1.2 i hi
  rw [ho] at h1
  simp only [Bool.and_eq_true, Array.all_eq_true', Bool.or_eq_true, Bool.not_eq_true', decide_eq_true_eq, List.all_eq_true, List.mem_range] at h1
  obtain ⟨h2, h3⟩ := h1
  refine ⟨fun e he hb => ?_, fun hl => ?_⟩
  · rcases h2 e he with h | h
    · rw [hb] at h; cases h
    · exact h
  · rcases h3 with h3 | h3
    · rw [hl] at h3; cases h3
    refine ⟨Option.isNone_iff_eq_none.1 h3.1, fun j hj hjs d hd => ?_⟩
    rcases h3.2 j hjs with h4 | h4
    · rw [hj] at h4; cases h4
    obtain ⟨h5, h6⟩ := h4
    rw [hd] at h6
    refine ⟨fun hne hdi => ?_, fun hlk => ?_⟩
    · rcases h5 with (h5 | h5) | h5
      · exact hne (by simpa using h5)
      · rw [hd] at h5; simp at h5
      · rw [hd, hdi] at h5; simp at h5
    · simp only [Bool.or_eq_true, Bool.not_eq_true', Array.any_eq_true'] at h6
      rcases h6 with h6 | ⟨e, he, hb⟩
      · rw [List.contains_eq_mem] at h6; simp at h6; exact absurd hlk h6
      · simp only [Bool.and_eq_true, beq_iff_eq] at hb
        exact ⟨e, he, hb.1, hb.2⟩
theorem parB_late {ls : List Nat} (h : parB ops ls = true) {i : Nat} (hi : i < ops.size) (hl : ls.contains i = false) :
    (∀ j ∈ ls, (depOn ops i ops.size).getD j false = true) ∧ ∀ k, k < ops.size → (depOn ops i ops.size).getD k false = true → k ≠ i → ∃ o, ops[k]? = some o ∧ ∃ e ∈ o.after, Region.binds .any e = true ∧ (depOn ops i ops.size).getD e.on false = true := by
  simp only [parB, Bool.and_eq_true, List.all_eq_true, List.mem_range] at h
  have h1 := h.1.2 i hi
  have h2 := h.2 i hi
  rw [hl] at h1 h2
  simp only [Bool.false_or, List.all_eq_true, List.mem_range] at h1 h2
  refine ⟨h1, fun k hk hu hki => ?_⟩
  have h3 := h2 k hk
  rw [hu] at h3
  simp only [Bool.not_true, Bool.false_or, Bool.or_eq_true, beq_iff_eq, hki, false_or] at h3
  cases ho : ops[k]? with
  | none => rw [ho] at h3; cases h3
  | some o =>
    rw [ho] at h3
    simp only [Array.any_eq_true', Bool.and_eq_true] at h3
    obtain ⟨e, he, hb⟩ := h3
    exact ⟨o, rfl, e, he, hb.1, hb.2⟩

/-- What has come up came behind what it waits for. -/
def Down (ops : Array Oper) (listed : Array Bool) : Prop := ∀ k o, ops[k]? = some o → listed.getD k false = true → ∀ e ∈ o.after, Region.binds .any e = true → listed.getD e.on false = true

theorem down_dep {ls : List Nat} (h : parB ops ls = true) {listed : Array Bool} (hD : Down ops listed) {i : Nat} (hi : i < ops.size) (hl : ls.contains i = false) :
    ∀ (n k : Nat), k < n → k < ops.size → (depOn ops i ops.size).getD k false = true → listed.getD k false = true → listed.getD i false = true
  | 0, k, hk, _, _, _ => by omega
  | n + 1, k, hk, hks, hu, hlk => by
    by_cases hki : k = i
    · subst hki; exact hlk
    · obtain ⟨o, ho, e, he, hb, hu2⟩ := (parB_late h hi hl).2 k hks hu hki
      have hlt := (parB_op h ho).1 e he hb
      exact down_dep h hD hi hl n e.on (by omega) (by omega) hu2 (hD k o ho hlk e he hb)

/-- THE PHASE IN WHICH ANYTHING MAY COME UP. -/
theorem par_any {ls : List Nat} {a0 : Act} {w0 : World} {φ : Nat → Value → World → Prop} {F : (Nat → Value) → Act} (hB : parB ops ls = true)
    (hF : ∀ vals, Fr ops (fun i => decide (i < ops.size) && !ls.contains i) vals a0 (F vals))
    (stab : ∀ i v w w', φ i v w → Below w.heap.size w w' → φ i v w')
    (step : ∀ i o, ops[i]? = some o → ls.contains i = false → ∀ vals w, Below w0.heap.size w0 w → (∀ e ∈ o.after, Region.binds .any e = true → φ e.on (vals e.on) w) →
      wpList P ops (Exit.then (fun a' w' => ∃ v, a' = (F vals).put o.dst v ∧ φ i v w' ∧ Below w.heap.size w w') (fun _ _ _ => False)) [o] (F vals) w)
    (fin : ∀ vals w listed, Below w0.heap.size w0 w → (∀ i, i < ops.size → ls.contains i = false → φ i (vals i) w) → (∀ i, i < ops.size → listed.getD i false = !ls.contains i) → listed.size = ops.size → wpAny P .any ops Q ls.length listed (F vals) w) :
    ∀ (fuel : Nat) (listed : Array Bool) (vals : Nat → Value) (a : Act) (w : World), listed.size = ops.size → Down ops listed → (∀ j ∈ ls, listed.getD j false = false) → Below w0.heap.size w0 w →
      Fr ops (fun i => listed.getD i false) vals a0 a → (∀ i, listed.getD i false = true → φ i (vals i) w) → fuel = ((List.range ops.size).filter fun i => !listed.getD i false && !ls.contains i).length →
      wpAny P .any ops Q (fuel + ls.length) listed a w := by
  intro fuel
  induction fuel with
  | zero =>
    intro listed vals a w hsz hD hlate hBw hFr hφ hc
    have hall : ∀ i, i < ops.size → listed.getD i false = !ls.contains i := by
      intro i hi
      have hn : i ∉ (List.range ops.size).filter fun i => !listed.getD i false && !ls.contains i := by
        rw [List.length_eq_zero_iff.1 hc.symm]; simp
      rw [List.mem_filter] at hn
      cases hl : ls.contains i
      · cases hli : listed.getD i false
        · exact absurd ⟨List.mem_range.2 hi, by rw [hli, hl]; rfl⟩ hn
        · rfl
      · rw [hlate i (by simpa using hl)]; rfl
    have ha : a = F vals := by
      refine (hFr.sel fun i => ?_).uniq (hF vals)
      by_cases hi : i < ops.size
      · rw [hall i hi]; simp [hi]
      · rw [decide_eq_false hi, Bool.false_and]
        simp [Array.getElem?_eq_none (show listed.size ≤ i by omega)]
    rw [Nat.zero_add, ha]
    exact fin vals w listed hBw (fun i hi hl => hφ i (by rw [hall i hi, hl]; rfl)) hall hsz
  | succ fuel ih =>
    intro listed vals a w hsz hD hlate hBw hFr hφ hc
    -- one that has not come up
    obtain ⟨u, hu⟩ : ∃ u, u ∈ (List.range ops.size).filter fun i => !listed.getD i false && !ls.contains i := by
      cases hl : (List.range ops.size).filter fun i => !listed.getD i false && !ls.contains i with
      | nil => rw [hl] at hc; simp at hc
      | cons x xs => exact ⟨x, by simp⟩
    have hsome : ∃ u, u < ops.size ∧ listed.getD u false = false ∧ ls.contains u = false := by
      rw [List.mem_filter, List.mem_range] at hu
      refine ⟨u, hu.1, ?_⟩
      simpa using hu.2
    have key : ∀ i o, ops[i]? = some o → i ∈ Region.ready .any ops listed → ls.contains i = false := by
      intro i o ho hr
      cases hl : ls.contains i
      · rfl
      · exfalso
        obtain ⟨_, o', ho', hall⟩ := mem_ready.1 hr
        obtain ⟨v, hv, hvl, hvn⟩ := hsome
        have hi : i < ops.size := (Array.getElem?_eq_some_iff.1 ho).1
        have hdep := (parB_late hB hv hvn).1 i (by simpa using hl)
        have hiv : i ≠ v := fun e => by subst e; rw [hvn] at hl; cases hl
        obtain ⟨o2, ho2, e, he, hb, hu2⟩ := (parB_late hB hv hvn).2 i hi hdep hiv
        have e2 : o2 = o' := Option.some.inj (ho2.symm.trans ho')
        subst e2
        have hlt := (parB_op hB ho2).1 e he hb
        have := down_dep hB hD hv hvn (e.on + 1) e.on (by omega) (by omega) hu2 (hall e he hb)
        rw [hvl] at this; cases this
    have hready : ∃ i, i ∈ Region.ready .any ops listed := by
      -- the least that has not come up
      have ex : ∃ n, ∃ u, u < n ∧ u < ops.size ∧ listed.getD u false = false ∧ ls.contains u = false := by
        obtain ⟨u, h1, h2, h3⟩ := hsome; exact ⟨u + 1, u, by omega, h1, h2, h3⟩
      obtain ⟨n, hn⟩ := ex
      induction n with
      | zero => obtain ⟨u, h, _⟩ := hn; omega
      | succ n ihn =>
        by_cases hp : ∃ u, u < n ∧ u < ops.size ∧ listed.getD u false = false ∧ ls.contains u = false
        · exact ihn hp
        · obtain ⟨u, h1, h2, h3, h4⟩ := hn
          have ho : ops[u]? = some ops[u] := Array.getElem?_eq_getElem h2
          refine ⟨u, mem_ready.2 ⟨?_, _, ho, fun e he hb => ?_⟩⟩
          · have hlt : u < listed.size := by omega
            simpa [hlt] using h3
          · have hlt := (parB_op hB ho).1 e he hb
            cases hle : listed.getD e.on false
            · exfalso
              cases hll : ls.contains e.on
              · exact hp ⟨e.on, by omega, by omega, hle, hll⟩
              · have hdep := (parB_late hB h2 h4).1 e.on (by simpa using hll)
                have ge : ∀ (m k : Nat), k < m → k < ops.size → (depOn ops u ops.size).getD k false = true → u ≤ k := by
                  intro m
                  induction m with
                  | zero => intro k hk; omega
                  | succ m ihm =>
                    intro k hk hks hku
                    by_cases hku' : k = u
                    · omega
                    · obtain ⟨o3, ho3, e3, he3, hb3, hu3⟩ := (parB_late hB h2 h4).2 k hks hku hku'
                      have := (parB_op hB ho3).1 e3 he3 hb3
                      have := ihm e3.on (by omega) (by omega) hu3
                      omega
                have := ge (e.on + 1) e.on (by omega) (by omega) hdep
                omega
            · rfl
    rw [show fuel + 1 + ls.length = (fuel + ls.length) + 1 by omega]
    refine ⟨fun h0 => ?_, fun i hi => ?_⟩
    · obtain ⟨i, hi⟩ := hready
      rw [h0] at hi; cases hi
    · obtain ⟨hun, o, ho, hdeps⟩ := mem_ready.1 hi
      have hil := key i o ho hi
      have hin : i < ops.size := (Array.getElem?_eq_some_iff.1 ho).1
      obtain ⟨_, hop⟩ := parB_op hB ho
      obtain ⟨hg, hdst⟩ := hop hil
      have hli : listed.getD i false = false := by
        have hlt : i < listed.size := by omega
        simpa [hlt] using hun
      have hnosel : ∀ cs b, o.op ≠ .select cs b := fun cs b => Region.noSelect_spec (by simp only [parB, Bool.and_eq_true] at hB; exact hB.1.1.1) i o cs b ho
      have hdo : dstOf ops i = o.dst := by simp [dstOf, ho]
      have hst := step i o ho hil vals w hBw (fun e he hb => hφ e.on (hdeps e he hb))
      have heq : execOp a.eval o = execOp (F vals).eval o := by
        refine execOp_congr o hnosel fun x hx => hFr.eval (hF vals) fun t hxt j hj => ?_
        subst hxt
        by_cases hjs : j < ops.size
        · cases hjl : ls.contains j
          · have hlk : t ∈ o.looksAt ops := List.mem_append_left _ (List.mem_filterMap.2 ⟨.tmp t, by simpa using hx, rfl⟩)
            obtain ⟨e, he, hb, hej⟩ := (hdst j hjl hjs t hj).2 hlk
            have := hdeps e he hb
            rw [hej] at this
            rw [this]; simp [hjs]
          · rw [hlate j (by simpa using hjl)]; simp
        · rw [decide_eq_false hjs, Bool.false_and]
          simp [Array.getElem?_eq_none (show listed.size ≤ j by omega)]
      have fino : ∀ (v v' : Value) (w' : World), (F vals).put o.dst v = (F vals).put o.dst v' → φ i v' w' → Below w.heap.size w w' → wpAny P .any ops Q (fuel + ls.length) (listed.setIfInBounds i true) (a.put o.dst v) w' := by
        intro v v' w' hput hv hb
        have hsa : a.tmps.size = (F vals).tmps.size := hFr.size.trans (hF vals).size.symm
        have hav : a.put o.dst v = a.put o.dst v' := by
          cases hd : o.dst with
          | none => rfl
          | some d =>
            rw [hd] at hput
            simp only [Act.put, Act.mk.injEq, and_true] at hput ⊢
            by_cases hlt : d < a.tmps.size
            · have h1 : ((F vals).tmps.setIfInBounds d v)[d]? = ((F vals).tmps.setIfInBounds d v')[d]? := by rw [hput]
              rw [Array.getElem?_setIfInBounds_self_of_lt (by rw [← hsa]; exact hlt), Array.getElem?_setIfInBounds_self_of_lt (by rw [← hsa]; exact hlt)] at h1
              rw [Option.some.inj h1]
            · rw [Array.setIfInBounds_eq_of_size_le (Nat.not_lt.1 hlt), Array.setIfInBounds_eq_of_size_le (Nat.not_lt.1 hlt)]
        rw [hav]
        have hset : ∀ j, (listed.setIfInBounds i true).getD j false = (listed.getD j false || j == i) := by
          intro j
          by_cases hji : i = j
          · subst hji
            have hlt : i < listed.size := by omega
            simp [hlt]
          · rw [getD_set_ne false hji]
            have : (j == i) = false := by simp; omega
            rw [this, Bool.or_false]
        refine ih (listed.setIfInBounds i true) (setV vals i v') (a.put o.dst v') w' (by simpa using hsz) ?_ ?_ (hBw.trans (hb.mono hBw.size)) ?_ ?_ ?_
        · intro k o2 ho2 hk e he hbn
          rw [hset] at hk ⊢
          simp only [Bool.or_eq_true, beq_iff_eq] at hk
          rcases hk with hk | rfl
          · rw [hD k o2 ho2 hk e he hbn]; rfl
          · have e2 : o2 = o := Option.some.inj (ho2.symm.trans ho)
            subst e2
            rw [hdeps e he hbn]; rfl
        · intro j hj
          rw [hset, hlate j hj]
          have : j ≠ i := fun e => by subst e; rw [show ls.contains j = true by simpa using hj] at hil; cases hil
          simpa using this
        · rw [← hdo]
          refine (hFr.put (i := i) (v := v') hli fun j t hs hj hdi => ?_).sel fun j => (hset j).symm
          have hjs : j < ops.size := by
            rcases Nat.lt_or_ge j ops.size with h | h
            · exact h
            · simp [Array.getElem?_eq_none (show listed.size ≤ j by omega)] at hs
          have hjl : ls.contains j = false := by
            cases h : ls.contains j
            · rfl
            · rw [hlate j (by simpa using h)] at hs; cases hs
          have hji : j ≠ i := fun e => by subst e; rw [hli] at hs; cases hs
          exact (hdst j hjl hjs t hj).1 hji hdi
        · intro j hj
          rw [hset] at hj
          simp only [Bool.or_eq_true, beq_iff_eq] at hj
          unfold setV
          split
          · rename_i e; subst e; exact hv
          · rename_i hne
            rcases hj with hj | hj
            · exact stab j _ w w' (hφ j hj) hb
            · exact absurd hj hne
        · have hfil : ((List.range ops.size).filter fun j => !(listed.setIfInBounds i true).getD j false && !ls.contains j).length + 1 = ((List.range ops.size).filter fun j => !listed.getD j false && !ls.contains j).length := by
            have gen : ∀ (l : List Nat) (p : Nat → Bool), l.Nodup → i ∈ l → p i = true → (l.filter fun j => p j && j != i).length + 1 = (l.filter p).length := by
              intro l p
              induction l with
              | nil => intro _ h; cases h
              | cons x xs ihl =>
                intro hnd hm hp
                rw [List.nodup_cons] at hnd
                by_cases hxi : x = i
                · subst hxi
                  have : (xs.filter fun j => p j && j != x) = xs.filter p := List.filter_congr fun y hy => by
                    have : y ≠ x := fun e => hnd.1 (e ▸ hy)
                    have : (y != x) = true := by simpa using this
                    rw [this, Bool.and_true]
                  simp [hp, this]
                · have hm' : i ∈ xs := by rcases List.mem_cons.1 hm with h | h; exact absurd h.symm hxi; exact h
                  have h1 := ihl hnd.2 hm' hp
                  have hx' : (x != i) = true := by simpa using hxi
                  simp only [List.filter_cons, hx', Bool.and_true]
                  split
                  · simp only [List.length_cons]; omega
                  · exact h1
            have hcg : ((List.range ops.size).filter fun j => !(listed.setIfInBounds i true).getD j false && !ls.contains j) = (List.range ops.size).filter fun j => (!listed.getD j false && !ls.contains j) && j != i := by
              refine List.filter_congr fun j _ => ?_
              rw [hset]
              cases listed.getD j false <;> cases hji : (j == i) <;> simp_all
            rw [hcg]
            exact gen _ (fun j => !listed.getD j false && !ls.contains j) List.nodup_range (List.mem_range.2 hin) (by rw [hli, hil]; rfl)
          omega
      unfold wpOp
      simp only [ho]
      have hw1 : ∀ b : Act, Region.wanted o (yielded ops b.tmps) = true := fun b => by simp [Region.wanted, hg]
      rw [if_pos (hw1 a)]
      simp only [wpList, hw1 (F vals), if_true] at hst
      rcases hst with hst | ⟨_, h⟩
      · refine .inl ?_
        unfold Oper.wp at *
        rw [heq]
        generalize (execOp (F vals).eval o).run P w = r at *
        cases r with
        | ok nx w' =>
          cases nx <;> simp only [Oper.upon] at hst ⊢
          case value v => obtain ⟨v', h1, h2, h3⟩ := hst; exact fino v v' w' h1 h2 h3
          case skip => obtain ⟨v', h1, h2, h3⟩ := hst; exact fino _ v' w' h1 h2 h3
          case defer d =>
            obtain ⟨v', h1, _⟩ := hst
            exfalso
            have h2 := congrArg (fun x => x.defers.length) h1
            have hpd : ∀ (b : Act) (t : Option Tmp) (x : Value), (b.put t x).defers = b.defers := fun b t x => by cases t <;> rfl
            simp [hpd] at h2
          case enter f args =>
            refine Calls.mono hst fun e w'' he => ?_
            cases e with
            | returned v => obtain ⟨v', h1, h2, h3⟩ := he; exact fino v v' w'' h1 h2 h3
            | panicked c => exact he.elim
            | outgrown => obtain ⟨_, _, h⟩ := he; exact h.elim
          case row row args => exact Rows.mono hst fun v w'' he => by obtain ⟨v', h1, h2, h3⟩ := he; exact fino v v' w'' h1 h2 h3
        | halt x w' =>
          cases x <;> simp only [Oper.upon] at hst ⊢
          all_goals exact hst.elim
      · obtain ⟨_, _, h⟩ := h; exact h.elim

/-- THE LAW, of any way to write the frame. ls: the late operations, in their turn; F: the frame, with a letter for each temporary of the others. -/
theorem wp_region_par0 (ls : List Nat) (φ : Nat → Value → World → Prop) (F : (Nat → Value) → Act) {id : Nat} {a0 : Act} {w0 : World} {l : List Oper} (hm : P.follows .mixedOrders = true)
    (hB : (parB l.toArray ls && decide (((List.range l.toArray.size).filter fun i => !ls.contains i).length + ls.length = l.toArray.size) &&
      seqB l.toArray ls ((List.range l.toArray.size).map fun i => !ls.contains i).toArray) = true)
    (hF : ∀ vals, Fr l.toArray (fun i => decide (i < l.toArray.size) && !ls.contains i) vals a0 (F vals))
    (stab : ∀ i v w w', φ i v w → Below w.heap.size w w' → φ i v w')
    (step : ∀ i o, l.toArray[i]? = some o → ls.contains i = false → ∀ vals w, Below w0.heap.size w0 w → (∀ e ∈ o.after, Region.binds .any e = true → φ e.on (vals e.on) w) →
      wpList P l.toArray (Exit.then (fun a' w' => ∃ v, a' = (F vals).put o.dst v ∧ φ i v w' ∧ Below w.heap.size w w') (fun _ _ _ => False)) [o] (F vals) w)
    (fin : ∀ vals w, Below w0.heap.size w0 w → (∀ i, i < l.toArray.size → ls.contains i = false → φ i (vals i) w) → wpList P l.toArray Q (ls.map (opAt l)) (F vals) w) :
    (Code.region id l.toArray true).wp P Q a0 w0 := by
  simp only [Bool.and_eq_true, decide_eq_true_eq] at hB
  obtain ⟨⟨h1, h2⟩, h3⟩ := hB
  refine wp_region_any hm ?_
  have h0 : ∀ i, (Array.replicate l.toArray.size false).getD i false = false := fun i => by
    rw [Array.getD_eq_getD_getElem?, Array.getElem?_replicate]
    split <;> rfl
  have hc : ((List.range l.toArray.size).filter fun i => !ls.contains i) = (List.range l.toArray.size).filter fun i => !(Array.replicate l.toArray.size false).getD i false && !ls.contains i :=
    List.filter_congr fun i _ => by rw [h0]; rfl
  have := par_any (P := P) (Q := Q) (ls := ls) (a0 := a0) (w0 := w0) (φ := φ) (F := F) h1 hF stab step (fun vals w listed hb hv hall hsz => seq_any ls listed (F vals) w (by
      have e : listed = ((List.range l.toArray.size).map fun i => !ls.contains i).toArray := by
        refine Array.ext (by simp [hsz]) fun i hi1 hi2 => ?_
        have hi : i < l.toArray.size := by omega
        have h4 := hall i hi
        have hlt : i < listed.size := hi1
        simp only [Array.getD_eq_getD_getElem?, Array.getElem?_eq_getElem hlt, Option.getD_some] at h4
        rw [h4]
        simp
      rw [e]; exact h3) (fin vals w hb hv)) _ (Array.replicate l.toArray.size false) (fun _ => undef) a0 { w0 with drawn := w0.drawn + 1 } (by simp) (fun k o _ hk => by rw [h0] at hk; cases hk) (fun j _ => h0 j) (Below.refl _ _).drew
    ⟨rfl, rfl, fun i t hs => (by rw [h0] at hs; cases hs), fun t _ => rfl⟩ (fun i hi => by rw [h0] at hi; cases hi) rfl
  rw [← hc, h2] at this
  exact this

/-- The frame, with the letters laid in. -/
def laidF (a0 : Act) (vals : Nat → Value) (ds : List (Tmp × Nat)) : Act := ds.foldl (fun a x => a.put (some x.1) (vals x.2)) a0
def dsB (ops : Array Oper) (ls : List Nat) (ds : List (Tmp × Nat)) : Bool :=
  (((List.range ops.size).filter fun i => !ls.contains i) == ds.map (·.2)) && ds.all fun x => dstOf ops x.2 == some x.1

theorem laid_fr {vals : Nat → Value} {a0 : Act} : ∀ (ds : List (Tmp × Nat)) (sel : Nat → Bool) (a : Act), Fr ops sel vals a0 a → (∀ x ∈ ds, sel x.2 = false) → (ds.map (·.2)).Nodup → (∀ x ∈ ds, dstOf ops x.2 = some x.1) →
    (∀ x ∈ ds, ∀ j t, (sel j = true ∨ (j ∈ ds.map (·.2) ∧ j ≠ x.2)) → dstOf ops j = some t → dstOf ops x.2 ≠ some t) → Fr ops (fun i => sel i || (ds.map (·.2)).contains i) vals a0 (laidF a vals ds)
  | [], sel, a, h, _, _, _, _ => h.sel fun i => by simp
  | x :: ds, sel, a, h, h1, h2, h3, h4 => by
    rw [List.map_cons, List.nodup_cons] at h2
    have hx := h3 x (by simp)
    have hp := h.put (i := x.2) (v := vals x.2) (h1 x (by simp)) (fun j t hs hj => h4 x (by simp) j t (.inl hs) hj)
    rw [hx] at hp
    have hp' := hp.vals (vals' := vals) (fun i _ => by unfold setV; split; rename_i e; rw [e]; rfl)
    have := laid_fr ds (fun j => sel j || j == x.2) _ hp' (fun y hy => by
        have e1 := h1 y (by simp [hy])
        have e2 : y.2 ≠ x.2 := fun e => h2.1 (List.mem_map.2 ⟨y, hy, e⟩)
        rw [e1]; simpa using e2) h2.2 (fun y hy => h3 y (by simp [hy])) (fun y hy j t hj hd => by
        refine h4 y (by simp [hy]) j t ?_ hd
        rcases hj with hj | ⟨hj, hne⟩
        · simp only [Bool.or_eq_true, beq_iff_eq] at hj
          rcases hj with hj | rfl
          · exact .inl hj
          · exact .inr ⟨by simp, fun e => h2.1 (List.mem_map.2 ⟨y, hy, e.symm⟩)⟩
        · exact .inr ⟨by simp only [List.map_cons, List.mem_cons]; exact .inr hj, hne⟩)
    exact this.sel fun i => by simp only [List.map_cons, List.contains_cons]; cases sel i <;> simp

/-- Each operation once, in a list's turn. -/
def EachOp (ls : List Nat) (G : Nat → Oper → Prop) : List Oper → Nat → Prop
  | [], _ => True
  | o :: l, k => (ls.contains k = false → G k o) ∧ EachOp ls G l (k + 1)
theorem each_get {ls : List Nat} {G : Nat → Oper → Prop} : ∀ {l : List Oper} {k i : Nat} {o : Oper}, EachOp ls G l k → l[i]? = some o → ls.contains (k + i) = false → G (k + i) o
  | [], _, i, _, _, h, _ => by simp at h
  | x :: l, k, 0, o, h, ho, hl => by simp at ho; subst ho; exact h.1 hl
  | x :: l, k, i + 1, o, h, ho, hl => by
    have := each_get (l := l) (k := k + 1) (i := i) h.2 (by simpa using ho) (by rw [show k + 1 + i = k + (i + 1) by omega]; exact hl)
    rw [show k + 1 + i = k + (i + 1) by omega] at this
    exact this

/-- What is to be shown behind an operation: its value, in its temporary, is as φ says; the world has grown. -/
def ParPost (F : Act) (d : Option Tmp) (φ : Value → World → Prop) (w : World) (a' : Act) (w' : World) : Prop := ∃ v, a' = F.put d v ∧ φ v w' ∧ Below w.heap.size w w'

/-- THE LAW. ds: the temporaries of the operations that are not late, each with its number. -/
theorem wp_region_par (ls : List Nat) (ds : List (Tmp × Nat)) (φ : Nat → Value → World → Prop) {id : Nat} {a0 : Act} {w0 : World} {l : List Oper} (hm : P.follows .mixedOrders = true)
    (hB : (parB l.toArray ls && decide (((List.range l.toArray.size).filter fun i => !ls.contains i).length + ls.length = l.toArray.size) &&
      seqB l.toArray ls ((List.range l.toArray.size).map fun i => !ls.contains i).toArray && dsB l.toArray ls ds) = true)
    (stab : ∀ i v w w', φ i v w → Below w.heap.size w w' → φ i v w')
    (step : ∀ vals w, Below w0.heap.size w0 w → EachOp ls (fun i o => (∀ e ∈ o.after, Region.binds .any e = true → φ e.on (vals e.on) w) →
      wpList P l.toArray (Exit.then (ParPost (laidF a0 vals ds) o.dst (φ i) w) (fun _ _ _ => False)) [o] (laidF a0 vals ds) w) l 0)
    (fin : ∀ vals w, Below w0.heap.size w0 w → (∀ i, i < l.toArray.size → ls.contains i = false → φ i (vals i) w) → wpList P l.toArray Q (ls.map (opAt l)) (laidF a0 vals ds) w) :
    (Code.region id l.toArray true).wp P Q a0 w0 := by
  simp only [Bool.and_eq_true] at hB
  obtain ⟨⟨⟨h1, h2⟩, h3⟩, h4⟩ := hB
  simp only [dsB, Bool.and_eq_true, beq_iff_eq, List.all_eq_true] at h4
  refine wp_region_par0 ls φ (fun vals => laidF a0 vals ds) hm (by simp only [Bool.and_eq_true]; exact ⟨⟨h1, h2⟩, h3⟩) (fun vals => ?_) stab (fun i o ho hl vals w hb hd => ?_) fin
  · have hmem : ∀ j, j ∈ ds.map (·.2) ↔ j < l.toArray.size ∧ ls.contains j = false := fun j => by
      rw [← h4.1, List.mem_filter, List.mem_range]; simp
    have := laid_fr (ops := l.toArray) (vals := vals) (a0 := a0) ds (fun _ => false) a0 ⟨rfl, rfl, fun i t hs => (by cases hs), fun t _ => rfl⟩ (fun _ _ => rfl) (by rw [← h4.1]; exact List.nodup_range.filter _) h4.2 (fun x hx j t hj hd => by
      rcases hj with hj | ⟨hj, hne⟩
      · cases hj
      · obtain ⟨hxs, hxl⟩ := (hmem x.2).1 (List.mem_map.2 ⟨x, hx, rfl⟩)
        obtain ⟨hjs, hjl⟩ := (hmem j).1 hj
        have ho : l.toArray[x.2]? = some l.toArray[x.2] := Array.getElem?_eq_getElem hxs
        exact (((parB_op h1 ho).2 hxl).2 j hjl hjs t hd).1 hne)
    refine this.sel fun i => ?_
    rw [Bool.false_or, Bool.eq_iff_iff]
    simp only [List.contains_iff_mem, hmem, Bool.and_eq_true, decide_eq_true_eq, Bool.not_eq_true']
  · have := each_get (step vals w hb) (i := i) (o := o) (by simpa using ho) (by simpa using hl)
    rw [Nat.zero_add] at this
    exact this hd
end
end Go.Proofs.Ytgffeihfcmbobaa

/- The law of 'Par', where each operation gives a value that is known ahead, or a new block: what it asks, in one word. -/
namespace Go.Proofs.Ytgffeihfcmbobaa
open Go.RowKit

/-- Operation i gives the i-th value; where none is named, a pointer to a block of its own, of which R holds. -/
def phiV (base : Nat) (R : World → Nat → Prop) (vs : List (Option Value)) (i : Nat) (v : Value) (w : World) : Prop :=
  match vs[i]? with
  | some (some u) => v = u
  | some none => ∃ b, v = .pointer (some ⟨b, 0, none⟩) ∧ base ≤ b ∧ R w b
  | none => True
theorem phiV_stab (base : Nat) (R : World → Nat → Prop) (vs : List (Option Value)) (hR : ∀ w w' b, R w b → Below w.heap.size w w' → R w' b) (i : Nat) (v : Value) (w w' : World) : phiV base R vs i v w → Below w.heap.size w w' → phiV base R vs i v w' := by
  unfold phiV
  intro h hb
  split at h
  · exact h
  · obtain ⟨b, h1, h2, h3⟩ := h
    exact ⟨b, h1, h2, hR _ _ _ h3 hb⟩
  · trivial

section
variable {P : Program} {ops : Array Oper} {Q : Exit → Act → World → Prop}
theorem upon_none {o : Oper} {a : Act} {K K' : Act → World → Prop} {w : World} (hK : ∀ a w, K a w → K' a w) (h : o.wp P a w K (Exit.then K (fun _ _ _ => False))) : o.wp P a w K' Q := by
  unfold Oper.wp at *
  generalize (execOp a.eval o).run P w = r at *
  cases r with
  | ok n w' =>
    cases n <;> simp only [Oper.upon] at h ⊢ <;>
      first
        | exact hK _ _ h
        | exact Calls.mono h (fun e w'' he => by cases e <;> first | exact hK _ _ he | exact he.elim | (obtain ⟨_, _, h⟩ := he; exact h.elim))
        | exact Rows.mono h (fun _ _ he => hK _ _ he)
  | halt x w' => cases x <;> simp only [Oper.upon] at h ⊢ <;> exact h.elim
/-- One operation, and what is known behind it: the walk stops there. -/
theorem wpList_stop {o : Oper} {a : Act} {w : World} (K : Act → World → Prop) (h : wpList P ops (Exit.then K (fun _ _ _ => False)) [o] a w) (hK : ∀ a' w', K a' w' → Q .normal a' w') : wpList P ops Q [o] a w := by
  simp only [wpList] at h ⊢
  split
  · rename_i hw
    simp only [hw, if_true] at h
    rcases h with h | ⟨_, h2⟩
    · exact .inl (upon_none (fun a' w' hk => hK a' w' hk) h)
    · obtain ⟨_, _, h⟩ := h2
      exact h.elim
  · rename_i hw
    simp only [hw] at h
    exact hK _ _ h
theorem wpList_store (W : World) {o : Oper} {a : Act} {w : World} (h : wpList P ops (Exit.then (fun a' w' => a' = a ∧ w' = W) (fun _ _ _ => False)) [o] a w) (hK : Q .normal a W) : wpList P ops Q [o] a w :=
  wpList_stop _ h fun a' w' h => by rw [h.1, h.2]; exact hK
end
end Go.Proofs.Ytgffeihfcmbobaa

/- Laws of no program: slices that read as lists (of ints, of structs, of slices), what they go on reading as while other blocks turn, and what an append makes of them. -/
namespace Go.Proofs.Ytgffeihfcmbobaa
open Go.RowKit

/-- The blocks of A that were there are as they were. -/
def Agree (A : Nat → Prop) (w w' : World) : Prop := ∀ b, A b → b < w.heap.size → w'.heap[b]? = w.heap[b]?

theorem Below.agree {A : Nat → Prop} {w w' : World} (h : Below w.heap.size w w') : Agree A w w' := fun b _ hb => h.block b hb
theorem Below.agreeAt {A : Nat → Prop} {B : Nat} {w w' : World} (h : Below B w w') (hA : ∀ b, A b → b < B) : Agree A w w' := fun b ha _ => h.block b (hA b ha)
theorem grownBy_agree {A : Nat → Prop} {w w' : World} {row : Option Nat} (h : w.grownBy w' row) (hA : ∀ b, A b → some b ≠ row) : Agree A w w' := fun b ha hb => h.block b hb (hA b ha)
theorem Agree.mono {A B : Nat → Prop} {w w' : World} (h : Agree A w w') (hAB : ∀ b, B b → A b) : Agree B w w' := fun b hb hl => h b (hAB b hb) hl

theorem cell_agree {A : Nat → Prop} {w w' : World} {b o : Nat} {v : Value} (h : w.cell? ⟨b, o, none⟩ = some v) (hA : A b) (hw : Agree A w w') : w'.cell? ⟨b, o, none⟩ = some v :=
  (World.cell?_of_block (w := w) (a := ⟨b, o, none⟩) (hw b hA (cell_lt h))).trans h
theorem cell_keep {w w' : World} {b o : Nat} {v : Value} (h : w.cell? ⟨b, o, none⟩ = some v) (hb : Below w.heap.size w w') : w'.cell? ⟨b, o, none⟩ = some v :=
  (hb.cell (p := ⟨b, o, none⟩) (cell_lt h)).trans h

/-- How x lies in cells, in blocks of A alone (where the cells point into memory). -/
structure Elem (α : Type) where
  size : Nat
  pos : 0 < size
  cs : (Nat → Prop) → World → α → List Value → Prop
  len : ∀ {A w x c}, cs A w x c → c.length = size
  one : ∀ {A w x c}, cs A w x c → ∀ u ∈ c, u.oneCell' = true
  keep : ∀ {A} {w w' : World} {x c}, cs A w x c → Agree A w w' → cs A w' x c
  mono : ∀ {A B : Nat → Prop} {w x c}, (∀ b, A b → B b) → cs A w x c → cs B w x c
  lt : ∀ {A} {w : World} {x c}, cs A w x c → cs (fun b => A b ∧ b < w.heap.size) w x c

/-- A slice that reads as a list, in blocks of A. -/
def SlA {α : Type} (A : Nat → Prop) (R : Elem α) (w : World) (v : Value) (xs : List α) : Prop :=
  ∃ p cap, v = .slice p xs.length cap ∧ ((p = none → cap = 0) ∧ xs.length ≤ cap) ∧ (xs ≠ [] → ∃ b o, p = some ⟨b, o, none⟩ ∧ A b ∧ ∀ i (h : i < xs.length), ∃ c, R.cs A w xs[i] c ∧ ∀ j u, c[j]? = some u → w.cell? ⟨b, o + i * R.size + j, none⟩ = some u)
def Sl {α : Type} (R : Elem α) (w : World) (v : Value) (xs : List α) : Prop := SlA (fun _ => True) R w v xs

section
variable {α : Type} {R : Elem α} {A B : Nat → Prop} {w w' : World} {v : Value} {xs ys : List α}

theorem SlA.agree (h : SlA A R w v xs) (hw : Agree A w w') : SlA A R w' v xs := by
  obtain ⟨p, cap, rfl, h0, h⟩ := h
  refine ⟨p, cap, rfl, h0, fun hne => ?_⟩
  obtain ⟨b, o, rfl, hA, h2⟩ := h hne
  refine ⟨b, o, rfl, hA, fun i hi => ?_⟩
  obtain ⟨c, h3, h4⟩ := h2 i hi
  exact ⟨c, R.keep h3 hw, fun j u hu => cell_agree (h4 j u hu) hA hw⟩
theorem SlA.keep (h : SlA A R w v xs) (hb : Below w.heap.size w w') : SlA A R w' v xs := h.agree (Below.agree hb)
theorem SlA.mono (hAB : ∀ b, A b → B b) (h : SlA A R w v xs) : SlA B R w v xs := by
  obtain ⟨p, cap, rfl, h0, h⟩ := h
  refine ⟨p, cap, rfl, h0, fun hne => ?_⟩
  obtain ⟨b, o, rfl, hA, h2⟩ := h hne
  refine ⟨b, o, rfl, hAB _ hA, fun i hi => ?_⟩
  obtain ⟨c, h3, h4⟩ := h2 i hi
  exact ⟨c, R.mono hAB h3, h4⟩
theorem SlA.any (h : SlA A R w v xs) : Sl R w v xs := SlA.mono (fun _ _ => trivial) h
theorem SlA.lt (h : SlA A R w v xs) : SlA (fun b => A b ∧ b < w.heap.size) R w v xs := by
  obtain ⟨p, cap, rfl, h0, h⟩ := h
  refine ⟨p, cap, rfl, h0, fun hne => ?_⟩
  obtain ⟨b, o, rfl, hA, h2⟩ := h hne
  have hb : b < w.heap.size := by
    obtain ⟨c, h3, h4⟩ := h2 0 (List.length_pos_iff.2 hne)
    have hl := R.len h3
    have hp := R.pos
    exact cell_lt (h4 0 c[0] (List.getElem?_eq_getElem (by omega)))
  refine ⟨b, o, rfl, ⟨hA, hb⟩, fun i hi => ?_⟩
  obtain ⟨c, h3, h4⟩ := h2 i hi
  exact ⟨c, R.lt h3, h4⟩
theorem SlA.len (h : SlA A R w v xs) : ∃ p cap, v = .slice p xs.length cap := by
  obtain ⟨p, cap, rfl, _⟩ := h; exact ⟨p, cap, rfl⟩
theorem SlA.cap {p : Option Addr} {n c : Nat} (h : SlA A R w (.slice p n c) xs) : xs.length ≤ c := by
  obtain ⟨p', c', he, h0, _⟩ := h
  simp only [Value.slice.injEq] at he
  obtain ⟨_, _, rfl⟩ := he
  exact h0.2
theorem SlA.nil : SlA A R w (.slice none 0 0) [] := ⟨none, 0, rfl, ⟨fun _ => rfl, Nat.le_refl _⟩, fun h => absurd rfl h⟩
theorem SlA.at {p : Option Addr} {n c : Nat} (h : SlA A R w (.slice p n c) xs) : n = xs.length ∧ ∀ k (hk : k < xs.length), ∃ b o, p = some ⟨b, o, none⟩ ∧ A b ∧ ∃ cs, R.cs A w xs[k] cs ∧ ∀ j u, cs[j]? = some u → w.cell? ⟨b, o + k * R.size + j, none⟩ = some u := by
  obtain ⟨p', c', he, _, h⟩ := h
  simp only [Value.slice.injEq] at he
  obtain ⟨rfl, rfl, rfl⟩ := he
  refine ⟨rfl, fun k hk => ?_⟩
  obtain ⟨b, o, rfl, hA, h2⟩ := h (fun e => by subst e; simp at hk)
  exact ⟨b, o, rfl, hA, h2 k hk⟩
theorem Sl.keep (h : Sl R w v xs) (hb : Below w.heap.size w w') : Sl R w' v xs := SlA.keep h hb
theorem Sl.len (h : Sl R w v xs) : ∃ p cap, v = .slice p xs.length cap := SlA.len h
/-- What was there stays in blocks that were there. -/
theorem Sl.old (h : Sl R w v xs) : SlA (fun b => b < w.heap.size) R w v xs := SlA.mono (fun _ h => h.2) (SlA.lt h)
/-- A part of a slice. -/
theorem SlA.part {p : Option Addr} {n c : Nat} (h : SlA A R w (.slice p n c) xs) {i k c' : Nat} (hik : i + k ≤ xs.length) (hk : 0 < k) (hc : k ≤ c') :
    ∃ b o, p = some ⟨b, o, none⟩ ∧ SlA A R w (.slice (some ⟨b, o + i * R.size, none⟩) k c') ((xs.drop i).take k) := by
  obtain ⟨hn, h⟩ := h.at
  obtain ⟨b, o, rfl, hA, _⟩ := h i (by omega)
  refine ⟨b, o, rfl, _, c', by rw [List.length_take, List.length_drop, Nat.min_eq_left (by omega)], ⟨(fun e => by cases e), by rw [List.length_take, List.length_drop]; omega⟩, fun _ => ⟨b, _, rfl, hA, fun j hj => ?_⟩⟩
  rw [List.length_take, List.length_drop] at hj
  obtain ⟨b', o', he, _, cs, h3, h4⟩ := h (i + j) (by omega)
  simp only [Option.some.injEq, Addr.mk.injEq, and_true] at he
  obtain ⟨rfl, rfl⟩ := he
  refine ⟨cs, by simpa [List.getElem_take, List.getElem_drop] using h3, fun m u hu => ?_⟩
  have := h4 m u hu
  rw [Nat.add_mul] at this
  rw [show o + i * R.size + j * R.size + m = o + (i * R.size + j * R.size) + m by omega]
  exact this
end

/-- What is left of a list behind k of it. -/
theorem drop_at {α : Type} {xs : List α} {k : Nat} (h : k < xs.length) : xs.drop k = xs[k] :: xs.drop (k + 1) := List.drop_eq_getElem_cons h
theorem len_eq0 {n : Nat} (h : n = 0) : ((n : Int) == 0) = true := by subst h; rfl
theorem len_ne0 {n : Nat} (h : n ≠ 0) : ((n : Int) == 0) = false := by simp; omega

/-- Ints. -/
def IntE : Elem Int where
  size := 1
  pos := Nat.one_pos
  cs := fun _ _ n c => c = [.int .i64 n]
  len := fun h => by subst h; rfl
  one := fun h u hu => by subst h; simp at hu; subst hu; rfl
  keep := fun h _ => h
  mono := fun _ h => h
  lt := fun h => h

/-- A slice in a slice. -/
def SlE {α : Type} (R : Elem α) : Elem (List α) where
  size := 1
  pos := Nat.one_pos
  cs := fun A w xs c => ∃ v, c = [v] ∧ SlA A R w v xs
  len := fun ⟨_, h, _⟩ => by subst h; rfl
  one := fun ⟨v, h, h2⟩ u hu => by subst h; simp at hu; subst hu; obtain ⟨p, cap, rfl⟩ := h2.len; rfl
  keep := fun ⟨v, h, h2⟩ hw => ⟨v, h, h2.agree hw⟩
  mono := fun hAB ⟨v, h, h2⟩ => ⟨v, h, h2.mono hAB⟩
  lt := fun ⟨v, h, h2⟩ => ⟨v, h, h2.lt⟩

/-- An instruction. -/
structure Ins where
  op : Int
  d : Int
  a : Int
  b : Int
  l : Int
  i : Int

def Ins.v (x : Ins) : Value := .agg #[.int .i64 x.op, .int .i64 x.d, .int .i64 x.a, .int .i64 x.b, .int .i64 x.l, .int .i64 x.i]
def Ins.cells (x : Ins) : List Value := [.int .i64 x.op, .int .i64 x.d, .int .i64 x.a, .int .i64 x.b, .int .i64 x.l, .int .i64 x.i]

def InsAt (w : World) (b o : Nat) (x : Ins) : Prop :=
  w.cell? ⟨b, o, none⟩ = some (.int .i64 x.op) ∧ w.cell? ⟨b, o + 1, none⟩ = some (.int .i64 x.d) ∧ w.cell? ⟨b, o + 2, none⟩ = some (.int .i64 x.a) ∧
  w.cell? ⟨b, o + 3, none⟩ = some (.int .i64 x.b) ∧ w.cell? ⟨b, o + 4, none⟩ = some (.int .i64 x.l) ∧ w.cell? ⟨b, o + 5, none⟩ = some (.int .i64 x.i)

def InsE : Elem Ins where
  size := 6
  pos := by decide
  cs := fun _ _ x c => c = x.cells
  len := fun h => by subst h; rfl
  one := fun h u hu => by subst h; simp [Ins.cells] at hu; rcases hu with rfl | rfl | rfl | rfl | rfl | rfl <;> rfl
  keep := fun h _ => h
  mono := fun _ h => h
  lt := fun h => h

/-- Threads. -/
def ThrE : Elem (List Ins) := SlE InsE

theorem ints_at {A : Nat → Prop} {w : World} {p : Option Addr} {n c : Nat} {xs : List Int} (h : SlA A IntE w (.slice p n c) xs) : n = xs.length ∧ ∀ k (hk : k < xs.length), ∃ b o, p = some ⟨b, o, none⟩ ∧ w.cell? ⟨b, o + k, none⟩ = some (.int .i64 xs[k]) := by
  obtain ⟨h1, h2⟩ := h.at
  refine ⟨h1, fun k hk => ?_⟩
  obtain ⟨b, o, rfl, _, cs, h3, h4⟩ := h2 k hk
  have := h4 0 _ (by rw [show cs = [.int .i64 xs[k]] from h3]; rfl)
  exact ⟨b, o, rfl, by simpa [IntE] using this⟩
theorem ins_at {A : Nat → Prop} {w : World} {p : Option Addr} {n c : Nat} {xs : List Ins} (h : SlA A InsE w (.slice p n c) xs) : n = xs.length ∧ ∀ k (hk : k < xs.length), ∃ b o, p = some ⟨b, o, none⟩ ∧ InsAt w b (o + k * 6) xs[k] := by
  obtain ⟨h1, h2⟩ := h.at
  refine ⟨h1, fun k hk => ?_⟩
  obtain ⟨b, o, rfl, _, cs, h3, h4⟩ := h2 k hk
  have e : cs = xs[k].cells := h3
  subst e
  exact ⟨b, o, rfl, h4 0 _ rfl, h4 1 _ rfl, h4 2 _ rfl, h4 3 _ rfl, h4 4 _ rfl, h4 5 _ rfl⟩
theorem sl_at {α : Type} {R : Elem α} {A : Nat → Prop} {w : World} {p : Option Addr} {n c : Nat} {xs : List (List α)} (h : SlA A (SlE R) w (.slice p n c) xs) : n = xs.length ∧ ∀ k (hk : k < xs.length), ∃ b o, p = some ⟨b, o, none⟩ ∧ ∃ v, w.cell? ⟨b, o + k, none⟩ = some v ∧ SlA A R w v xs[k] := by
  obtain ⟨h1, h2⟩ := h.at
  refine ⟨h1, fun k hk => ?_⟩
  obtain ⟨b, o, rfl, _, cs, ⟨v, rfl, h3⟩, h4⟩ := h2 k hk
  have := h4 0 v rfl
  exact ⟨b, o, rfl, v, by simpa [SlE] using this, h3⟩
theorem thr_at {A : Nat → Prop} {w : World} {p : Option Addr} {n c : Nat} {xs : List (List Ins)} (h : SlA A ThrE w (.slice p n c) xs) : n = xs.length ∧ ∀ k (hk : k < xs.length), ∃ b o, p = some ⟨b, o, none⟩ ∧ ∃ v, w.cell? ⟨b, o + k, none⟩ = some v ∧ SlA A InsE w v xs[k] := sl_at h

/-- A slice that the call makes by appending: its own row, and what its elements point to, in blocks of A, but not in that row. -/
def Own {α : Type} (A : Nat → Prop) (R : Elem α) (w : World) (base : Nat) (e : TypeId) (v : Value) (xs : List α) : Prop :=
  ∃ cc : List (List Value), w.ownsRow base e R.size v xs.length cc.flatten ∧ cc.length = xs.length ∧ ∀ i (h : i < xs.length) (h' : i < cc.length), R.cs (fun b => A b ∧ some b ≠ v.ownBlock) w xs[i] cc[i]

theorem Own.nil {α : Type} {A : Nat → Prop} {R : Elem α} {w : World} {base : Nat} {e : TypeId} : Own A R w base e (.slice none 0 0) [] :=
  ⟨[], World.ownsRow_nil _ _ _ _, rfl, fun i h => by simp at h⟩

section
variable {α : Type} {R : Elem α} {A B : Nat → Prop} {w w' : World} {v : Value} {xs ys : List α} {base : Nat} {e : TypeId}

theorem addr_add (b o j : Nat) : (⟨b, o, none⟩ : Addr).add j = ⟨b, o + j, none⟩ := by
  by_cases h : j = 0 <;> simp [Addr.add, h]

theorem flat_at {n : Nat} : ∀ {cc : List (List Value)} (_ : ∀ c ∈ cc, c.length = n) {i j : Nat} (hi : i < cc.length) {u : Value}, cc[i][j]? = some u → cc.flatten[i * n + j]? = some u
  | [], _, i, j, hi, _, _ => by simp at hi
  | c :: cc, hl, 0, j, _, u, hu => by
    have hj : j < c.length := by
      rcases Nat.lt_or_ge j c.length with h | h
      · exact h
      · simp [List.getElem?_eq_none h] at hu
    simp only [List.flatten_cons, Nat.zero_mul, Nat.zero_add]
    rw [List.getElem?_append_left hj]
    simpa using hu
  | c :: cc, hl, i + 1, j, hi, u, hu => by
    have hc : c.length = n := hl c (by simp)
    simp only [List.flatten_cons]
    rw [List.getElem?_append_right (by rw [hc, Nat.add_mul]; omega), show (i + 1) * n + j - c.length = i * n + j by rw [hc, Nat.add_mul]; omega]
    exact flat_at (fun c hc => hl c (by simp [hc])) (i := i) (by simpa using hi) (by simpa using hu)

theorem Own.lens {cc : List (List Value)} (h : ∀ i (h : i < xs.length) (h' : i < cc.length), R.cs A w xs[i] cc[i]) (hl : cc.length = xs.length) : ∀ c ∈ cc, c.length = R.size := by
  intro c hc
  obtain ⟨i, hi, rfl⟩ := List.getElem_of_mem hc
  exact R.len (h i (by omega) hi)
theorem Own.ones {cc : List (List Value)} (h : ∀ i (h : i < xs.length) (h' : i < cc.length), R.cs A w xs[i] cc[i]) (hl : cc.length = xs.length) : ∀ u ∈ cc.flatten, u.oneCell' = true := by
  intro u hu
  obtain ⟨c, hc, huc⟩ := List.mem_flatten.1 hu
  obtain ⟨i, hi, rfl⟩ := List.getElem_of_mem hc
  exact R.one (h i (by omega) hi) u huc

/-- What the call has made reads as the list. -/
theorem Own.sl (h : Own A R w base e v xs) : SlA (fun b => base ≤ b ∨ A b) R w v xs := by
  obtain ⟨cc, h1, h2, h3⟩ := h
  rcases h1.2 with ⟨rfl, h0⟩ | ⟨g, cap, cur, rfl, hb, _, hnc, _⟩
  · have : xs = [] := List.length_eq_zero_iff.1 h0
    subst this
    exact SlA.nil
  · refine ⟨_, cap, rfl, ⟨(fun e => by cases e), hnc⟩, fun _ => ⟨g, 0, rfl, .inl hb, fun i hi => ⟨cc[i]'(by omega), R.mono (fun b h => .inr h.1) (h3 i hi (by omega)), fun j u hu => ?_⟩⟩⟩
    have := h1.cells (g := g) rfl (i * R.size + j) u (flat_at (Own.lens h3 h2) (by omega) hu)
    rw [addr_add] at this
    rw [← this]
    congr 2
    omega
theorem Own.agree {row : Option Nat} (h : Own A R w base e v xs) (hg : w.grownBy w' row) (hr : ∀ k, row = some k → ¬ A k ∧ v.ownBlock ≠ some k) : Own A R w' base e v xs := by
  obtain ⟨cc, h1, h2, h3⟩ := h
  refine ⟨cc, h1.kept hg ?_, h2, fun i hi hi' => R.keep (h3 i hi hi') (grownBy_agree hg fun b hb he => (hr b he.symm).1 hb.1)⟩
  cases hv : v.ownBlock with
  | none => exact .inl rfl
  | some k => exact .inr fun he => (hr k he.symm).2 hv
theorem Own.keep (h : Own A R w base e v xs) (hb : Below w.heap.size w w') : Own A R w' base e v xs :=
  h.agree (Below.grownBy hb) (fun k hk => by cases hk)
theorem Own.len (h : Own A R w base e v xs) : ∃ p cap, v = .slice p xs.length cap := h.sl.len
theorem Own.lt (h : Own A R w base e v xs) : ∀ k, v.ownBlock = some k → base ≤ k ∧ k < w.heap.size := by
  obtain ⟨cc, h1, _⟩ := h; exact h1.lt

/-- A slice, as cells to be appended. -/
theorem SlA.cells (h : SlA B R w v ys) : ∃ (p : Option Addr) (cap : Nat) (cc : List (List Value)), v = .slice p ys.length cap ∧ (p = none → cap = 0 ∧ ys = []) ∧ cc.length = ys.length ∧ (∀ i (h : i < ys.length) (h' : i < cc.length), R.cs B w ys[i] cc[i]) ∧
    ∀ ad, p = some ad → ∀ j u, cc.flatten[j]? = some u → w.cell? (ad.add j) = some u := by
  obtain ⟨p, cap, rfl, h0, h⟩ := h
  by_cases hy : ys = []
  · subst hy
    exact ⟨p, cap, [], rfl, fun hp => ⟨h0.1 hp, rfl⟩, rfl, fun i h => by simp at h, fun ad _ j u hu => by simp at hu⟩
  · obtain ⟨b, o, rfl, _, h⟩ := h hy
    have : ∃ cc : List (List Value), cc.length = ys.length ∧ ∀ i (h : i < ys.length) (h' : i < cc.length), R.cs B w ys[i] cc[i] ∧ ∀ j u, cc[i][j]? = some u → w.cell? ⟨b, o + i * R.size + j, none⟩ = some u := by
      refine ⟨(List.finRange ys.length).map fun i => Classical.choose (h i.1 i.2), by simp, fun i hi hi' => ?_⟩
      simp only [List.getElem_map, List.getElem_finRange]
      exact Classical.choose_spec (h i hi)
    obtain ⟨cc, hl, hc⟩ := this
    refine ⟨_, cap, cc, rfl, (fun hp => by cases hp), hl, fun i h h' => (hc i h h').1, fun ad had j u hu => ?_⟩
    cases had
    have hlen : ∀ c ∈ cc, c.length = R.size := Own.lens (fun i h h' => (hc i h h').1) hl
    have hp := R.pos
    have hj : j < cc.flatten.length := by
      rcases Nat.lt_or_ge j cc.flatten.length with h | h
      · exact h
      · simp [List.getElem?_eq_none h] at hu
    have hfl : cc.flatten.length = cc.length * R.size := by
      clear hj hu hc hl
      induction cc with
      | nil => simp
      | cons c cc ih => simp only [List.flatten_cons, List.length_append, List.length_cons]; rw [hlen c (by simp), ih (fun c hc => hlen c (by simp [hc])), Nat.add_mul]; omega
    have hi : j / R.size < cc.length := by rw [Nat.div_lt_iff_lt_mul hp]; omega
    have hm : j % R.size < R.size := Nat.mod_lt _ hp
    have hcm : (cc[j / R.size])[j % R.size]? = some ((cc[j / R.size])[j % R.size]'(by rw [hlen _ (List.getElem_mem hi)]; exact hm)) := List.getElem?_eq_getElem _
    have e := flat_at hlen hi hcm
    have ej : j / R.size * R.size + j % R.size = j := by rw [Nat.mul_comm]; exact Nat.div_add_mod j R.size
    rw [ej, hu] at e
    have := (hc _ (by omega) hi).2 _ _ hcm
    rw [addr_add, ← (Option.some.inj e)] at *
    rw [← this]
    congr 2
    omega
end

section
variable {α : Type} {R : Elem α} {A B : Nat → Prop} {P : Program} {w : World} {xs ys : List α}

/-- THE LAW OF append, run. -/
theorem run_app (t ty e : TypeId) (i : TypeInfo) (z : Value) (bytes : Nat) (ht : P.underlying t = some (.slice e)) (hi : P.info? e = some i) (hz : i.zero = some z) (hsize : i.size = R.size) (hby : i.bytes = bytes) (hzs : z.cells.size = R.size)
    (base : Nat) (v u : Value) (hown : Own A R w base e v xs) (hu : SlA B R w u ys) (hB : ∀ y ∈ ys, ∀ c, R.cs B w y c → R.cs (fun b => A b ∧ some b ≠ v.ownBlock) w y c)
    (h63 : xs.length + ys.length ≤ 100000000) (hbytes : bytes ≤ 1000000) (hbase : base ≤ w.heap.size) :
    ∃ p cap w', (Builtin.append_ #[t, t] ty #[v, u]).run P w = .ok (.slice p (xs ++ ys).length cap) w' ∧ Own A R w' base e (.slice p (xs ++ ys).length cap) (xs ++ ys) ∧ w.grownBy w' v.ownBlock ∧
      ((Value.slice p (xs ++ ys).length cap).ownBlock = v.ownBlock ∨ (Value.slice p (xs ++ ys).length cap).ownBlock = some w.heap.size) := by
  obtain ⟨pu, cu, dd, rfl, hn, hdl, hd, hdc⟩ := hu.cells
  obtain ⟨cc, h1, h2, h3⟩ := hown
  cases pu with
  | none =>
    obtain ⟨rfl, rfl⟩ := hn rfl
    obtain ⟨p, cap, rfl⟩ := (show Own A R w base e v xs from ⟨cc, h1, h2, h3⟩).len
    refine ⟨p, cap, w, ?_, ?_, ⟨rfl, rfl, rfl, Nat.le_refl _, fun _ _ _ => rfl⟩, .inl (by simp)⟩
    · simp only [List.length_nil, List.append_nil]
      exact run_append_owned_none (P := P) (w := w) base t ty e i R.size ht hi _ _ _ h1
    · simp only [List.append_nil]
      exact ⟨cc, h1, h2, h3⟩
  | some ad =>
    have hl : dd.flatten.length = ys.length * R.size := by
      have hlen := Own.lens hd hdl
      rw [← hdl]
      clear hd hdl hdc hB hu hn h63
      induction dd with
      | nil => simp
      | cons c cc ih => simp only [List.flatten_cons, List.length_append, List.length_cons]; rw [hlen c (by simp), ih (fun c hc => hlen c (by simp [hc])), Nat.add_mul]; omega
    have hbb : (xs.length + ys.length) * bytes ≤ 140737488355328 := Nat.le_trans (Nat.mul_le_mul h63 hbytes) (by decide)
    obtain ⟨v', w', hr, h4, h5, _, h7⟩ := run_append_own_at (P := P) w base t ty e i z R.size bytes ht hi hz hsize hby hzs R.pos v xs.length cc.flatten h1 ad ys.length cu dd.flatten hl (hdc ad rfl) (Own.ones hd hdl) (by unfold maxLen; omega) hbb hbase
    have hlt := h1.lt
    have h4' : w'.ownsRow base e R.size v' (xs ++ ys).length (cc ++ dd).flatten := by rw [List.length_append, List.flatten_append]; exact h4
    have hown' : Own A R w' base e v' (xs ++ ys) := by
      refine ⟨cc ++ dd, h4', by simp [h2, hdl], fun k hk hk' => ?_⟩
      have hfix : ∀ x c, R.cs (fun b => A b ∧ some b ≠ v.ownBlock) w x c → R.cs (fun b => A b ∧ some b ≠ v'.ownBlock) w' x c := fun x c hx => by
        have a1 := R.keep (R.lt hx) (grownBy_agree h5 fun b hb => hb.1.2)
        refine R.mono (fun b hb => ⟨hb.1.1, ?_⟩) a1
        rcases h7 with h7 | h7
        · rw [h7]; exact hb.1.2
        · rw [h7]; intro e; injection e with e; omega
      by_cases hx : k < xs.length
      · rw [List.getElem_append_left hx, List.getElem_append_left (by omega)]
        exact hfix _ _ (h3 k hx (by omega))
      · rw [List.getElem_append_right (by omega), List.getElem_append_right (by omega)]
        have e : k - cc.length = k - xs.length := by omega
        simp only [e]
        have hy : k - xs.length < ys.length := by simp at hk; omega
        exact hfix _ _ (hB _ (List.getElem_mem hy) _ (hd _ hy (by omega)))
    obtain ⟨p, cap, rfl⟩ := hown'.len
    exact ⟨p, cap, w', hr, hown', h5, h7⟩

/-- At an operation of a region. -/
theorem wpList_app {ops : Array Oper} {rest : List Oper} {o : Oper} {a : Act} {Q : Exit → Act → World → Prop} (hgd : o.guard = none) (s x : Operand) (t e : TypeId) (i : TypeInfo) (z : Value) (bytes : Nat)
    (ho : o.op = .call { callee := .builtin .append, args := #[s, x], argTypes := #[t, t] })
    (ht : P.underlying t = some (.slice e)) (hi : P.info? e = some i) (hz : i.zero = some z) (hsize : i.size = R.size) (hby : i.bytes = bytes) (hzs : z.cells.size = R.size)
    (base : Nat) (v u : Value) (hs : a.eval s = v) (hx : a.eval x = u) (hown : Own A R w base e v xs) (hu : SlA B R w u ys) (hB : ∀ y ∈ ys, ∀ c, R.cs B w y c → R.cs (fun b => A b ∧ some b ≠ v.ownBlock) w y c)
    (h63 : xs.length + ys.length ≤ 100000000) (hbytes : bytes ≤ 1000000) (hbase : base ≤ w.heap.size)
    (h : ∀ p cap w', Own A R w' base e (.slice p (xs ++ ys).length cap) (xs ++ ys) → w.grownBy w' v.ownBlock → ((Value.slice p (xs ++ ys).length cap).ownBlock = v.ownBlock ∨ (Value.slice p (xs ++ ys).length cap).ownBlock = some w.heap.size) → wpList P ops Q rest (a.put o.dst (.slice p (xs ++ ys).length cap)) w') : wpList P ops Q (o :: rest) a w := by
  refine wpList_plain hgd fun K hK => ?_
  obtain ⟨p, cap, w', hr, h2, h3, h4⟩ := run_app (P := P) t o.type e i z bytes ht hi hz hsize hby hzs base v u hown hu hB h63 hbytes hbase
  unfold Oper.wp execOp
  simp only [ho, resolve, invoke, builtin, Sem.run_bind, Sem.run_pure, Result.andThen_ok, List.map_toArray, List.map_cons, List.map_nil, hs, hx, hr]
  exact hK _ _ (h p cap w' h2 h3 h4)
end

/-- 's == nil' of a slice. -/
theorem eql_slice_nil {P : Program} (w : World) (t e : TypeId) (a : Option Addr) (l c : Nat) (h : P.underlying t = some (.slice e)) : (binOp .eql t (.slice a l c) (.slice none 0 0)).run P w = .ok (.bool a.isNone) w := by
  simp only [binOp]
  simp [run_equal_slice_nil w t e a l c h]

/-- A block that is known whole (a variable's). -/
def Blk (w : World) (b : Nat) (cs : Array Value) (t : TypeId) : Prop := w.heap[b]? = some (.cells cs t (0, 0))
theorem Blk.lt {w : World} {b : Nat} {cs : Array Value} {t : TypeId} (h : Blk w b cs t) : b < w.heap.size := by
  rcases Nat.lt_or_ge b w.heap.size with h' | h'
  · exact h'
  · unfold Blk at h; rw [Array.getElem?_eq_none h'] at h; cases h
theorem Blk.cell {w : World} {b : Nat} {cs : Array Value} {t : TypeId} (h : Blk w b cs t) (i : Nat) : w.cell? ⟨b, i, none⟩ = cs[i]? := by
  unfold Blk at h; simp [World.cell?, h]
theorem Blk.frozen {w : World} {b : Nat} {cs : Array Value} {t : TypeId} (h : Blk w b cs t) (i : Nat) : w.frozen? ⟨b, i, none⟩ = false := by
  unfold Blk at h; simp [World.frozen?, h]
theorem Blk.keep {w w' : World} {b : Nat} {cs : Array Value} {t : TypeId} (h : Blk w b cs t) (hb : Below w.heap.size w w') : Blk w' b cs t := by
  unfold Blk at *; rw [hb.block b (Blk.lt h)]; exact h
theorem Blk.grown {w w' : World} {b : Nat} {cs : Array Value} {t : TypeId} {row : Option Nat} (h : Blk w b cs t) (hg : w.grownBy w' row) (hr : some b ≠ row) : Blk w' b cs t := by
  unfold Blk at *; rw [hg.block b (Blk.lt h) hr]; exact h
theorem Blk.new {w : World} {cs : Array Value} {t : TypeId} : Blk (w.alloc (.cells cs t (0, 0))) w.heap.size cs t := by
  unfold Blk; show (w.heap.push _)[w.heap.size]? = _; simp
theorem Blk.newAt {w : World} {b : Nat} {cs : Array Value} {t : TypeId} (h : w.heap.size = b) : Blk (w.alloc (.cells cs t (0, 0))) b cs t := by subst h; exact Blk.new
theorem Blk.alloc {w : World} {b : Nat} {cs : Array Value} {t : TypeId} (h : Blk w b cs t) (o : Obj) : Blk (w.alloc o) b cs t := h.keep ((Below.refl _ _).alloc (Nat.le_refl _) _)
theorem Blk.set {w : World} {b i : Nat} {cs : Array Value} {t : TypeId} (h : Blk w b cs t) (v : Value) : Blk (w.setCell ⟨b, i, none⟩ v) b (cs.setIfInBounds i v) t := by
  have := h.lt
  unfold Blk at *
  simp only [World.setCell, Array.getElem?_modify, if_true, h]
  rfl
theorem grownBy_set (w : World) (a : Addr) (v : Value) : w.grownBy (w.setCell a v) (some a.block) :=
  ⟨rfl, rfl, rfl, by simp [World.setCell], fun k _ hne => Below.heap_setCell _ _ _ _ (fun e => hne (by rw [e]))⟩
theorem Blk.drew {w : World} {b : Nat} {cs : Array Value} {t : TypeId} (h : Blk w b cs t) : Blk w.drew b cs t := h

/-- A slice of one slice, in a new block. -/
theorem sl_one {α : Type} {R : Elem α} {A : Nat → Prop} {w : World} {b c : Nat} {v : Value} {l : List α} (hA : A b) (h : w.cell? ⟨b, 0, none⟩ = some v) (hv : SlA A R w v l) (hc : 1 ≤ c) : SlA A (SlE R) w (.slice (some ⟨b, 0, none⟩) 1 c) [l] := by
  refine ⟨_, c, rfl, ⟨(fun e => by cases e), hc⟩, fun _ => ⟨b, 0, rfl, hA, fun i hi => ⟨[v], ?_, fun j u hu => ?_⟩⟩⟩
  · have : i = 0 := by simp at hi; omega
    subst this
    exact ⟨v, rfl, hv⟩
  · have : i = 0 := by simp at hi; omega
    subst this
    match j, hu with
    | 0, hu => simp at hu; subst hu; simpa using h
    | j + 1, hu => simp at hu

/-- Elements that point nowhere. -/
theorem int_flat {A B : Nat → Prop} {w : World} : ∀ (y : Int) (c : List Value), IntE.cs A w y c → IntE.cs B w y c := fun _ _ h => h
theorem ins_flat {A B : Nat → Prop} {w : World} : ∀ (y : Ins) (c : List Value), InsE.cs A w y c → InsE.cs B w y c := fun _ _ h => h

end Go.Proofs.Ytgffeihfcmbobaa

/- Laws of no program: an append of slices whose own row may lie anywhere. -/
namespace Go.Proofs.Ytgffeihfcmbobaa
open Go.RowKit

/-- A slice that reads as a list; what its elements point to lies in blocks of A. -/
def SlO {α : Type} (A : Nat → Prop) (R : Elem α) (w : World) (v : Value) (xs : List α) : Prop :=
  ∃ p cap, v = .slice p xs.length cap ∧ ((p = none → cap = 0) ∧ xs.length ≤ cap) ∧ (xs ≠ [] → ∃ b o, p = some ⟨b, o, none⟩ ∧ ∀ i (h : i < xs.length), ∃ c, R.cs A w xs[i] c ∧ ∀ j u, c[j]? = some u → w.cell? ⟨b, o + i * R.size + j, none⟩ = some u)
theorem SlA.o {α : Type} {A : Nat → Prop} {R : Elem α} {w : World} {v : Value} {xs : List α} (h : SlA A R w v xs) : SlO A R w v xs := by
  obtain ⟨p, cap, rfl, h0, h⟩ := h
  refine ⟨p, cap, rfl, h0, fun hne => ?_⟩
  obtain ⟨b, o, rfl, _, h2⟩ := h hne
  exact ⟨b, o, rfl, h2⟩
theorem SlO.mono {α : Type} {A B : Nat → Prop} {R : Elem α} {w : World} {v : Value} {xs : List α} (hAB : ∀ b, A b → B b) (h : SlO A R w v xs) : SlO B R w v xs := by
  obtain ⟨p, cap, rfl, h0, h⟩ := h
  refine ⟨p, cap, rfl, h0, fun hne => ?_⟩
  obtain ⟨b, o, rfl, h2⟩ := h hne
  refine ⟨b, o, rfl, fun i hi => ?_⟩
  obtain ⟨c, h3, h4⟩ := h2 i hi
  exact ⟨c, R.mono hAB h3, h4⟩
/-- One slice, in a block. -/
theorem slO_one {α : Type} {R : Elem α} {A : Nat → Prop} {w : World} {b c : Nat} {v : Value} {l : List α} (h : w.cell? ⟨b, 0, none⟩ = some v) (hv : SlA A R w v l) (hc : 1 ≤ c) : SlO A (SlE R) w (.slice (some ⟨b, 0, none⟩) 1 c) [l] := by
  refine ⟨_, c, rfl, ⟨(fun e => by cases e), hc⟩, fun _ => ⟨b, 0, rfl, fun i hi => ⟨[v], ?_, fun j u hu => ?_⟩⟩⟩
  · have : i = 0 := by simp at hi; omega
    subst this
    exact ⟨v, rfl, hv⟩
  · have : i = 0 := by simp at hi; omega
    subst this
    match j, hu with
    | 0, hu => simp at hu; subst hu; simpa using h
    | j + 1, hu => simp at hu

section
variable {α : Type} {R : Elem α} {A B : Nat → Prop} {w w' : World} {v : Value} {xs ys : List α} {base : Nat} {e : TypeId}
/-- A slice, as cells to be appended. -/
theorem SlO.cells (h : SlO B R w v ys) : ∃ (p : Option Addr) (cap : Nat) (cc : List (List Value)), v = .slice p ys.length cap ∧ (p = none → cap = 0 ∧ ys = []) ∧ cc.length = ys.length ∧ (∀ i (h : i < ys.length) (h' : i < cc.length), R.cs B w ys[i] cc[i]) ∧
    ∀ ad, p = some ad → ∀ j u, cc.flatten[j]? = some u → w.cell? (ad.add j) = some u := by
  obtain ⟨p, cap, rfl, h0, h⟩ := h
  by_cases hy : ys = []
  · subst hy
    exact ⟨p, cap, [], rfl, fun hp => ⟨h0.1 hp, rfl⟩, rfl, fun i h => by simp at h, fun ad _ j u hu => by simp at hu⟩
  · obtain ⟨b, o, rfl, hh⟩ := h hy
    have : ∃ cc : List (List Value), cc.length = ys.length ∧ ∀ i (h : i < ys.length) (h' : i < cc.length), R.cs B w ys[i] cc[i] ∧ ∀ j u, cc[i][j]? = some u → w.cell? ⟨b, o + i * R.size + j, none⟩ = some u := by
      refine ⟨(List.finRange ys.length).map fun i => Classical.choose (hh i.1 i.2), by simp, fun i hi hi' => ?_⟩
      simp only [List.getElem_map, List.getElem_finRange]
      exact Classical.choose_spec (hh i hi)
    obtain ⟨cc, hl, hc⟩ := this
    refine ⟨_, cap, cc, rfl, (fun hp => by cases hp), hl, fun i h h' => (hc i h h').1, fun ad had j u hu => ?_⟩
    cases had
    have hlen : ∀ c ∈ cc, c.length = R.size := Own.lens (fun i h h' => (hc i h h').1) hl
    have hp := R.pos
    have hj : j < cc.flatten.length := by
      rcases Nat.lt_or_ge j cc.flatten.length with h | h
      · exact h
      · simp [List.getElem?_eq_none h] at hu
    have hfl : cc.flatten.length = cc.length * R.size := by
      clear hj hu hc hl
      induction cc with
      | nil => simp
      | cons c cc ih => simp only [List.flatten_cons, List.length_append, List.length_cons]; rw [hlen c (by simp), ih (fun c hc => hlen c (by simp [hc])), Nat.add_mul]; omega
    have hi : j / R.size < cc.length := by rw [Nat.div_lt_iff_lt_mul hp]; omega
    have hm : j % R.size < R.size := Nat.mod_lt _ hp
    have hcm : (cc[j / R.size])[j % R.size]? = some ((cc[j / R.size])[j % R.size]'(by rw [hlen _ (List.getElem_mem hi)]; exact hm)) := List.getElem?_eq_getElem _
    have e := flat_at hlen hi hcm
    have ej : j / R.size * R.size + j % R.size = j := by rw [Nat.mul_comm]; exact Nat.div_add_mod j R.size
    rw [ej, hu] at e
    have := (hc _ (by omega) hi).2 _ _ hcm
    rw [addr_add, ← (Option.some.inj e)] at *
    rw [← this]
    congr 2
    omega
end


section
variable {α : Type} {R : Elem α} {A : Nat → Prop} {P : Program} {w : World} {xs ys : List α}

/-- THE LAW OF append, run. -/
theorem run_appO (t ty e : TypeId) (i : TypeInfo) (z : Value) (bytes : Nat) (ht : P.underlying t = some (.slice e)) (hi : P.info? e = some i) (hz : i.zero = some z) (hsize : i.size = R.size) (hby : i.bytes = bytes) (hzs : z.cells.size = R.size)
    (base : Nat) (v u : Value) (hown : Own A R w base e v xs) (hu : SlO (fun b => A b ∧ some b ≠ v.ownBlock) R w u ys)
    (h63 : xs.length + ys.length ≤ 100000000) (hbytes : bytes ≤ 1000000) (hbase : base ≤ w.heap.size) :
    ∃ p cap w', (Builtin.append_ #[t, t] ty #[v, u]).run P w = .ok (.slice p (xs ++ ys).length cap) w' ∧ Own A R w' base e (.slice p (xs ++ ys).length cap) (xs ++ ys) ∧ w.grownBy w' v.ownBlock ∧
      ((Value.slice p (xs ++ ys).length cap).ownBlock = v.ownBlock ∨ (Value.slice p (xs ++ ys).length cap).ownBlock = some w.heap.size) := by
  obtain ⟨pu, cu, dd, rfl, hn, hdl, hd, hdc⟩ := hu.cells
  obtain ⟨cc, h1, h2, h3⟩ := hown
  cases pu with
  | none =>
    obtain ⟨rfl, rfl⟩ := hn rfl
    obtain ⟨p, cap, rfl⟩ := (show Own A R w base e v xs from ⟨cc, h1, h2, h3⟩).len
    refine ⟨p, cap, w, ?_, ?_, ⟨rfl, rfl, rfl, Nat.le_refl _, fun _ _ _ => rfl⟩, .inl (by simp)⟩
    · simp only [List.length_nil, List.append_nil]
      exact run_append_owned_none (P := P) (w := w) base t ty e i R.size ht hi _ _ _ h1
    · simp only [List.append_nil]
      exact ⟨cc, h1, h2, h3⟩
  | some ad =>
    have hl : dd.flatten.length = ys.length * R.size := by
      have hlen := Own.lens hd hdl
      rw [← hdl]
      clear hd hdl hdc hu hn h63
      induction dd with
      | nil => simp
      | cons c cc ih => simp only [List.flatten_cons, List.length_append, List.length_cons]; rw [hlen c (by simp), ih (fun c hc => hlen c (by simp [hc])), Nat.add_mul]; omega
    have hbb : (xs.length + ys.length) * bytes ≤ 140737488355328 := Nat.le_trans (Nat.mul_le_mul h63 hbytes) (by decide)
    obtain ⟨v', w', hr, h4, h5, _, h7⟩ := run_append_own_at (P := P) w base t ty e i z R.size bytes ht hi hz hsize hby hzs R.pos v xs.length cc.flatten h1 ad ys.length cu dd.flatten hl (hdc ad rfl) (Own.ones hd hdl) (by unfold maxLen; omega) hbb hbase
    have hlt := h1.lt
    have h4' : w'.ownsRow base e R.size v' (xs ++ ys).length (cc ++ dd).flatten := by rw [List.length_append, List.flatten_append]; exact h4
    have hown' : Own A R w' base e v' (xs ++ ys) := by
      refine ⟨cc ++ dd, h4', by simp [h2, hdl], fun k hk hk' => ?_⟩
      have hfix : ∀ x c, R.cs (fun b => A b ∧ some b ≠ v.ownBlock) w x c → R.cs (fun b => A b ∧ some b ≠ v'.ownBlock) w' x c := fun x c hx => by
        have a1 := R.keep (R.lt hx) (grownBy_agree h5 fun b hb => hb.1.2)
        refine R.mono (fun b hb => ⟨hb.1.1, ?_⟩) a1
        rcases h7 with h7 | h7
        · rw [h7]; exact hb.1.2
        · rw [h7]; intro e; injection e with e; omega
      by_cases hx : k < xs.length
      · rw [List.getElem_append_left hx, List.getElem_append_left (by omega)]
        exact hfix _ _ (h3 k hx (by omega))
      · rw [List.getElem_append_right (by omega), List.getElem_append_right (by omega)]
        have e : k - cc.length = k - xs.length := by omega
        simp only [e]
        have hy : k - xs.length < ys.length := by simp at hk; omega
        exact hfix _ _ (hd _ hy (by omega))
    obtain ⟨p, cap, rfl⟩ := hown'.len
    exact ⟨p, cap, w', hr, hown', h5, h7⟩

/-- At an operation of a region. -/
theorem wpList_appO {ops : Array Oper} {rest : List Oper} {o : Oper} {a : Act} {Q : Exit → Act → World → Prop} (hgd : o.guard = none) (s x : Operand) (t e : TypeId) (i : TypeInfo) (z : Value) (bytes : Nat)
    (ho : o.op = .call { callee := .builtin .append, args := #[s, x], argTypes := #[t, t] })
    (ht : P.underlying t = some (.slice e)) (hi : P.info? e = some i) (hz : i.zero = some z) (hsize : i.size = R.size) (hby : i.bytes = bytes) (hzs : z.cells.size = R.size)
    (base : Nat) (v u : Value) (hs : a.eval s = v) (hx : a.eval x = u) (hown : Own A R w base e v xs) (hu : SlO (fun b => A b ∧ some b ≠ v.ownBlock) R w u ys)
    (h63 : xs.length + ys.length ≤ 100000000) (hbytes : bytes ≤ 1000000) (hbase : base ≤ w.heap.size)
    (h : ∀ p cap w', Own A R w' base e (.slice p (xs ++ ys).length cap) (xs ++ ys) → w.grownBy w' v.ownBlock → ((Value.slice p (xs ++ ys).length cap).ownBlock = v.ownBlock ∨ (Value.slice p (xs ++ ys).length cap).ownBlock = some w.heap.size) → wpList P ops Q rest (a.put o.dst (.slice p (xs ++ ys).length cap)) w') : wpList P ops Q (o :: rest) a w := by
  refine wpList_plain hgd fun K hK => ?_
  obtain ⟨p, cap, w', hr, h2, h3, h4⟩ := run_appO (P := P) t o.type e i z bytes ht hi hz hsize hby hzs base v u hown hu h63 hbytes hbase
  unfold Oper.wp execOp
  simp only [ho, resolve, invoke, builtin, Sem.run_bind, Sem.run_pure, Result.andThen_ok, List.map_toArray, List.map_cons, List.map_nil, hs, hx, hr]
  exact hK _ _ (h p cap w' h2 h3 h4)
end

end Go.Proofs.Ytgffeihfcmbobaa

/- Laws of no program: an append onto an empty slice without room: a new row; nothing that stood is turned. -/
namespace Go.Proofs.Ytgffeihfcmbobaa
open Go.RowKit

section
variable {α : Type} {R : Elem α} {B : Nat → Prop} {P : Program} {w : World} {ys : List α}

theorem wpList_appNew {ops : Array Oper} {rest : List Oper} {o : Oper} {a : Act} {Q : Exit → Act → World → Prop} (hgd : o.guard = none) (s x : Operand) (t e : TypeId) (i : TypeInfo) (z : Value) (bytes : Nat)
    (ho : o.op = .call { callee := .builtin .append, args := #[s, x], argTypes := #[t, t] })
    (ht : P.underlying t = some (.slice e)) (hi : P.info? e = some i) (hz : i.zero = some z) (hsize : i.size = R.size) (hby : i.bytes = bytes) (hzs : z.cells.size = R.size)
    (g : Addr) (u : Value) (hs : a.eval s = .slice (some g) 0 0) (hx : a.eval x = u) (hu : SlO B R w u ys) (hne : ys ≠ [])
    (h63 : ys.length ≤ 100000000) (hbytes : bytes ≤ 1000000)
    (h : ∀ p cap w', Own B R w' w.heap.size e (.slice p ys.length cap) ys → Below w.heap.size w w' → wpList P ops Q rest (a.put o.dst (.slice p ys.length cap)) w') : wpList P ops Q (o :: rest) a w := by
  obtain ⟨pu, cu, dd, rfl, hn, hdl, hd, hdc⟩ := hu.cells
  cases pu with
  | none => exact absurd (hn rfl).2 hne
  | some ad =>
    have hl : dd.flatten.length = ys.length * R.size := by
      have hlen := Own.lens hd hdl
      rw [← hdl]
      clear hd hdl hdc hu hn h63 h
      induction dd with
      | nil => simp
      | cons c cc ih => simp only [List.flatten_cons, List.length_append, List.length_cons]; rw [hlen c (by simp), ih (fun c hc => hlen c (by simp [hc])), Nat.add_mul]; omega
    have hpos : 0 < ys.length := List.length_pos_iff.2 hne
    have hbb : (0 + ys.length) * bytes ≤ 140737488355328 := by rw [Nat.zero_add]; exact Nat.le_trans (Nat.mul_le_mul h63 hbytes) (by decide)
    refine wpList_append_grows w hgd s x t ho e i z R.size bytes ht hi hz hsize hby hzs R.pos (some g) 0 0 [] hs (fun e => by cases e) (by simp) (fun b _ j u hj => by simp at hj) ad ys.length cu dd.flatten hx hl (hdc ad rfl) (Own.ones hd hdl) (by omega) (by unfold maxLen; omega) hbb ?_
    intro v' w' hown hg
    rw [Nat.zero_add, List.nil_append] at hown
    have hb : Below w.heap.size w w' := (Below.refl _ _).grown hg (Nat.le_refl _) (fun k hk => by cases hk)
    have hO : Own B R w' w.heap.size e v' ys := by
      refine ⟨dd, hown, hdl, fun k hk hk' => ?_⟩
      have h1 := R.keep (R.lt (hd k hk hk')) (Below.agree hb)
      refine R.mono (fun b hb => ⟨hb.1, fun e => ?_⟩) h1
      have := (hown.lt b e.symm).1
      omega
    obtain ⟨p, cap, rfl⟩ := hO.len
    exact h p cap w' hO hb
end
end Go.Proofs.Ytgffeihfcmbobaa

/- What has changed lies in some blocks, or is new. -/
namespace Go.Proofs.Ytgffeihfcmbobaa
open Go.RowKit

/-- What has changed lies in A, or is new. -/
structure Only (A : Nat → Prop) (w w' : World) : Prop where
  os : w'.os = w.os
  tape : w'.tape = w.tape
  output : w'.output = w.output
  size : w.heap.size ≤ w'.heap.size
  block : ∀ b, b < w.heap.size → ¬ A b → w'.heap[b]? = w.heap[b]?
section
variable {A B : Nat → Prop} {w w' w'' : World}
theorem Only.refl : Only A w w := ⟨rfl, rfl, rfl, Nat.le_refl _, fun _ _ _ => rfl⟩
theorem Only.trans (h : Only A w w') (k : Only B w' w'') (hB : ∀ b, B b → A b ∨ w.heap.size ≤ b) : Only A w w'' :=
  ⟨k.os.trans h.os, k.tape.trans h.tape, k.output.trans h.output, Nat.le_trans h.size k.size, fun b hb ha => (k.block b (Nat.lt_of_lt_of_le hb h.size) (fun hb' => by rcases hB b hb' with h' | h'; exact ha h'; omega)).trans (h.block b hb ha)⟩
theorem Only.mono (h : Only A w w') (hAB : ∀ b, A b → B b) : Only B w w' := ⟨h.os, h.tape, h.output, h.size, fun b hb hn => h.block b hb fun ha => hn (hAB b ha)⟩
theorem Only.below {n : Nat} (h : Only A w w') (hn : n ≤ w.heap.size) (hA : ∀ b, A b → n ≤ b) : Below n w w' := ⟨h.os, h.tape, h.output, h.size, fun b hb => h.block b (by omega) fun ha => by have := hA b ha; omega⟩
theorem Only.agree (h : Only A w w') (hd : ∀ b, B b → ¬ A b) : Agree B w w' := fun b hB hb => h.block b hb (hd b hB)
theorem Below.only (h : Below w.heap.size w w') : Only A w w' := ⟨h.os, h.tape, h.output, h.size, fun b hb _ => h.block b hb⟩
theorem grownBy_only {row : Option Nat} (h : w.grownBy w' row) (hr : ∀ k, row = some k → A k) : Only A w w' := ⟨h.os, h.tape, h.output, h.size, fun b hb ha => h.block b hb fun e => ha (hr b e.symm)⟩
theorem Only.drewR (h : Only A w w') : Only A w w'.drew := ⟨h.os, h.tape, h.output, h.size, h.block⟩
theorem Blk.only {b : Nat} {cs : Array Value} {t : TypeId} (h : Blk w b cs t) (ho : Only A w w') (ha : ¬ A b) : Blk w' b cs t := by
  unfold Blk at *; rw [ho.block b (Blk.lt h) ha]; exact h
theorem ownsRow_only {base size n : Nat} {e : TypeId} {v : Value} {xs : List Value} (h : w.ownsRow base e size v n xs) (ho : Only A w w') (ha : ∀ b, v.ownBlock = some b → ¬ A b) : w'.ownsRow base e size v n xs := by
  obtain ⟨h1, h2⟩ := h
  refine ⟨h1, ?_⟩
  rcases h2 with h2 | ⟨g, cap, cur, rfl, hb, hg, h3⟩
  · exact .inl h2
  · exact .inr ⟨g, cap, cur, rfl, hb, by rw [ho.block g (Array.getElem?_eq_some_iff.1 hg).1 (ha g rfl)]; exact hg, h3⟩
theorem Own.only {α : Type} {R : Elem α} {D : Nat → Prop} {base : Nat} {e : TypeId} {v : Value} {xs : List α} (h : Own D R w base e v xs) (ho : Only A w w') (ha : ∀ b, v.ownBlock = some b → ¬ A b) (hd : ∀ b, D b → ¬ A b) : Own D R w' base e v xs := by
  obtain ⟨cc, h1, h2, h3⟩ := h
  exact ⟨cc, ownsRow_only h1 ho ha, h2, fun i hi hi' => R.keep (h3 i hi hi') (ho.agree fun b hb => hd b hb.1)⟩
end
end Go.Proofs.Ytgffeihfcmbobaa

/- Laws of no program: a whole struct stored into a block that is known whole. -/
namespace Go.Proofs.Ytgffeihfcmbobaa
open Go.RowKit

theorem setRow_blk {w : World} {g : Nat} {old cells : Array Value} {t : TypeId} (h : Blk w g old t) : Blk (w.setRow g cells) g cells t ∧ Only (fun k => k = g) w (w.setRow g cells) ∧ (w.setRow g cells).heap.size = w.heap.size := by
  have hl := h.lt
  refine ⟨?_, ?_, ?_⟩
  · have := setRow_heap w g old cells t (0, 0) h
    exact this
  · refine ⟨rfl, rfl, rfl, ?_, fun b _ hb => ?_⟩
    · simp [World.setRow]
    · simp [World.setRow, Array.getElem?_modify, Ne.symm hb]
  · simp [World.setRow]
section
variable {P : Program} {ops : Array Oper} {rest : List Oper} {o : Oper} {a : Act} {w : World} {Q : Exit → Act → World → Prop}
theorem wpList_storeB (hgd : o.guard = none) (ty : TypeId) (x y : Operand) (ho : o.op = .store ty x y) (g : Nat) (cells old : Array Value) (t : TypeId) (hx : a.eval x = .pointer (some ⟨g, 0, none⟩)) (hy : a.eval y = .agg cells)
    (hg : Blk w g old t) (hi : (P.info? ty).map (·.size) = some cells.size) (hold : old.size = cells.size) (h1 : cells.all (·.oneCell') = true)
    (h : ∀ w', Blk w' g cells t → Only (fun k => k = g) w w' → w'.heap.size = w.heap.size → wpList P ops Q rest (a.put o.dst undef) w') : wpList P ops Q (o :: rest) a w := by
  obtain ⟨k1, k2, k3⟩ := setRow_blk (cells := cells) hg
  exact wpList_plain hgd fun _ hK => wp_store_row ty x y ho g cells hx hy t old hg hi hold h1 (hK _ _ (h _ k1 k2 k3))
end
end Go.Proofs.Ytgffeihfcmbobaa
