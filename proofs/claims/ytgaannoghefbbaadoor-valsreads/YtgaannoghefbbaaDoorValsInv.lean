/- Where vals' closure that calls itself stands: the list that it gathers, the guesses that it is handed, and what it may write. -/
import Derived.Test.YtgaannoghefbbaaDoorValsGuess
namespace Go.Proofs.YtgaannoghefbbaaDoor
open Go.RowKit

/-- What may be written: the list's variable, its row, and the rows of the guesses. -/
def hotG (bl : Nat) (lv gv kv : Value) (x : Nat) : Prop := x = bl ∨ lv.ownBlock = some x ∨ gv.ownBlock = some x ∨ kv.ownBlock = some x
structure GaInv (te ti tb tl : TypeId) (base bl : Nat) (C : Nat → Prop) (W : World) (D : Nat → Prop) (lv : Value) (acc : List St) (gv : Value) (v : List Int) (kv : Value) (b : List Bool) : Prop where
  blk : Blk W bl #[lv] tl
  own : Own D TrE W base te lv acc
  og : W.ownsRow base ti 1 gv v.length (v.map (Value.int .i64))
  ob : W.ownsRow base tb 1 kv b.length (b.map Value.bool)
  bs : base ≤ W.heap.size
  clt : ∀ x, C x → x < W.heap.size
  dlt : ∀ x, D x → x < W.heap.size
  cold : ∀ x, C x → ¬ hotG bl lv gv kv x
  dcold : ∀ x, D x → ¬ hotG bl lv gv kv x
  n1 : lv.ownBlock ≠ some bl
  n2 : gv.ownBlock ≠ some bl
  n3 : kv.ownBlock ≠ some bl
  n4 : ∀ x, lv.ownBlock = some x → gv.ownBlock ≠ some x
  n5 : ∀ x, lv.ownBlock = some x → kv.ownBlock ≠ some x
  n6 : ∀ x, gv.ownBlock = some x → kv.ownBlock ≠ some x
structure GaRun (te ti tb tl : TypeId) (base bl : Nat) (W : World) (D : Nat → Prop) (lv gv : Value) (v : List Int) (kv : Value) (b : List Bool) (W' : World) (D' : Nat → Prop) (lv' : Value) (acc' : List St) : Prop where
  only : Only (hotG bl lv gv kv) W W'
  blk : Blk W' bl #[lv'] tl
  own : Own D' TrE W' base te lv' acc'
  og : W'.ownsRow base ti 1 gv v.length (v.map (Value.int .i64))
  ob : W'.ownsRow base tb 1 kv b.length (b.map Value.bool)
  vsub : ∀ x, lv'.ownBlock = some x → lv.ownBlock = some x ∨ W.heap.size ≤ x
  dsub : ∀ x, D' x → D x ∨ W.heap.size ≤ x
  dlt : ∀ x, D' x → x < W'.heap.size
  dnot : ∀ x, D' x → lv'.ownBlock ≠ some x
theorem Own.monoD {α : Type} {R : Elem α} {A B : Nat → Prop} {w : World} {base : Nat} {e : TypeId} {v : Value} {xs : List α} (hAB : ∀ b, A b → B b) (h : Own A R w base e v xs) : Own B R w base e v xs := by
  obtain ⟨cc, h1, h2, h3⟩ := h
  exact ⟨cc, h1, h2, fun i hi hi' => R.mono (fun b hb => ⟨hAB b hb.1, hb.2⟩) (h3 i hi hi')⟩
section
variable {te ti tb tl : TypeId} {base bl : Nat} {C D D' D'' : Nat → Prop} {W W' W'' W1 W2 : World} {lv lv' lv'' gv gv1 kv kv1 : Value} {acc acc' acc'' : List St} {v : List Int} {b : List Bool}
theorem GaInv.hlt (h : GaInv te ti tb tl base bl C W D lv acc gv v kv b) : ∀ x, hotG bl lv gv kv x → x < W.heap.size := by
  rintro x (rfl | hx | hx | hx)
  · exact Blk.lt h.blk
  · exact (h.own.lt x hx).2
  · exact (h.og.lt x hx).2
  · exact (h.ob.lt x hx).2
theorem GaInv.refl (h : GaInv te ti tb tl base bl C W D lv acc gv v kv b) : GaRun te ti tb tl base bl W D lv gv v kv b W D lv acc :=
  ⟨Only.refl, h.blk, h.own, h.og, h.ob, fun _ hx => .inl hx, fun _ hx => .inl hx, h.dlt, fun x hx e => h.dcold x hx (.inr (.inl e))⟩
theorem GaInv.run (h : GaInv te ti tb tl base bl C W D lv acc gv v kv b) (k : GaRun te ti tb tl base bl W D lv gv v kv b W' D' lv' acc') : GaInv te ti tb tl base bl C W' D' lv' acc' gv v kv b := by
  have hs := k.only.size
  have hbl := Blk.lt h.blk
  have hg := fun x e => (h.og.lt x e).2
  have hk := fun x e => (h.ob.lt x e).2
  refine ⟨k.blk, k.own, k.og, k.ob, Nat.le_trans h.bs hs, fun x hx => Nat.lt_of_lt_of_le (h.clt x hx) hs, k.dlt, fun x hx => ?_, fun x hx => ?_, fun e => ?_, h.n2, h.n3, fun x e1 e2 => ?_, fun x e1 e2 => ?_, h.n6⟩
  · have hc := h.cold x hx
    have hl := h.clt x hx
    rintro (e | e | e | e)
    · exact hc (.inl e)
    · rcases k.vsub x e with e | e
      · exact hc (.inr (.inl e))
      · omega
    · exact hc (.inr (.inr (.inl e)))
    · exact hc (.inr (.inr (.inr e)))
  · rintro (e | e | e | e)
    · rcases k.dsub x hx with d | d
      · exact h.dcold x d (.inl e)
      · omega
    · exact k.dnot x hx e
    · rcases k.dsub x hx with d | d
      · exact h.dcold x d (.inr (.inr (.inl e)))
      · have := hg x e; omega
    · rcases k.dsub x hx with d | d
      · exact h.dcold x d (.inr (.inr (.inr e)))
      · have := hk x e; omega
  · rcases k.vsub _ e with e | e
    · exact h.n1 e
    · omega
  · rcases k.vsub _ e1 with e | e
    · exact h.n4 x e e2
    · have := hg x e2; omega
  · rcases k.vsub _ e1 with e | e
    · exact h.n5 x e e2
    · have := hk x e2; omega
theorem GaRun.trans (h : GaRun te ti tb tl base bl W D lv gv v kv b W' D' lv' acc') (k : GaRun te ti tb tl base bl W' D' lv' gv v kv b W'' D'' lv'' acc'') : GaRun te ti tb tl base bl W D lv gv v kv b W'' D'' lv'' acc'' := by
  have hs := h.only.size
  refine ⟨h.only.trans k.only fun x hx => ?_, k.blk, k.own, k.og, k.ob, fun x hx => ?_, fun x hx => ?_, k.dlt, k.dnot⟩
  · rcases hx with e | e | e | e
    · exact .inl (.inl e)
    · rcases h.vsub x e with e | e
      · exact .inl (.inr (.inl e))
      · exact .inr e
    · exact .inl (.inr (.inr (.inl e)))
    · exact .inl (.inr (.inr (.inr e)))
  · rcases k.vsub x hx with e | e
    · exact h.vsub x e
    · exact .inr (by omega)
  · rcases k.dsub x hx with e | e
    · exact h.dsub x e
    · exact .inr (by omega)
/-- New memory, in which rows of traces may lie. -/
theorem GaInv.growD (h : GaInv te ti tb tl base bl C W D lv acc gv v kv b) (hb : Below W.heap.size W W') : GaRun te ti tb tl base bl W D lv gv v kv b W' (fun x => D x ∨ (W.heap.size ≤ x ∧ x < W'.heap.size)) lv acc := by
  have hs := hb.size
  refine ⟨Below.only hb, h.blk.keep hb, (h.own.keep hb).monoD fun x hx => .inl hx, h.og.kept (Below.grownBy hb) (by cases gv.ownBlock <;> simp), h.ob.kept (Below.grownBy hb) (by cases kv.ownBlock <;> simp), fun x hx => .inl hx, fun x hx => hx.imp id And.left, fun x hx => ?_, fun x hx e => ?_⟩
  · rcases hx with hx | hx
    · exact Nat.lt_of_lt_of_le (h.dlt x hx) hs
    · exact hx.2
  · rcases hx with hx | hx
    · exact h.dcold x hx (.inr (.inl e))
    · have := (h.own.lt x e).2; omega
/-- Another list, in new memory or where the old one was. -/
theorem GaInv.step (h : GaInv te ti tb tl base bl C W D lv acc gv v kv b) (hg : W.grownBy W2 lv.ownBlock) (ho : Own D TrE W2 base te lv' acc') (hv : lv'.ownBlock = lv.ownBlock ∨ lv'.ownBlock = some W.heap.size) :
    GaRun te ti tb tl base bl W D lv gv v kv b (W2.setCell ⟨bl, 0, none⟩ lv') D lv' acc' := by
  have hs2 := hg.size
  have hbb := Blk.lt h.blk
  have hset := grownBy_set W2 ⟨bl, 0, none⟩ lv'
  have hs3 := hset.size
  have hne : ∀ x, lv'.ownBlock = some x → lv.ownBlock = some x ∨ W.heap.size ≤ x := fun x e => by
    rcases hv with h1 | h1
    · exact .inl (h1 ▸ e)
    · rw [h1] at e; injection e with e; exact .inr (by omega)
  have hbn : ∀ x, lv'.ownBlock = some x → x ≠ bl := fun x e he => by
    subst he
    rcases hne _ e with h1 | h1
    · exact h.n1 h1
    · omega
  have hgk : ∀ x, gv.ownBlock = some x → x ≠ bl := fun x e he => by subst he; exact h.n2 e
  have hkk : ∀ x, kv.ownBlock = some x → x ≠ bl := fun x e he => by subst he; exact h.n3 e
  have only1 : Only (hotG bl lv gv kv) W W2 := grownBy_only hg (fun k e => .inr (.inl e))
  have only2 : Only (hotG bl lv gv kv) W2 (W2.setCell ⟨bl, 0, none⟩ lv') := grownBy_only hset (fun k e => by cases e; exact .inl rfl)
  have kg : W2.ownsRow base ti 1 gv v.length (v.map (Value.int .i64)) := h.og.kept hg (by
    cases hx : gv.ownBlock with
    | none => exact .inl rfl
    | some x => exact .inr fun e => h.n4 x e.symm hx)
  have kb : W2.ownsRow base tb 1 kv b.length (b.map Value.bool) := h.ob.kept hg (by
    cases hx : kv.ownBlock with
    | none => exact .inl rfl
    | some x => exact .inr fun e => h.n5 x e.symm hx)
  refine ⟨only1.trans only2 fun x hx => .inl hx, ?_, ?_, ?_, ?_, hne, fun x hx => .inl hx, fun x hx => by have := h.dlt x hx; omega, fun x hx e => ?_⟩
  · have h1 : Blk W2 bl #[lv] tl := h.blk.grown hg fun e => h.n1 e.symm
    have h2 := Blk.set (i := 0) h1 lv'
    simpa using h2
  · exact ho.agree hset fun k hk => by
      cases hk
      exact ⟨fun d => h.dcold bl d (.inl rfl), fun e => hbn bl e rfl⟩
  · exact kg.kept hset (by
      cases hx : gv.ownBlock with
      | none => exact .inl rfl
      | some x => exact .inr fun e => hgk x hx (by simpa using e))
  · exact kb.kept hset (by
      cases hx : kv.ownBlock with
      | none => exact .inl rfl
      | some x => exact .inr fun e => hkk x hx (by simpa using e))
  · rcases hne x e with h1 | h1
    · exact h.dcold x hx (.inr (.inl h1))
    · have := h.dlt x hx; omega
/-- A guess more. -/
theorem GaInv.pushG (h : GaInv te ti tb tl base bl C W D lv acc gv v kv b) (hg : W.grownBy W1 gv.ownBlock) {x : Int} (og1 : W1.ownsRow base ti 1 gv1 (v.length + 1) (v.map (Value.int .i64) ++ [Value.int .i64 x])) (hp : Pushed W W1 gv gv1 v.length) :
    GaInv te ti tb tl base bl C W1 D lv acc gv1 (v ++ [x]) kv b := by
  have hs := hg.size
  have hd := h.dcold
  have hgl := fun x e => (h.og.lt x e).2
  have hne : ∀ y, gv1.ownBlock = some y → gv.ownBlock = some y ∨ W.heap.size ≤ y := fun y e => by
    rcases hp.own with h1 | h1
    · exact .inl (h1 ▸ e)
    · rw [h1] at e; injection e with e; exact .inr (by omega)
  have hbb := Blk.lt h.blk
  have hll := fun x e => (h.own.lt x e).2
  have hol := fun x e => (h.ob.lt x e).2
  have kv' : W1.ownsRow base tb 1 kv b.length (b.map Value.bool) := h.ob.kept hg (by
    cases hx : kv.ownBlock with
    | none => exact .inl rfl
    | some y => exact .inr fun e => h.n6 y e.symm hx)
  have ko : Own D TrE W1 base te lv acc := h.own.agree hg fun y e => ⟨fun d => hd y d (.inr <| .inr <| .inl e), fun e2 => h.n4 y e2 e⟩
  refine ⟨h.blk.grown hg fun e => h.n2 e.symm, ko, by rw [List.length_append, List.map_append]; exact og1, kv', Nat.le_trans h.bs hs, fun x hx => Nat.lt_of_lt_of_le (h.clt x hx) hs, fun x hx => Nat.lt_of_lt_of_le (h.dlt x hx) hs, fun y hy => ?_, fun y hy => ?_, h.n1, fun e => ?_, h.n3, fun y e1 e2 => ?_, h.n5, fun y e1 e2 => ?_⟩
  · have hc := h.cold y hy
    have hl := h.clt y hy
    rintro (e | e | e | e)
    · exact hc (.inl e)
    · exact hc (.inr (.inl e))
    · rcases hne y e with e | e
      · exact hc (.inr (.inr (.inl e)))
      · omega
    · exact hc (.inr (.inr (.inr e)))
  · have hc := h.dcold y hy
    have hl := h.dlt y hy
    rintro (e | e | e | e)
    · exact hc (.inl e)
    · exact hc (.inr (.inl e))
    · rcases hne y e with e | e
      · exact hc (.inr (.inr (.inl e)))
      · omega
    · exact hc (.inr (.inr (.inr e)))
  · rcases hne _ e with e | e
    · exact h.n2 e
    · omega
  · rcases hne _ e2 with e | e
    · exact h.n4 y e1 e
    · have := hll y e1; omega
  · rcases hne _ e1 with e | e
    · exact h.n6 y e e2
    · have := hol y e2; omega
/-- .. and what was done with it. -/
theorem GaInv.popG (h : GaInv te ti tb tl base bl C W D lv acc gv v kv b) (hg : W.grownBy W1 gv.ownBlock) {x : Int} (hp : Pushed W W1 gv gv1 v.length) (k : GaRun te ti tb tl base bl W1 D lv gv1 (v ++ [x]) kv b W2 D' lv' acc') :
    GaRun te ti tb tl base bl W D lv gv v kv b W2 D' lv' acc' := by
  have hs := hg.size
  have hgl := fun x e => (h.og.lt x e).2
  have hne : ∀ y, gv1.ownBlock = some y → gv.ownBlock = some y ∨ W.heap.size ≤ y := fun y e => by
    rcases hp.own with h1 | h1
    · exact .inl (h1 ▸ e)
    · rw [h1] at e; injection e with e; exact .inr (by omega)
  refine ⟨(grownBy_only (A := hotG bl lv gv kv) hg fun y e => .inr <| .inr <| .inl e).trans k.only fun y hy => ?_, k.blk, k.own, ?_, k.ob, fun y hy => ?_, fun y hy => ?_, k.dlt, k.dnot⟩
  · rcases hy with e | e | e | e
    · exact .inl (.inl e)
    · exact .inl (.inr (.inl e))
    · rcases hne y e with e | e
      · exact .inl (.inr (.inr (.inl e)))
      · exact .inr e
    · exact .inl (.inr (.inr (.inr e)))
  · have k1 := k.og
    rw [List.length_append, List.map_append] at k1
    refine hp.back h.og k1 k.only fun e1 y e2 => ?_
    have hl := hgl y e2
    rintro (e | e | e | e)
    · exact h.n2 (e ▸ e2)
    · exact h.n4 y e e2
    · rw [e1] at e; injection e with e; omega
    · exact h.n6 y e2 e
  · rcases k.vsub y hy with e | e
    · exact .inl e
    · exact .inr (by omega)
  · rcases k.dsub y hy with e | e
    · exact .inl e
    · exact .inr (by omega)
/-- A guess more. -/
theorem GaInv.pushK (h : GaInv te ti tb tl base bl C W D lv acc gv v kv b) (hg : W.grownBy W1 kv.ownBlock) {x : Bool} (og1 : W1.ownsRow base tb 1 kv1 (b.length + 1) (b.map Value.bool ++ [Value.bool x])) (hp : Pushed W W1 kv kv1 b.length) :
    GaInv te ti tb tl base bl C W1 D lv acc gv v kv1 (b ++ [x]) := by
  have hs := hg.size
  have hd := h.dcold
  have hgl := fun x e => (h.ob.lt x e).2
  have hne : ∀ y, kv1.ownBlock = some y → kv.ownBlock = some y ∨ W.heap.size ≤ y := fun y e => by
    rcases hp.own with h1 | h1
    · exact .inl (h1 ▸ e)
    · rw [h1] at e; injection e with e; exact .inr (by omega)
  have hbb := Blk.lt h.blk
  have hll := fun x e => (h.own.lt x e).2
  have hol := fun x e => (h.og.lt x e).2
  have kv' : W1.ownsRow base ti 1 gv v.length (v.map (Value.int .i64)) := h.og.kept hg (by
    cases hx : gv.ownBlock with
    | none => exact .inl rfl
    | some y => exact .inr fun e => h.n6 y hx e.symm)
  have ko : Own D TrE W1 base te lv acc := h.own.agree hg fun y e => ⟨fun d => hd y d (.inr <| .inr <| .inr e), fun e2 => h.n5 y e2 e⟩
  refine ⟨h.blk.grown hg fun e => h.n3 e.symm, ko, kv', by rw [List.length_append, List.map_append]; exact og1, Nat.le_trans h.bs hs, fun x hx => Nat.lt_of_lt_of_le (h.clt x hx) hs, fun x hx => Nat.lt_of_lt_of_le (h.dlt x hx) hs, fun y hy => ?_, fun y hy => ?_, h.n1, h.n2, fun e => ?_, h.n4, fun y e1 e2 => ?_, fun y e1 e2 => ?_⟩
  · have hc := h.cold y hy
    have hl := h.clt y hy
    rintro (e | e | e | e)
    · exact hc (.inl e)
    · exact hc (.inr (.inl e))
    · exact hc (.inr (.inr (.inl e)))
    · rcases hne y e with e | e
      · exact hc (.inr (.inr (.inr e)))
      · omega
  · have hc := h.dcold y hy
    have hl := h.dlt y hy
    rintro (e | e | e | e)
    · exact hc (.inl e)
    · exact hc (.inr (.inl e))
    · exact hc (.inr (.inr (.inl e)))
    · rcases hne y e with e | e
      · exact hc (.inr (.inr (.inr e)))
      · omega
  · rcases hne _ e with e | e
    · exact h.n3 e
    · omega
  · rcases hne _ e2 with e | e
    · exact h.n5 y e1 e
    · have := hll y e1; omega
  · rcases hne _ e2 with e | e
    · exact h.n6 y e1 e
    · have := hol y e1; omega
/-- .. and what was done with it. -/
theorem GaInv.popK (h : GaInv te ti tb tl base bl C W D lv acc gv v kv b) (hg : W.grownBy W1 kv.ownBlock) {x : Bool} (hp : Pushed W W1 kv kv1 b.length) (k : GaRun te ti tb tl base bl W1 D lv gv v kv1 (b ++ [x]) W2 D' lv' acc') :
    GaRun te ti tb tl base bl W D lv gv v kv b W2 D' lv' acc' := by
  have hs := hg.size
  have hgl := fun x e => (h.ob.lt x e).2
  have hne : ∀ y, kv1.ownBlock = some y → kv.ownBlock = some y ∨ W.heap.size ≤ y := fun y e => by
    rcases hp.own with h1 | h1
    · exact .inl (h1 ▸ e)
    · rw [h1] at e; injection e with e; exact .inr (by omega)
  refine ⟨(grownBy_only (A := hotG bl lv gv kv) hg fun y e => .inr <| .inr <| .inr e).trans k.only fun y hy => ?_, k.blk, k.own, k.og, ?_, fun y hy => ?_, fun y hy => ?_, k.dlt, k.dnot⟩
  · rcases hy with e | e | e | e
    · exact .inl (.inl e)
    · exact .inl (.inr (.inl e))
    · exact .inl (.inr (.inr (.inl e)))
    · rcases hne y e with e | e
      · exact .inl (.inr (.inr (.inr e)))
      · exact .inr e
  · have k1 := k.ob
    rw [List.length_append, List.map_append] at k1
    refine hp.back h.ob k1 k.only fun e1 y e2 => ?_
    have hl := hgl y e2
    rintro (e | e | e | e)
    · exact h.n3 (e ▸ e2)
    · exact h.n5 y e e2
    · exact h.n6 y e e2
    · rw [e1] at e; injection e with e; omega
  · rcases k.vsub y hy with e | e
    · exact .inl e
    · exact .inr (by omega)
  · rcases k.dsub y hy with e | e
    · exact .inl e
    · exact .inr (by omega)
end
end Go.Proofs.YtgaannoghefbbaaDoor
