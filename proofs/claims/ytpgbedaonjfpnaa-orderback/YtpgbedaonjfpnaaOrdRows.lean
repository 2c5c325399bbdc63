/- Laws of no program: slices of rows, each in memory of its own. -/
import Derived.Test.YtpgbedaonjfpnaaOrdRange
import Derived.Test.YtpgbedaonjfpnaaRepB
namespace Go.Proofs.Ytpgbedaonjfpnaa
open Go.RowKit Go.Shelf

/-- A row as an element: its block is one of A. -/
def RowE (e : TypeId) : Elem (List Nat × Nat) where
  size := 1
  pos := Nat.one_pos
  cs := fun A w x c => ∃ v, c = [v] ∧ RowV e w v x ∧ (v.ownBlock = some x.2 → A x.2)
  len := by rintro A w x c ⟨v, rfl, _⟩; rfl
  one := by
    rintro A w x c ⟨v, rfl, h, _⟩ u hu
    simp at hu
    subst hu
    obtain ⟨p, c, rfl⟩ := h.1.len
    rfl
  keep := by
    rintro A w w' x c ⟨v, rfl, ⟨h1, h2⟩, h3⟩ hw
    refine ⟨v, rfl, ⟨?_, h2⟩, h3⟩
    obtain ⟨a, b⟩ := h1
    refine ⟨a, ?_⟩
    rcases b with b | ⟨g, cap, cur, rfl, hb, hg, r⟩
    · exact .inl b
    · refine .inr ⟨g, cap, cur, rfl, hb, ?_, r⟩
      rcases h2 with h2 | ⟨h2, _⟩
      · have e2 : g = x.2 := by simpa [Value.ownBlock] using h2
        subst e2
        rw [hw _ (h3 h2) (Array.getElem?_eq_some_iff.1 hg).1]; exact hg
      · simp at h2
  mono := by rintro A B w x c hAB ⟨v, rfl, h, h3⟩; exact ⟨v, rfl, h, fun e => hAB _ (h3 e)⟩
  lt := by
    rintro A w x c ⟨v, rfl, h, h3⟩
    exact ⟨v, rfl, h, fun e => ⟨h3 e, (h.1.lt _ e).2⟩⟩

theorem Own.only {α : Type} {R : Elem α} {A B : Nat → Prop} {w w' : World} {base : Nat} {e : TypeId} {v : Value} {xs : List α} (h : Own A R w base e v xs) (ho : Only B w w') (hA : ∀ b, A b → ¬ B b) (hv : ∀ b, v.ownBlock = some b → ¬ B b) : Own A R w' base e v xs := by
  obtain ⟨cc, h1, h2, h3⟩ := h
  refine ⟨cc, ?_, h2, fun i hi hi' => R.keep (h3 i hi hi') (ho.agree fun b hb => hA b hb.1)⟩
  obtain ⟨h4, h5⟩ := h1
  refine ⟨h4, ?_⟩
  rcases h5 with h5 | ⟨g, cap, cur, rfl, hb, hg, h6⟩
  · exact .inl h5
  · exact .inr ⟨g, cap, cur, rfl, hb, by rw [ho.block g (Array.getElem?_eq_some_iff.1 hg).1 (hv g rfl)]; exact hg, h6⟩
theorem Own.mono {α : Type} {R : Elem α} {A B : Nat → Prop} {w : World} {base : Nat} {e : TypeId} {v : Value} {xs : List α} (h : Own A R w base e v xs) (hA : ∀ b, A b → B b) : Own B R w base e v xs := by
  obtain ⟨cc, h1, h2, h3⟩ := h
  exact ⟨cc, h1, h2, fun i hi hi' => R.mono (fun b hb => ⟨hA b hb.1, hb.2⟩) (h3 i hi hi')⟩

section
variable {α : Type} {R : Elem α} {A B : Nat → Prop} {P : Program} {w : World} {xs ys : List α} {F : Fence} {nF : Nat}
/-- append at an operation of a region, in a round. -/
theorem wpListIn_appB {ops : Array Oper} {rest : List Oper} {o : Oper} {a : Act} {Q : Exit → Act → World → Prop} (hgd : o.guard = none) (s x : Operand) (t e : TypeId) (i : TypeInfo) (z : Value) (bytes : Nat)
    (ho : o.op = .call { callee := .builtin .append, args := #[s, x], argTypes := #[t, t] })
    (ht : P.underlying t = some (.slice e)) (hi : P.info? e = some i) (hz : i.zero = some z) (hsize : i.size = R.size) (hby : i.bytes = bytes) (hzs : z.cells.size = R.size)
    (base : Nat) (v u : Value) (hs : a.eval s = v) (hx : a.eval x = u) (hown : Own A R w base e v xs) (hu : SlA B R w u ys) (hB : ∀ y ∈ ys, ∀ c, R.cs B w y c → R.cs (fun b => A b ∧ some b ≠ v.ownBlock) w y c)
    (h63 : xs.length + ys.length ≤ maxLen) (hbb : (xs.length + ys.length) * bytes ≤ 140737488355328) (hbase : base ≤ w.heap.size)
    (h : ∀ p cap w', Own A R w' base e (.slice p (xs ++ ys).length cap) (xs ++ ys) → w.grownBy w' v.ownBlock → ((Value.slice p (xs ++ ys).length cap).ownBlock = v.ownBlock ∨ (Value.slice p (xs ++ ys).length cap).ownBlock = some w.heap.size) → wpListIn F nF P ops Q rest (a.put o.dst (.slice p (xs ++ ys).length cap)) w') : wpListIn F nF P ops Q (o :: rest) a w := by
  refine wpListIn_plain hgd fun K hK => ?_
  obtain ⟨p, cap, w', hr, h2, h3, h4⟩ := run_appB (P := P) t o.type e i z bytes ht hi hz hsize hby hzs base v u hown hu hB h63 hbb hbase
  unfold Oper.wpIn
  refine ⟨by simp [Oper.about, ho, resolve, Target.leads, Sem.run_pure], ?_⟩
  rw [Oper.semAt_plain F _ _ (by rw [ho]; intro c hc'; cases hc')]
  simp only [execOp, ho, resolve, invoke, builtin, Sem.run_bind, Sem.run_pure, Result.andThen_ok, List.map_toArray, List.map_cons, List.map_nil, hs, hx, hr]
  exact hK _ _ (h p cap w' h2 h3 h4)
end
end Go.Proofs.Ytpgbedaonjfpnaa
