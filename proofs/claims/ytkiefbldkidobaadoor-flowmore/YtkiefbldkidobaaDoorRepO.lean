/- Laws of no program: an append of slices whose own row may lie anywhere. -/
import Derived.Test.YtkiefbldkidobaaDoorRep
namespace Go.Proofs.YtkiefbldkidobaaDoor
open Go.RowKit

/-- A slice that reads as a list; what its elements point to lies in blocks of A. -/
def SlO {α : Type} (A : Nat → Prop) (R : Elem α) (w : World) (v : Value) (xs : List α) : Prop :=
  ∃ p cap, v = .slice p xs.length cap ∧ ((p = none → cap = 0) ∧ xs.length ≤ cap) ∧ (xs ≠ [] → ∃ b o, p = some ⟨b, o, none⟩ ∧ ∀ i (h : i < xs.length), ∃ c, R.cs A w xs[i] c ∧ ∀ j u, c[j]? = some u → w.cell? ⟨b, o + i * R.size + j, none⟩ = some u)
theorem SlA.o {α : Type} {A : Nat → Prop} {R : Elem α} {w : World} {v : Value} {xs : List α} (h : SlA A R w v xs) : SlO A R w v xs := by
  obtain ⟨p, cap, rfl, h0, h⟩ := h
  refine ⟨p, cap, rfl, h0, fun hne => ?_⟩
  obtain ⟨b, o, rfl, _, h2⟩ := h hne
  exact ⟨b, o, rfl, h2⟩
theorem SlO.mono {α : Type} {A B : Nat → Prop} {R : Elem α} {w : World} {v : Value} {xs : List α} (hAB : ∀ b, A b → B b) (h : SlO A R w v xs) : SlO B R w v xs := by
  obtain ⟨p, cap, rfl, h0, h⟩ := h
  refine ⟨p, cap, rfl, h0, fun hne => ?_⟩
  obtain ⟨b, o, rfl, h2⟩ := h hne
  refine ⟨b, o, rfl, fun i hi => ?_⟩
  obtain ⟨c, h3, h4⟩ := h2 i hi
  exact ⟨c, R.mono hAB h3, h4⟩
/-- One slice, in a block. -/
theorem slO_one {α : Type} {R : Elem α} {A : Nat → Prop} {w : World} {b c : Nat} {v : Value} {l : List α} (h : w.cell? ⟨b, 0, none⟩ = some v) (hv : SlA A R w v l) (hc : 1 ≤ c) : SlO A (SlE R) w (.slice (some ⟨b, 0, none⟩) 1 c) [l] := by
  refine ⟨_, c, rfl, ⟨(fun e => by cases e), hc⟩, fun _ => ⟨b, 0, rfl, fun i hi => ⟨[v], ?_, fun j u hu => ?_⟩⟩⟩
  · have : i = 0 := by simp at hi; omega
    subst this
    exact ⟨v, rfl, hv⟩
  · have : i = 0 := by simp at hi; omega
    subst this
    match j, hu with
    | 0, hu => simp at hu; subst hu; simpa using h
    | j + 1, hu => simp at hu

section
variable {α : Type} {R : Elem α} {A B : Nat → Prop} {w w' : World} {v : Value} {xs ys : List α} {base : Nat} {e : TypeId}
/-- A slice, as cells to be appended. -/
theorem SlO.cells (h : SlO B R w v ys) : ∃ (p : Option Addr) (cap : Nat) (cc : List (List Value)), v = .slice p ys.length cap ∧ (p = none → cap = 0 ∧ ys = []) ∧ cc.length = ys.length ∧ (∀ i (h : i < ys.length) (h' : i < cc.length), R.cs B w ys[i] cc[i]) ∧
    ∀ ad, p = some ad → ∀ j u, cc.flatten[j]? = some u → w.cell? (ad.add j) = some u := by
  obtain ⟨p, cap, rfl, h0, h⟩ := h
  by_cases hy : ys = []
  · subst hy
    exact ⟨p, cap, [], rfl, fun hp => ⟨h0.1 hp, rfl⟩, rfl, fun i h => by simp at h, fun ad _ j u hu => by simp at hu⟩
  · obtain ⟨b, o, rfl, hh⟩ := h hy
    have : ∃ cc : List (List Value), cc.length = ys.length ∧ ∀ i (h : i < ys.length) (h' : i < cc.length), R.cs B w ys[i] cc[i] ∧ ∀ j u, cc[i][j]? = some u → w.cell? ⟨b, o + i * R.size + j, none⟩ = some u := by
      refine ⟨(List.finRange ys.length).map fun i => Classical.choose (hh i.1 i.2), by simp, fun i hi hi' => ?_⟩
      simp only [List.getElem_map, List.getElem_finRange]
      exact Classical.choose_spec (hh i hi)
    obtain ⟨cc, hl, hc⟩ := this
    refine ⟨_, cap, cc, rfl, (fun hp => by cases hp), hl, fun i h h' => (hc i h h').1, fun ad had j u hu => ?_⟩
    cases had
    have hlen : ∀ c ∈ cc, c.length = R.size := Own.lens (fun i h h' => (hc i h h').1) hl
    have hp := R.pos
    have hj : j < cc.flatten.length := by
      rcases Nat.lt_or_ge j cc.flatten.length with h | h
      · exact h
      · simp [List.getElem?_eq_none h] at hu
    have hfl : cc.flatten.length = cc.length * R.size := by
      clear hj hu hc hl
      induction cc with
      | nil => simp
      | cons c cc ih => simp only [List.flatten_cons, List.length_append, List.length_cons]; rw [hlen c (by simp), ih (fun c hc => hlen c (by simp [hc])), Nat.add_mul]; omega
    have hi : j / R.size < cc.length := by rw [Nat.div_lt_iff_lt_mul hp]; omega
    have hm : j % R.size < R.size := Nat.mod_lt _ hp
    have hcm : (cc[j / R.size])[j % R.size]? = some ((cc[j / R.size])[j % R.size]'(by rw [hlen _ (List.getElem_mem hi)]; exact hm)) := List.getElem?_eq_getElem _
    have e := flat_at hlen hi hcm
    have ej : j / R.size * R.size + j % R.size = j := by rw [Nat.mul_comm]; exact Nat.div_add_mod j R.size
    rw [ej, hu] at e
    have := (hc _ (by omega) hi).2 _ _ hcm
    rw [addr_add, ← (Option.some.inj e)] at *
    rw [← this]
    congr 2
    omega
end


section
variable {α : Type} {R : Elem α} {A : Nat → Prop} {P : Program} {w : World} {xs ys : List α}

/-- THE LAW OF append, run. -/
theorem run_appO (t ty e : TypeId) (i : TypeInfo) (z : Value) (bytes : Nat) (ht : P.underlying t = some (.slice e)) (hi : P.info? e = some i) (hz : i.zero = some z) (hsize : i.size = R.size) (hby : i.bytes = bytes) (hzs : z.cells.size = R.size)
    (base : Nat) (v u : Value) (hown : Own A R w base e v xs) (hu : SlO (fun b => A b ∧ some b ≠ v.ownBlock) R w u ys)
    (h63 : xs.length + ys.length ≤ 100000000) (hbytes : bytes ≤ 1000000) (hbase : base ≤ w.heap.size) :
    ∃ p cap w', (Builtin.append_ #[t, t] ty #[v, u]).run P w = .ok (.slice p (xs ++ ys).length cap) w' ∧ Own A R w' base e (.slice p (xs ++ ys).length cap) (xs ++ ys) ∧ w.grownBy w' v.ownBlock ∧
      ((Value.slice p (xs ++ ys).length cap).ownBlock = v.ownBlock ∨ (Value.slice p (xs ++ ys).length cap).ownBlock = some w.heap.size) := by
  obtain ⟨pu, cu, dd, rfl, hn, hdl, hd, hdc⟩ := hu.cells
  obtain ⟨cc, h1, h2, h3⟩ := hown
  cases pu with
  | none =>
    obtain ⟨rfl, rfl⟩ := hn rfl
    obtain ⟨p, cap, rfl⟩ := (show Own A R w base e v xs from ⟨cc, h1, h2, h3⟩).len
    refine ⟨p, cap, w, ?_, ?_, ⟨rfl, rfl, rfl, Nat.le_refl _, fun _ _ _ => rfl⟩, .inl (by simp)⟩
    · simp only [List.length_nil, List.append_nil]
      exact run_append_owned_none (P := P) (w := w) base t ty e i R.size ht hi _ _ _ h1
    · simp only [List.append_nil]
      exact ⟨cc, h1, h2, h3⟩
  | some ad =>
    have hl : dd.flatten.length = ys.length * R.size := by
      have hlen := Own.lens hd hdl
      rw [← hdl]
      clear hd hdl hdc hu hn h63
      induction dd with
      | nil => simp
      | cons c cc ih => simp only [List.flatten_cons, List.length_append, List.length_cons]; rw [hlen c (by simp), ih (fun c hc => hlen c (by simp [hc])), Nat.add_mul]; omega
    have hbb : (xs.length + ys.length) * bytes ≤ 140737488355328 := Nat.le_trans (Nat.mul_le_mul h63 hbytes) (by decide)
    obtain ⟨v', w', hr, h4, h5, _, h7⟩ := run_append_own_at (P := P) w base t ty e i z R.size bytes ht hi hz hsize hby hzs R.pos v xs.length cc.flatten h1 ad ys.length cu dd.flatten hl (hdc ad rfl) (Own.ones hd hdl) (by unfold maxLen; omega) hbb hbase
    have hlt := h1.lt
    have h4' : w'.ownsRow base e R.size v' (xs ++ ys).length (cc ++ dd).flatten := by rw [List.length_append, List.flatten_append]; exact h4
    have hown' : Own A R w' base e v' (xs ++ ys) := by
      refine ⟨cc ++ dd, h4', by simp [h2, hdl], fun k hk hk' => ?_⟩
      have hfix : ∀ x c, R.cs (fun b => A b ∧ some b ≠ v.ownBlock) w x c → R.cs (fun b => A b ∧ some b ≠ v'.ownBlock) w' x c := fun x c hx => by
        have a1 := R.keep (R.lt hx) (grownBy_agree h5 fun b hb => hb.1.2)
        refine R.mono (fun b hb => ⟨hb.1.1, ?_⟩) a1
        rcases h7 with h7 | h7
        · rw [h7]; exact hb.1.2
        · rw [h7]; intro e; injection e with e; omega
      by_cases hx : k < xs.length
      · rw [List.getElem_append_left hx, List.getElem_append_left (by omega)]
        exact hfix _ _ (h3 k hx (by omega))
      · rw [List.getElem_append_right (by omega), List.getElem_append_right (by omega)]
        have e : k - cc.length = k - xs.length := by omega
        simp only [e]
        have hy : k - xs.length < ys.length := by simp at hk; omega
        exact hfix _ _ (hd _ hy (by omega))
    obtain ⟨p, cap, rfl⟩ := hown'.len
    exact ⟨p, cap, w', hr, hown', h5, h7⟩

/-- At an operation of a region. -/
theorem wpList_appO {ops : Array Oper} {rest : List Oper} {o : Oper} {a : Act} {Q : Exit → Act → World → Prop} (hgd : o.guard = none) (s x : Operand) (t e : TypeId) (i : TypeInfo) (z : Value) (bytes : Nat)
    (ho : o.op = .call { callee := .builtin .append, args := #[s, x], argTypes := #[t, t] })
    (ht : P.underlying t = some (.slice e)) (hi : P.info? e = some i) (hz : i.zero = some z) (hsize : i.size = R.size) (hby : i.bytes = bytes) (hzs : z.cells.size = R.size)
    (base : Nat) (v u : Value) (hs : a.eval s = v) (hx : a.eval x = u) (hown : Own A R w base e v xs) (hu : SlO (fun b => A b ∧ some b ≠ v.ownBlock) R w u ys)
    (h63 : xs.length + ys.length ≤ 100000000) (hbytes : bytes ≤ 1000000) (hbase : base ≤ w.heap.size)
    (h : ∀ p cap w', Own A R w' base e (.slice p (xs ++ ys).length cap) (xs ++ ys) → w.grownBy w' v.ownBlock → ((Value.slice p (xs ++ ys).length cap).ownBlock = v.ownBlock ∨ (Value.slice p (xs ++ ys).length cap).ownBlock = some w.heap.size) → wpList P ops Q rest (a.put o.dst (.slice p (xs ++ ys).length cap)) w') : wpList P ops Q (o :: rest) a w := by
  refine wpList_plain hgd fun K hK => ?_
  obtain ⟨p, cap, w', hr, h2, h3, h4⟩ := run_appO (P := P) t o.type e i z bytes ht hi hz hsize hby hzs base v u hown hu h63 hbytes hbase
  unfold Oper.wp execOp
  simp only [ho, resolve, invoke, builtin, Sem.run_bind, Sem.run_pure, Result.andThen_ok, List.map_toArray, List.map_cons, List.map_nil, hs, hx, hr]
  exact hK _ _ (h p cap w' h2 h3 h4)
end

end Go.Proofs.YtkiefbldkidobaaDoor
