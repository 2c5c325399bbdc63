/- The law of append at long slices: the bound is on the bytes. No program. -/
import Derived.Test.YtgffeihfcmbobaaBase
namespace Go.Proofs.Ytgffeihfcmbobaa
open Go.RowKit

section
variable {α : Type} {R : Elem α} {A B : Nat → Prop} {P : Program} {w : World} {xs ys : List α}

/-- THE LAW OF append, run. -/
theorem run_appB (t ty e : TypeId) (i : TypeInfo) (z : Value) (bytes : Nat) (ht : P.underlying t = some (.slice e)) (hi : P.info? e = some i) (hz : i.zero = some z) (hsize : i.size = R.size) (hby : i.bytes = bytes) (hzs : z.cells.size = R.size)
    (base : Nat) (v u : Value) (hown : Own A R w base e v xs) (hu : SlA B R w u ys) (hB : ∀ y ∈ ys, ∀ c, R.cs B w y c → R.cs (fun b => A b ∧ some b ≠ v.ownBlock) w y c)
    (h63 : xs.length + ys.length ≤ maxLen) (hbb : (xs.length + ys.length) * bytes ≤ 140737488355328) (hbase : base ≤ w.heap.size) :
    ∃ p cap w', (Builtin.append_ #[t, t] ty #[v, u]).run P w = .ok (.slice p (xs ++ ys).length cap) w' ∧ Own A R w' base e (.slice p (xs ++ ys).length cap) (xs ++ ys) ∧ w.grownBy w' v.ownBlock ∧
      ((Value.slice p (xs ++ ys).length cap).ownBlock = v.ownBlock ∨ (Value.slice p (xs ++ ys).length cap).ownBlock = some w.heap.size) := by
  obtain ⟨pu, cu, dd, rfl, hn, hdl, hd, hdc⟩ := hu.cells
  obtain ⟨cc, h1, h2, h3⟩ := hown
  cases pu with
  | none =>
    obtain ⟨rfl, rfl⟩ := hn rfl
    obtain ⟨p, cap, rfl⟩ := (show Own A R w base e v xs from ⟨cc, h1, h2, h3⟩).len
    refine ⟨p, cap, w, ?_, ?_, ⟨rfl, rfl, rfl, Nat.le_refl _, fun _ _ _ => rfl⟩, .inl (by simp)⟩
    · simp only [List.length_nil, List.append_nil]
      exact run_append_owned_none (P := P) (w := w) base t ty e i R.size ht hi _ _ _ h1
    · simp only [List.append_nil]
      exact ⟨cc, h1, h2, h3⟩
  | some ad =>
    have hl : dd.flatten.length = ys.length * R.size := by
      have hlen := Own.lens hd hdl
      rw [← hdl]
      clear hd hdl hdc hB hu hn h63
      induction dd with
      | nil => simp
      | cons c cc ih => simp only [List.flatten_cons, List.length_append, List.length_cons]; rw [hlen c (by simp), ih (fun c hc => hlen c (by simp [hc])), Nat.add_mul]; omega
    obtain ⟨v', w', hr, h4, h5, _, h7⟩ := run_append_own_at (P := P) w base t ty e i z R.size bytes ht hi hz hsize hby hzs R.pos v xs.length cc.flatten h1 ad ys.length cu dd.flatten hl (hdc ad rfl) (Own.ones hd hdl) h63 hbb hbase
    have hlt := h1.lt
    have h4' : w'.ownsRow base e R.size v' (xs ++ ys).length (cc ++ dd).flatten := by rw [List.length_append, List.flatten_append]; exact h4
    have hown' : Own A R w' base e v' (xs ++ ys) := by
      refine ⟨cc ++ dd, h4', by simp [h2, hdl], fun k hk hk' => ?_⟩
      have hfix : ∀ x c, R.cs (fun b => A b ∧ some b ≠ v.ownBlock) w x c → R.cs (fun b => A b ∧ some b ≠ v'.ownBlock) w' x c := fun x c hx => by
        have a1 := R.keep (R.lt hx) (grownBy_agree h5 fun b hb => hb.1.2)
        refine R.mono (fun b hb => ⟨hb.1.1, ?_⟩) a1
        rcases h7 with h7 | h7
        · rw [h7]; exact hb.1.2
        · rw [h7]; intro e; injection e with e; omega
      by_cases hx : k < xs.length
      · rw [List.getElem_append_left hx, List.getElem_append_left (by omega)]
        exact hfix _ _ (h3 k hx (by omega))
      · rw [List.getElem_append_right (by omega), List.getElem_append_right (by omega)]
        have e : k - cc.length = k - xs.length := by omega
        simp only [e]
        have hy : k - xs.length < ys.length := by simp at hk; omega
        exact hfix _ _ (hB _ (List.getElem_mem hy) _ (hd _ hy (by omega)))
    obtain ⟨p, cap, rfl⟩ := hown'.len
    exact ⟨p, cap, w', hr, hown', h5, h7⟩

/-- At an operation of a region. -/
theorem wpList_appB {ops : Array Oper} {rest : List Oper} {o : Oper} {a : Act} {Q : Exit → Act → World → Prop} (hgd : o.guard = none) (s x : Operand) (t e : TypeId) (i : TypeInfo) (z : Value) (bytes : Nat)
    (ho : o.op = .call { callee := .builtin .append, args := #[s, x], argTypes := #[t, t] })
    (ht : P.underlying t = some (.slice e)) (hi : P.info? e = some i) (hz : i.zero = some z) (hsize : i.size = R.size) (hby : i.bytes = bytes) (hzs : z.cells.size = R.size)
    (base : Nat) (v u : Value) (hs : a.eval s = v) (hx : a.eval x = u) (hown : Own A R w base e v xs) (hu : SlA B R w u ys) (hB : ∀ y ∈ ys, ∀ c, R.cs B w y c → R.cs (fun b => A b ∧ some b ≠ v.ownBlock) w y c)
    (h63 : xs.length + ys.length ≤ maxLen) (hbb : (xs.length + ys.length) * bytes ≤ 140737488355328) (hbase : base ≤ w.heap.size)
    (h : ∀ p cap w', Own A R w' base e (.slice p (xs ++ ys).length cap) (xs ++ ys) → w.grownBy w' v.ownBlock → ((Value.slice p (xs ++ ys).length cap).ownBlock = v.ownBlock ∨ (Value.slice p (xs ++ ys).length cap).ownBlock = some w.heap.size) → wpList P ops Q rest (a.put o.dst (.slice p (xs ++ ys).length cap)) w') : wpList P ops Q (o :: rest) a w := by
  refine wpList_plain hgd fun K hK => ?_
  obtain ⟨p, cap, w', hr, h2, h3, h4⟩ := run_appB (P := P) t o.type e i z bytes ht hi hz hsize hby hzs base v u hown hu hB h63 hbb hbase
  unfold Oper.wp execOp
  simp only [ho, resolve, invoke, builtin, Sem.run_bind, Sem.run_pure, Result.andThen_ok, List.map_toArray, List.map_cons, List.map_nil, hs, hx, hr]
  exact hK _ _ (h p cap w' h2 h3 h4)
end
end Go.Proofs.Ytgffeihfcmbobaa
