/- Laws of no program: what is read of an argument that holds slices, with what is known of its elements, and with its sizes. -/
import Derived.Test.YtdealgleehbhlaaDoorRepOpen
import Derived.SizedLaws
namespace Go.Proofs.YtdealgleehbhlaaDoor
open Go.ChangeShapes Go.WideShapes Go.ChangeAt Go.RowKit

/-- An element of which something is known besides. -/
def Elem.also {α : Type} (R : Elem α) (Z : α → Prop) : Elem α where
  size := R.size
  pos := R.pos
  cs := fun A w x c => R.cs A w x c ∧ Z x
  len := fun h => R.len h.1
  one := fun h => R.one h.1
  keep := fun h hw => ⟨R.keep h.1 hw, h.2⟩
  mono := fun hAB h => ⟨R.mono hAB h.1, h.2⟩
  lt := fun h => ⟨R.lt h.1, h.2⟩
theorem SlA.known {α : Type} {A : Nat → Prop} {R : Elem α} {Z : α → Prop} {w : World} {v : Value} {xs : List α} (h : SlA A (R.also Z) w v xs) : SlA A R w v xs ∧ ∀ x ∈ xs, Z x := by
  obtain ⟨p, cap, rfl, h0, h⟩ := h
  refine ⟨⟨p, cap, rfl, h0, fun hne => ?_⟩, fun x hx => ?_⟩
  · obtain ⟨b, o, rfl, hA, h2⟩ := h hne
    refine ⟨b, o, rfl, hA, fun i hi => ?_⟩
    obtain ⟨c, h3, h4⟩ := h2 i hi
    exact ⟨c, h3.1, h4⟩
  · obtain ⟨b, o, _, _, h2⟩ := h (fun e => by subst e; cases hx)
    obtain ⟨i, hi, rfl⟩ := List.getElem_of_mem hx
    obtain ⟨c, h3, _⟩ := h2 i hi
    exact h3.2

def OpensW {α H : Type} (enc : TypeId × Value → H) (P : Program) (W : World) (sp : Nat → Bool) (held : Bool) (t : TypeId) (R : Elem α) : Prop :=
  ∀ (m : Nat) (cs : List Value) (y : DataW H × List MemPlace), DataW.trod enc P W 0 sp held m t cs = some y → (y.1.weights P t).all (· ≤ reachBytes) = true → ∃ x, R.cs (fun _ => True) W x cs
theorem opensW_int {H : Type} {enc : TypeId × Value → H} {P : Program} {W : World} {sp : Nat → Bool} {held : Bool} {t : TypeId} (ht : P.underlying t = some (.int .i64)) : OpensW enc P W sp held t IntE :=
  fun m cs y h _ => opens_int ht m cs y h

theorem weightsAll_of {H : Type} {P : Program} {e : TypeId} : ∀ {l : List (DataW H)} {d : DataW H}, d ∈ l → ∀ n ∈ d.weights P e, n ∈ DataW.weightsAll P e l
  | d' :: r, d, hd, n, hn => by
    simp only [DataW.weightsAll, List.mem_append]
    rcases List.mem_cons.1 hd with rfl | h
    · exact Or.inl hn
    · exact Or.inr (weightsAll_of h n hn)

theorem opensW_slice {α H : Type} {enc : TypeId × Value → H} {P : Program} {W : World} {sp : Nat → Bool} {held : Bool} {t e : TypeId} {R : Elem α} {n : Nat} (ht : P.underlying t = some (.slice e)) (hs : P.cellsOf e = R.size) (hn : P.bytesOf e = n) (hE : OpensW enc P W sp held e R) :
    OpensW enc P W sp held t ((SlE R).also fun xs => xs.length * n ≤ reachBytes) := by
  intro m cs y h hw
  rcases DataW.trod_slice ht h with ⟨rfl, _⟩ | ⟨a, len, cap, elems, rest, n', _, rfl, rfl, _, hlc, _, hlen, hel, _, _⟩
  · exact ⟨[], ⟨_, rfl, SlA.nil⟩, by simp⟩
  · rw [hs] at hel
    simp only [DataW.weights, ht, List.all_cons, Bool.and_eq_true, decide_eq_true_eq, List.all_append, hn, List.length_map] at hw
    obtain ⟨hw1, hw2, _⟩ := hw
    have key : ∀ i, i < len → ∃ x c, R.cs (fun _ => True) W x c ∧ ∀ j u, c[j]? = some u → W.cell? ((a.add (i * R.size)).add j) = some u := by
      intro i hi
      have h1 := hel i hi
      rw [List.getElem?_eq_getElem (by omega)] at h1
      obtain ⟨c, hc, hd⟩ := Option.bind_eq_some_iff.1 h1
      obtain ⟨x, hx⟩ := hE _ _ _ hd (List.all_eq_true.2 fun k hk => List.all_eq_true.1 hw2 k (weightsAll_of (List.mem_map.2 ⟨_, List.getElem_mem (by omega), rfl⟩) k hk))
      obtain ⟨_, hcl, hcc⟩ := World.cells?_some hc
      refine ⟨x, c, hx, fun j u hu => ?_⟩
      have hj : j < c.length := by
        rcases Nat.lt_or_ge j c.length with h | h
        · exact h
        · rw [List.getElem?_eq_none h] at hu; cases hu
      rw [hcc j (by omega)]
      exact hu
    refine ⟨(List.finRange len).map fun i => Classical.choose (key i.1 i.2), ⟨_, rfl, _, cap, by rw [List.length_map, List.length_finRange], ⟨(fun e => by cases e), by rw [List.length_map, List.length_finRange]; exact hlc⟩, fun hne => ?_⟩, ?_⟩
    · have hpos : 0 < len := by
        rcases Nat.eq_zero_or_pos len with h0 | h0
        · subst h0; simp at hne
        · exact h0
      have hsp : a.spot = none := by
        obtain ⟨x, c, hx, hc⟩ := key 0 hpos
        have hl := R.len hx
        have hp := R.pos
        have h1 := spot_none (hc 0 c[0] (List.getElem?_eq_getElem (by omega)))
        simpa [Addr.add] using h1
      obtain ⟨b, o, s⟩ := a
      simp only at hsp
      subst hsp
      refine ⟨b, o, rfl, trivial, fun i hi => ?_⟩
      have hi' : i < len := by simpa using hi
      have hk := Classical.choose_spec (key i hi')
      obtain ⟨c, hc1, hc2⟩ := hk
      refine ⟨c, by simpa using hc1, fun j u hu => ?_⟩
      have := hc2 j u hu
      rw [addr_add, addr_add] at this
      exact this
    · show ((List.finRange len).map _).length * n ≤ reachBytes
      rw [List.length_map, List.length_finRange]
      refine Nat.le_trans (Nat.mul_le_mul_right n ?_) hw1
      omega
end Go.Proofs.YtdealgleehbhlaaDoor
