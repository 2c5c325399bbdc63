/- Laws of no program: what is read of an argument that holds slices. -/
import Derived.Test.YtgffeihfcmbobaaBase
import Derived.ProofKit
import Derived.OpenShut
namespace Go.Proofs.Ytgffeihfcmbobaa
open Go.ChangeShapes Go.WideShapes Go.ChangeAt Go.RowKit

/-- What is read at a type lies as the list of cells says. -/
def Opens {α H : Type} (enc : TypeId × Value → H) (P : Program) (W : World) (sp : Nat → Bool) (held : Bool) (t : TypeId) (R : Elem α) : Prop :=
  ∀ (m : Nat) (cs : List Value) (y : DataW H × List MemPlace), DataW.trod enc P W 0 sp held m t cs = some y → ∃ x, R.cs (fun _ => True) W x cs

theorem spot_none {w : World} {a : Addr} {v : Value} (h : w.cell? a = some v) : a.spot = none := by
  unfold World.cell? at h
  split at h
  · split at h
    · cases h
    · rename_i hs; cases hsp : a.spot with
      | none => rfl
      | some s => rw [hsp] at hs; simp at hs
  · cases h

theorem opens_int {H : Type} {enc : TypeId × Value → H} {P : Program} {W : World} {sp : Nat → Bool} {held : Bool} {t : TypeId} (ht : P.underlying t = some (.int .i64)) : Opens enc P W sp held t IntE := by
  intro m cs y h
  obtain ⟨a, e, _, _⟩ := DataW.trod_int ht h
  exact ⟨a, e⟩

theorem opens_slice {α H : Type} {enc : TypeId × Value → H} {P : Program} {W : World} {sp : Nat → Bool} {held : Bool} {t e : TypeId} {R : Elem α} (ht : P.underlying t = some (.slice e)) (hs : P.cellsOf e = R.size) (hE : Opens enc P W sp held e R) :
    Opens enc P W sp held t (SlE R) := by
  intro m cs y h
  rcases DataW.trod_slice ht h with ⟨rfl, _⟩ | ⟨a, len, cap, elems, rest, n, _, rfl, _, _, hlc, _, hlen, hel, _, _⟩
  · exact ⟨[], _, rfl, SlA.nil⟩
  · rw [hs] at hel
    have key : ∀ i, i < len → ∃ x c, R.cs (fun _ => True) W x c ∧ ∀ j u, c[j]? = some u → W.cell? ((a.add (i * R.size)).add j) = some u := by
      intro i hi
      have h1 := hel i hi
      rw [List.getElem?_eq_getElem (by omega)] at h1
      obtain ⟨c, hc, hd⟩ := Option.bind_eq_some_iff.1 h1
      obtain ⟨x, hx⟩ := hE _ _ _ hd
      obtain ⟨_, hcl, hcc⟩ := World.cells?_some hc
      refine ⟨x, c, hx, fun j u hu => ?_⟩
      have hj : j < c.length := by
        rcases Nat.lt_or_ge j c.length with h | h
        · exact h
        · rw [List.getElem?_eq_none h] at hu; cases hu
      rw [hcc j (by omega)]
      exact hu
    refine ⟨(List.finRange len).map fun i => Classical.choose (key i.1 i.2), _, rfl, _, cap, by rw [List.length_map, List.length_finRange], ⟨(fun e => by cases e), by rw [List.length_map, List.length_finRange]; exact hlc⟩, fun hne => ?_⟩
    have hpos : 0 < len := by
      rcases Nat.eq_zero_or_pos len with h0 | h0
      · subst h0; simp at hne
      · exact h0
    have hsp : a.spot = none := by
      obtain ⟨x, c, hx, hc⟩ := key 0 hpos
      have hl := R.len hx
      have hp := R.pos
      have h1 := spot_none (hc 0 c[0] (List.getElem?_eq_getElem (by omega)))
      simpa [Addr.add] using h1
    obtain ⟨b, o, s⟩ := a
    simp only at hsp
    subst hsp
    refine ⟨b, o, rfl, trivial, fun i hi => ?_⟩
    have hi' : i < len := by simpa using hi
    have hk := Classical.choose_spec (key i hi')
    obtain ⟨c, hc1, hc2⟩ := hk
    refine ⟨c, by simpa using hc1, fun j u hu => ?_⟩
    have := hc2 j u hu
    rw [addr_add, addr_add] at this
    exact this
end Go.Proofs.Ytgffeihfcmbobaa
