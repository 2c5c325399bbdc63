/- FlowM, RepOpen: what is used of them. -/
import Derived.Test.YtcalinfdckklfaaGreatDoorPk5
import Derived.Test.YtcalinfdckklfaaGreatDoorPk1
import Derived.ProofKit
import Derived.OpenShut
namespace Go.Proofs.YtcalinfdckklfaaGreatDoor
open Go.RowKit

/-- A step adds events alone, and takes more, or as much. -/
theorem step_grows (locs : Int) (vals : List Int) (lucks : List Bool) (x : Ins) (s : St) : s.evs <+: (s.step locs vals lucks x).evs ∧ s.vals ≤ (s.step locs vals lucks x).vals ∧ s.lucks ≤ (s.step locs vals lucks x).lucks := by
  unfold St.step
  repeat' split
  all_goals first
    | exact ⟨List.prefix_rfl, Nat.le_refl _, Nat.le_refl _⟩
    | exact ⟨List.prefix_rfl, Nat.le_refl _, Nat.le_succ _⟩
    | exact ⟨List.prefix_append _ _, Nat.le_refl _, Nat.le_refl _⟩
    | exact ⟨List.prefix_append _ _, Nat.le_refl _, Nat.le_succ _⟩
    | (unfold St.load; simp only []; split <;> exact ⟨List.prefix_append _ _, Nat.le_succ _, Nat.le_refl _⟩)
theorem run_grows (th : List Ins) (locs : Int) (vals : List Int) (lucks : List Bool) : ∀ (n : Nat) (s : St), s.evs <+: (St.run th locs vals lucks n s).evs ∧ s.vals ≤ (St.run th locs vals lucks n s).vals ∧ s.lucks ≤ (St.run th locs vals lucks n s).lucks
  | 0, s => ⟨List.prefix_rfl, Nat.le_refl _, Nat.le_refl _⟩
  | n + 1, s => by
    unfold St.run
    split
    · split
      · rename_i x _
        obtain ⟨a, b, c⟩ := run_grows th locs vals lucks n (s.inc.step locs vals lucks x)
        obtain ⟨a', b', c'⟩ := step_grows locs vals lucks x s.inc
        exact ⟨List.IsPrefix.trans a' a, Nat.le_trans b' b, Nat.le_trans c' c⟩
      · exact ⟨List.prefix_rfl, Nat.le_refl _, Nat.le_refl _⟩
    · exact ⟨List.prefix_rfl, Nat.le_refl _, Nat.le_refl _⟩
theorem run_doneN {th : List Ins} {locs : Int} {vals : List Int} {lucks : List Bool} {s : St} (h : s.more ≠ 0) : ∀ n, St.run th locs vals lucks n s = s
  | 0 => rfl
  | n + 1 => by unfold St.run; rw [if_neg h]

/-- An invariant of steps holds of what Run tells. -/
theorem runT_ind {th : List Ins} {locs : Int} {vals : List Int} {lucks : List Bool} (P : St → Prop) (h0 : P .zero)
    (hs : ∀ s x, mayT th locs = true → th[s.next]? = some x → s.more = 0 → StOk th.length vals lucks s → InsOk locs (th.length - 1 - s.next) x → P s → P (s.inc.step locs vals lucks x)) : P (runT th locs vals lucks) := by
  unfold runT
  split
  · rename_i hm
    have hm' := hm
    unfold mayT at hm'
    simp only [Bool.and_eq_true, decide_eq_true_eq] at hm'
    have key : ∀ n s, StOk th.length vals lucks s → P s → P (St.run th locs vals lucks n s) := by
      intro n
      induction n with
      | zero => intro s _ h; exact h
      | succ n ih =>
        intro s hok h
        unfold St.run
        split
        · rename_i hz
          split
          · rename_i x hx
            have hlt : s.next < th.length := (List.getElem?_eq_some_iff.1 hx).1
            have hi := mayF_at hm'.2 _ _ hx
            refine ih _ ((hok.inc hlt).step ?_) (hs s x hm hx hz hok hi h)
            rw [show th.length - s.inc.next = th.length - 1 - s.next by simp only [St.inc]; omega]
            exact hi
          · exact h
        · exact h
    exact key _ _ (stOk_zero _ _ _) h0
  · exact h0
theorem runT_ok (th : List Ins) (locs : Int) (vals : List Int) (lucks : List Bool) : StOk th.length vals lucks (runT th locs vals lucks) ∧ (runT th locs vals lucks).evs.length ≤ 8 := by
  unfold runT
  split
  · rename_i hm
    unfold mayT at hm
    simp only [Bool.and_eq_true, decide_eq_true_eq] at hm
    have key : ∀ n s, StOk th.length vals lucks s → StOk th.length vals lucks (St.run th locs vals lucks n s) := by
      intro n
      induction n with
      | zero => intro s h; exact h
      | succ n ih =>
        intro s h
        unfold St.run
        split
        · split
          · rename_i x hx
            have hlt : s.next < th.length := (List.getElem?_eq_some_iff.1 hx).1
            refine ih _ ((h.inc hlt).step ?_)
            rw [show th.length - s.inc.next = th.length - 1 - s.next by simp only [St.inc]; omega]
            exact mayF_at hm.2 _ _ hx
          · exact h
        · exact h
    have h := key th.length _ (stOk_zero th.length vals lucks)
    exact ⟨h, by have := h.ev; have := h.nx; have := hm.1.1; omega⟩
  · exact ⟨stOk_zero _ _ _, by simp [St.zero]⟩
end Go.Proofs.YtcalinfdckklfaaGreatDoor

namespace Go.Proofs.YtcalinfdckklfaaGreatDoor
open Go.RowKit

theorem step_more (locs : Int) (vals : List Int) (lucks : List Bool) (x : Ins) (s : St) : (s.step locs vals lucks x).more = s.more ∨ (s.step locs vals lucks x).more = 1 ∨ (s.step locs vals lucks x).more = 2 := by
  unfold St.step
  repeat' split
  all_goals first
    | exact .inl rfl
    | exact .inr (.inl rfl)
    | exact .inr (.inr rfl)
    | (unfold St.load; simp only []; split <;> exact .inl rfl)
theorem runT_more (th : List Ins) (locs : Int) (vals : List Int) (lucks : List Bool) : 0 ≤ (runT th locs vals lucks).more ∧ (runT th locs vals lucks).more ≤ 2 := by
  refine runT_ind (fun s => 0 ≤ s.more ∧ s.more ≤ 2) (by simp [St.zero]) ?_
  intro s x _ _ hz _ _ _
  have e : s.inc.more = 0 := hz
  rcases step_more locs vals lucks x s.inc with h | h | h <;> (rw [h]; omega)
end Go.Proofs.YtcalinfdckklfaaGreatDoor
namespace Go.Proofs.YtcalinfdckklfaaGreatDoor
open Go.ChangeShapes Go.WideShapes Go.ChangeAt Go.RowKit

/-- What is read at a type lies as the list of cells says. -/
def Opens {α H : Type} (enc : TypeId × Value → H) (P : Program) (W : World) (sp : Nat → Bool) (held : Bool) (t : TypeId) (R : Elem α) : Prop :=
  ∀ (m : Nat) (cs : List Value) (y : DataW H × List MemPlace), DataW.trod enc P W 0 sp held m t cs = some y → ∃ x, R.cs (fun _ => True) W x cs

theorem spot_none {w : World} {a : Addr} {v : Value} (h : w.cell? a = some v) : a.spot = none := by
  unfold World.cell? at h
  split at h
  · split at h
    · cases h
    · rename_i hs; cases hsp : a.spot with
      | none => rfl
      | some s => rw [hsp] at hs; simp at hs
  · cases h

theorem opens_int {H : Type} {enc : TypeId × Value → H} {P : Program} {W : World} {sp : Nat → Bool} {held : Bool} {t : TypeId} (ht : P.underlying t = some (.int .i64)) : Opens enc P W sp held t IntE := by
  intro m cs y h
  obtain ⟨a, e, _, _⟩ := DataW.trod_int ht h
  exact ⟨a, e⟩

theorem opens_slice {α H : Type} {enc : TypeId × Value → H} {P : Program} {W : World} {sp : Nat → Bool} {held : Bool} {t e : TypeId} {R : Elem α} (ht : P.underlying t = some (.slice e)) (hs : P.cellsOf e = R.size) (hE : Opens enc P W sp held e R) :
    Opens enc P W sp held t (SlE R) := by
  intro m cs y h
  rcases DataW.trod_slice ht h with ⟨rfl, _⟩ | ⟨a, len, cap, elems, rest, n, _, rfl, _, _, hlc, _, hlen, hel, _, _⟩
  · exact ⟨[], _, rfl, SlA.nil⟩
  · rw [hs] at hel
    have key : ∀ i, i < len → ∃ x c, R.cs (fun _ => True) W x c ∧ ∀ j u, c[j]? = some u → W.cell? ((a.add (i * R.size)).add j) = some u := by
      intro i hi
      have h1 := hel i hi
      rw [List.getElem?_eq_getElem (by omega)] at h1
      obtain ⟨c, hc, hd⟩ := Option.bind_eq_some_iff.1 h1
      obtain ⟨x, hx⟩ := hE _ _ _ hd
      obtain ⟨_, hcl, hcc⟩ := World.cells?_some hc
      refine ⟨x, c, hx, fun j u hu => ?_⟩
      have hj : j < c.length := by
        rcases Nat.lt_or_ge j c.length with h | h
        · exact h
        · rw [List.getElem?_eq_none h] at hu; cases hu
      rw [hcc j (by omega)]
      exact hu
    refine ⟨(List.finRange len).map fun i => Classical.choose (key i.1 i.2), _, rfl, _, cap, by rw [List.length_map, List.length_finRange], ⟨(fun e => by cases e), by rw [List.length_map, List.length_finRange]; exact hlc⟩, fun hne => ?_⟩
    have hpos : 0 < len := by
      rcases Nat.eq_zero_or_pos len with h0 | h0
      · subst h0; simp at hne
      · exact h0
    have hsp : a.spot = none := by
      obtain ⟨x, c, hx, hc⟩ := key 0 hpos
      have hl := R.len hx
      have hp := R.pos
      have h1 := spot_none (hc 0 c[0] (List.getElem?_eq_getElem (by omega)))
      simpa [Addr.add] using h1
    obtain ⟨b, o, s⟩ := a
    simp only at hsp
    subst hsp
    refine ⟨b, o, rfl, trivial, fun i hi => ?_⟩
    have hi' : i < len := by simpa using hi
    have hk := Classical.choose_spec (key i hi')
    obtain ⟨c, hc1, hc2⟩ := hk
    refine ⟨c, by simpa using hc1, fun j u hu => ?_⟩
    have := hc2 j u hu
    rw [addr_add, addr_add] at this
    exact this
end Go.Proofs.YtcalinfdckklfaaGreatDoor
