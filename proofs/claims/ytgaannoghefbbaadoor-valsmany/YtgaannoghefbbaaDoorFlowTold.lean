/- A trace that a law keeps in a block of its own; the first of a list. -/
import Derived.Test.YtgaannoghefbbaaDoorFlowShown
import Derived.Test.YtgaannoghefbbaaDoorFlowM
import Derived.Laws.Slices
namespace Go.Proofs.YtgaannoghefbbaaDoor
open Go.RowKit

def zeroTr : Array Value := #[.slice none 0 0, .slice none 0 0, .slice none 0 0, .slice none 0 0, .slice none 0 0, .int .i64 0, .int .i64 0, .int .i64 0, .int .i64 0, .int .u32 0, .int .u32 0, .int .u32 0, .int .u32 0, .int .i64 0, .int .i64 0, .int .i64 0]
section
variable {ops : Array Oper} {rest : List Oper} {o : Oper} {a : Act} {w : World} {Q : Exit → Act → World → Prop}
theorem wpList_told (hgd : o.guard = none) (x y : Operand) (ho : o.op = .store 40 x y) {r : Nat → Value} {D : St} (hT : TrIs w r D) (hx : a.eval x = .pointer (some ⟨w.heap.size, 0, none⟩)) (hy : a.eval y = .agg (trC r D))
    (h : ∀ w', TrB w' w.heap.size r D 40 → TrIs w' r D → Below w.heap.size w w' → wpList Tryd.prog ops Q rest (a.put o.dst undef) w') : wpList Tryd.prog ops Q (o :: rest) a (w.alloc (.cells zeroTr 40 (0, 0))) := by
  refine wpList_storeB hgd 40 x y ho w.heap.size (trC r D) zeroTr 40 hx hy Blk.new (by kernel_rfl) (by rfl) (one16T hT) ?_
  intro w4 kL oL zL
  have B24 : Below w.heap.size w w4 := (below_new _ _).trans (oL.below (by simp) (fun k hk => by omega))
  exact h w4 kL (hT.keep B24) B24
end

theorem cut_first {α : Type} {R : Elem α} {A : Nat → Prop} {w : World} {q : Option Addr} {l : List α} {d k m : Nat} {T e : TypeId} (he : Tryd.prog.elem T = e) (ht : Tryd.prog.underlying T = some (.slice e)) (hs : ∀ w, (Go.sizeOf e).run Tryd.prog w = .ok m w) (h : SlA A R w (.slice q l.length d) l) (hk : k ≤ l.length) :
    (∀ w, (Instr.slice T (.slice q l.length d) none (some (.int .i64 (k : Int))) none).run Tryd.prog w = .ok (.slice q (l.take k).length d) w) ∧ SlA A R w (.slice q (l.take k).length d) (l.take k) := by
  have hc := h.cap
  have hs' : ∀ w, (Go.sizeOf (Tryd.prog.elem T)).run Tryd.prog w = .ok m w := fun w => by rw [he]; exact hs w
  obtain ⟨p', c', hq, h0, _⟩ := id h
  simp only [Value.slice.injEq, true_and] at hq
  obtain ⟨rfl, rfl⟩ := hq
  refine ⟨fun w => ?_, ?_⟩
  · rw [run_slice_h (ht := by rw [he]; exact ht) (h0 := by omega) (h2 := by omega), hs']
    simp [sliced, Result.andThen, List.length_take, Nat.min_eq_left hk]
    intro _
    cases q <;> simp [Addr.add]
  · by_cases h1 : k = 0
    · subst h1
      exact ⟨_, _, rfl, ⟨h0.1, by simp⟩, fun e => absurd rfl e⟩
    · obtain ⟨b, o, rfl, hp⟩ := h.part (i := 0) (k := k) (c' := d) (by omega) (by omega) (by omega)
      simpa [List.length_take, Nat.min_eq_left hk] using hp

theorem reads_at {l : List Ev} {k : Nat} {e : Ev} (h : l[k]? = some e) (he : e.kd = 1) : (readsL l)[(readsL (l.take k)).length]? = some e.vl := by
  have hk := (List.getElem?_eq_some_iff.1 h).1
  have e1 : l = l.take k ++ e :: l.drop (k + 1) := by
    have := (List.getElem?_eq_some_iff.1 h).2
    rw [← this, ← List.drop_eq_getElem_cons hk, List.take_append_drop]
  have e2 : readsL l = readsL (l.take k) ++ e.vl :: readsL (l.drop (k + 1)) := by
    conv => lhs; rw [e1]
    unfold readsL
    rw [List.filter_append, List.map_append, List.filter_cons_of_pos (by simpa using he), List.map_cons]
  rw [e2, List.getElem?_append_right (Nat.le_refl _), Nat.sub_self]
  rfl
theorem reads_next {l : List Ev} {k : Nat} {e : Ev} (h : l[k]? = some e) : (readsL (l.take (k + 1))).length = (readsL (l.take k)).length + (if e.kd = 1 then 1 else 0) := by
  rw [List.take_add_one, h]
  show (readsL (l.take k ++ [e])).length = _
  rw [readsL_app, List.length_append]
  by_cases he : e.kd = 1
  · simp [he]
  · simp [he]
theorem all_next {th : List Ins} {k : Nat} {x : Ins} (h : th[k]? = some x) (p : Ins → Bool) : (th.take (k + 1)).all p = ((th.take k).all p && p x) := by
  rw [List.take_add_one, h, List.all_append]
  simp
theorem Own.away {α : Type} {A : Nat → Prop} {R : Elem α} {w : World} {base : Nat} {e : TypeId} {v : Value} {xs : List α} (h : Own A R w base e v xs) {b : Nat} {cs : Array Value} {t : TypeId} (hb : Blk w b cs t) (hne : e ≠ t) : v.ownBlock ≠ some b := by
  obtain ⟨cc, ⟨_, h⟩, _⟩ := h
  rcases h with ⟨rfl, _⟩ | ⟨g, cap, cur, rfl, _, hg, _⟩
  · intro h; cases h
  · intro hk
    have e1 : g = b := by simpa [Value.ownBlock] using hk
    subst e1
    have hb' : w.heap[g]? = some (.cells cs t (0, 0)) := hb
    rw [hg] at hb'
    simp only [Option.some.injEq, Obj.cells.injEq] at hb'
    exact hne hb'.2.1
theorem TrO.away {w : World} {n : Nat} {r : Nat → Value} {s : St} (h : TrO w n r s) {b : Nat} {cs : Array Value} (hb : Blk w b cs 40) : ∀ i k, i < 5 → (r i).ownBlock = some k → k ≠ b := by
  obtain ⟨base, _, h⟩ := h
  intro i k hi hk e
  subst e
  match i, hi with
  | 0, _ => exact h.e0.away hb (by decide) hk
  | 1, _ => exact h.e1.away hb (by decide) hk
  | 2, _ => exact h.e2.away hb (by decide) hk
  | 3, _ => exact h.e3.away hb (by decide) hk
  | 4, _ => exact h.e4.away hb (by decide) hk
theorem TrO.only {w w' : World} {n : Nat} {r : Nat → Value} {s : St} (h : TrO w n r s) {b : Nat} {cs : Array Value} (hb : Blk w b cs 40) (ho : Only (fun k => k = b) w w') : TrO w' n r s := by
  have ha := h.away hb
  obtain ⟨base, hn, h⟩ := h
  exact ⟨base, hn, h.only ho ha⟩
end Go.Proofs.YtgaannoghefbbaaDoor
