/- Laws of no program: an append of one cell onto a row of the call's own; the row that it was may still be read, behind it too. -/
import Derived.Test.YtgaannoghefbbaaDoorValsTold
import Derived.WalkSmall
import Derived.ArgAppend
import Derived.Maps.AppendAt
namespace Go.Proofs.YtgaannoghefbbaaDoor
open Go.RowKit

/-- What an append of one thing has done: it lies in the row, or the row is a new one. -/
def Pushed (w w' : World) (v v' : Value) (n : Nat) : Prop :=
  (∃ g cap, v = .slice (some ⟨g, 0, none⟩) n cap ∧ v' = .slice (some ⟨g, 0, none⟩) (n + 1) cap) ∨ (v'.ownBlock = some w.heap.size ∧ w.grownBy w' none)

section
variable {P : Program} {w : World}
theorem run_pushK (t ty e : TypeId) (i : TypeInfo) (z : Value) (bytes : Nat) (ht : P.underlying t = some (.slice e)) (hi : P.info? e = some i) (hz : i.zero = some z) (hsize : i.size = 1) (hby : i.bytes = bytes) (hzs : z.cells.size = 1)
    (base : Nat) (v : Value) (n : Nat) (xs : List Value) (hown : w.ownsRow base e 1 v n xs) (g0 c : Nat) (x : Value) (hx : w.cell? ⟨g0, 0, none⟩ = some x) (h1 : x.oneCell' = true) (hn : n ≤ 1000000) (hb : bytes ≤ 1000000) (hbase : base ≤ w.heap.size) :
    ∃ v' w', (Builtin.append_ #[t, t] ty #[v, .slice (some ⟨g0, 0, none⟩) 1 c]).run P w = .ok v' w' ∧ w'.ownsRow base e 1 v' (n + 1) (xs ++ [x]) ∧ w.grownBy w' v.ownBlock ∧ Pushed w w' v v' n := by
  have hl : [x].length = 1 * 1 := rfl
  have hnews : ∀ j u, [x][j]? = some u → w.cell? ((⟨g0, 0, none⟩ : Addr).add j) = some u := fun j u hu => by
    match j, hu with
    | 0, hu => simp at hu; subst hu; simpa [Addr.add] using hx
    | j + 1, hu => simp at hu
  have h1' : ∀ u ∈ [x], u.oneCell' = true := fun u hu => by rw [List.mem_singleton.1 hu]; exact h1
  have h63 : n + 1 ≤ maxLen := by unfold maxLen; omega
  have hbb : (n + 1) * bytes ≤ 140737488355328 := Nat.le_trans (Nat.mul_le_mul (show n + 1 ≤ 1000001 by omega) hb) (by decide)
  obtain ⟨v', w', hr, h4, h5, h6, h7⟩ := run_append_own_at (P := P) w base t ty e i z 1 bytes ht hi hz hsize hby hzs (by decide) v n xs hown ⟨g0, 0, none⟩ 1 c [x] hl hnews h1' h63 hbb hbase
  refine ⟨v', w', hr, h4, h5, ?_⟩
  have hlt := hown.lt
  rcases hown.2 with ⟨rfl, rfl⟩ | ⟨g, cap, cur, rfl, hbg, hg, hnc, hcm, hcs, htake⟩
  · refine .inr ⟨?_, h5⟩
    rcases h7 with h7 | h7
    · rcases h4.2 with ⟨_, h0⟩ | ⟨g, cap, cur, rfl, _⟩
      · simp at h0
      · cases h7
    · exact h7
  · by_cases hroom : n + 1 ≤ cap
    · have hfit : n * i.size + [x].length ≤ cur.size := by rw [hcs, hsize]; simp; omega
      have hr2 := run_append_room (P := P) w t ty e i ht hi g n cap cur hg ⟨g0, 0, none⟩ 1 c [x] (by rw [hsize]; rfl) hnews h1' hroom hfit
      rw [hr] at hr2
      injection hr2 with e1 e2
      exact .inl ⟨g, cap, rfl, e1⟩
    · have holds : ∀ j u, xs[j]? = some u → w.cell? ((⟨g, 0, none⟩ : Addr).add j) = some u := hown.cells (g := g) rfl
      obtain ⟨v2, w2, hr2, k1, k2⟩ := run_append_arg_grows (P := P) w t ty e i z 1 bytes ht hi hz hsize hby hzs (by decide) ⟨g, 0, none⟩ n cap xs hown.1 holds ⟨g0, 0, none⟩ 1 c [x] hl hnews (by omega) h63 hbb
      rw [hr] at hr2
      injection hr2 with e1 e2
      subst e1 e2
      refine .inr ⟨?_, k2⟩
      rcases h7 with h7 | h7
      · have a1 := (k1.lt g h7).1
        have a2 := (hlt g rfl).2
        omega
      · exact h7

/-- At an operation of a region. -/
theorem wpList_pushK {ops : Array Oper} {rest : List Oper} {o : Oper} {a : Act} {Q : Exit → Act → World → Prop} (hgd : o.guard = none) (s y : Operand) (t e : TypeId) (i : TypeInfo) (z : Value) (bytes : Nat)
    (ho : o.op = .call { callee := .builtin .append, args := #[s, y], argTypes := #[t, t] })
    (ht : P.underlying t = some (.slice e)) (hi : P.info? e = some i) (hz : i.zero = some z) (hsize : i.size = 1) (hby : i.bytes = bytes) (hzs : z.cells.size = 1)
    (base : Nat) (v : Value) (n : Nat) (xs : List Value) (g0 c : Nat) (x : Value) (hs : a.eval s = v) (hy : a.eval y = .slice (some ⟨g0, 0, none⟩) 1 c) (hown : w.ownsRow base e 1 v n xs) (hx : w.cell? ⟨g0, 0, none⟩ = some x) (h1 : x.oneCell' = true) (hn : n ≤ 1000000) (hb : bytes ≤ 1000000) (hbase : base ≤ w.heap.size)
    (h : ∀ v' w', w'.ownsRow base e 1 v' (n + 1) (xs ++ [x]) → w.grownBy w' v.ownBlock → Pushed w w' v v' n → wpList P ops Q rest (a.put o.dst v') w') : wpList P ops Q (o :: rest) a w := by
  refine wpList_plain hgd fun K hK => ?_
  obtain ⟨v', w', hr, h2, h3, h4⟩ := run_pushK (P := P) t o.type e i z bytes ht hi hz hsize hby hzs base v n xs hown g0 c x hx h1 hn hb hbase
  unfold Oper.wp execOp
  simp only [ho, resolve, invoke, builtin, Sem.run_bind, Sem.run_pure, Result.andThen_ok, List.map_toArray, List.map_cons, List.map_nil, hs, hy, hr]
  exact hK _ _ (h v' w' h2 h3 h4)
end

/-- The row that it was, behind what was done with the longer one. -/
theorem Pushed.back {w w1 w2 : World} {base : Nat} {e : TypeId} {v v' : Value} {n : Nat} {xs : List Value} {x : Value} {A : Nat → Prop} (h : Pushed w w1 v v' n) (h0 : w.ownsRow base e 1 v n xs) (h1 : w2.ownsRow base e 1 v' (n + 1) (xs ++ [x])) (ho : Only A w1 w2)
    (hA : v'.ownBlock = some w.heap.size → ∀ b, v.ownBlock = some b → ¬ A b) : w2.ownsRow base e 1 v n xs := by
  rcases h with ⟨g, cap, rfl, rfl⟩ | ⟨h2, h3⟩
  · exact ownsRow_pop (by have := h0.1; exact this) h1
  · have k : w1.ownsRow base e 1 v n xs := h0.kept h3 (by cases hv : v.ownBlock with | none => exact .inl rfl | some k => exact .inr (by simp))
    exact ownsRow_only k ho (hA h2)
theorem Pushed.own {w w1 : World} {v v' : Value} {n : Nat} (h : Pushed w w1 v v' n) : v'.ownBlock = v.ownBlock ∨ v'.ownBlock = some w.heap.size := by
  rcases h with ⟨g, cap, rfl, rfl⟩ | ⟨h2, h3⟩
  · exact .inl rfl
  · exact .inr h2
/-- Rows of numbers, and of bools, as lists. -/
theorem row_ints {w : World} {base : Nat} {e : TypeId} {v : Value} {l : List Int} (h : w.ownsRow base e 1 v l.length (l.map (Value.int .i64))) : Own F0 IntE w base e v l :=
  ⟨l.map fun x => [.int .i64 x], by
    have e1 : (l.map fun x => [Value.int .i64 x]).flatten = l.map (Value.int .i64) := by
      clear h
      induction l with
      | nil => rfl
      | cons x l ih => simp [ih]
    rw [e1]; exact h, by simp, fun i h h' => by
    show _ = [Value.int .i64 l[i]]
    simp⟩
theorem row_bools {w : World} {base : Nat} {e : TypeId} {v : Value} {l : List Bool} (h : w.ownsRow base e 1 v l.length (l.map Value.bool)) : Own F0 BoolE w base e v l :=
  ⟨l.map fun x => [.bool x], by
    have e1 : (l.map fun x => [Value.bool x]).flatten = l.map Value.bool := by
      clear h
      induction l with
      | nil => rfl
      | cons x l ih => simp [ih]
    rw [e1]; exact h, by simp, fun i h h' => by
    show _ = [Value.bool l[i]]
    simp⟩
end Go.Proofs.YtgaannoghefbbaaDoor
