/- Contracts of the document's Or, And, Only, Inv, Put, Cross. -/
import Derived.Test.YtpgbedaonjfpnaaRelRef
namespace Go.Proofs.Ytpgbedaonjfpnaa
open Go.RowKit
attribute [local go_sem] Ext.cell Ext.frozen

theorem Own.empty {α : Type} {A : Nat → Prop} {R : Elem α} {w : World} {e : TypeId} : Own A R (w.alloc (.cells #[] e)) w.heap.size e (.slice (some ⟨w.heap.size, 0, none⟩) 0 0) [] :=
  ⟨[], World.ownsRow_made w #[] 0 (Nat.le_refl _) (Nat.zero_le _) (by simp), rfl, fun i h => by simp at h⟩
/-- The law of append at pairs. -/
theorem wpList_pairs {w : World} {out ys : List (Nat × Nat)} {ops : Array Oper} {rest : List Oper} {o : Oper} {a : Act} {Q : Exit → Act → World → Prop} (hgd : o.guard = none) (s x : Operand)
    (ho : o.op = .call { callee := .builtin .append, args := #[s, x], argTypes := #[41, 41] })
    (base : Nat) (v u : Value) (hs : a.eval s = v) (hx : a.eval x = u) (hown : Own (fun _ => False) PairE w base 45 v out)
    (hu : Sl PairE w u ys) (hlen : out.length + ys.length ≤ 1000000) (hbase : base ≤ w.heap.size)
    (h : ∀ p cap w', Own (fun _ => False) PairE w' base 45 (.slice p (out ++ ys).length cap) (out ++ ys) → w.grownBy w' v.ownBlock → wpList Try.prog ops Q rest (a.put o.dst (.slice p (out ++ ys).length cap)) w') : wpList Try.prog ops Q (o :: rest) a w := by
  obtain ⟨i0, j1, j2, j3, j4⟩ := get_info info_pair
  refine wpList_app (R := PairE) (A := fun _ => False) (xs := out) (ys := ys) hgd s x 41 45 i0 _ 16 ho Try.underlying41 j1 j2 j3 j4 (by rfl) base v _ hs hx hown hu (fun _ _ _ h => h) (by omega) (by decide) hbase ?_
  intro p5 c5 w5 hO5 hg5 _
  exact h p5 c5 w5 hO5 hg5
theorem bothN_eq {xs ys : List Nat} (h : szR xs = szR ys) : bothN xs ys = szR xs := by unfold bothN; rw [if_pos h]
theorem bothN_ne {xs ys : List Nat} (h : ¬ szR xs = szR ys) : bothN xs ys = 0 := by unfold bothN; rw [if_neg h]
theorem ofF_app (l m : List (Nat × Nat)) (i k : Nat) : ofF (l ++ m) i k = (ofF l i k || ofF m i k) := by
  unfold ofF
  rw [Bool.eq_iff_iff]
  simp

theorem take_snoc {α : Type} {l : List α} {k : Nat} (h : k < l.length) : l.take (k + 1) = l.take k ++ [l[k]] := by rw [List.take_add_one, List.getElem?_eq_getElem h]; rfl
theorem of_filter {n : Nat} (f : Nat → Nat → Bool) (h : Nat × Nat → Bool) {i k : Nat} (hi : i < n) (hk : k < n) : ofF ((pairsF n f).filter h) i k = (f i k && h (i, k)) := by
  rw [Bool.eq_iff_iff]
  unfold ofF
  rw [List.contains_iff_mem, List.mem_filter, pairs_mem, Bool.and_eq_true]
  exact ⟨fun ⟨a, b⟩ => ⟨a.2.2, b⟩, fun ⟨a, b⟩ => ⟨⟨hi, hk, a⟩, b⟩⟩

theorem of_swap {n : Nat} (f : Nat → Nat → Bool) {i k : Nat} (hi : i < n) (hk : k < n) : ofF ((pairsF n f).map fun x => (x.2, x.1)) i k = invF f i k := by
  rw [Bool.eq_iff_iff]
  unfold ofF invF
  rw [List.contains_iff_mem, List.mem_map]
  constructor
  · rintro ⟨⟨a, b⟩, h, e⟩
    simp only [Prod.mk.injEq] at e
    obtain ⟨rfl, rfl⟩ := e
    exact (pairs_mem.1 h).2.2
  · intro h
    exact ⟨(k, i), pairs_mem.2 ⟨hk, hi, h⟩, rfl⟩
end Go.Proofs.Ytpgbedaonjfpnaa
