/- Contracts of the document's Size, bit, Has, power, Made, Pairs, Clean. -/
import Derived.Test.YtpgbedaonjfpnaaRelTell
namespace Go.Proofs.Ytpgbedaonjfpnaa
open Go.RowKit
attribute [local go_sem] Ext.cell Ext.frozen

/-- What the document tells: the pairs of f, of n things. -/
def Tells (w : World) (n : Nat) (f : Nat → Nat → Bool) (e : Ending) (w' : World) : Prop := ∃ v, e = .returned v ∧ Sl U32E w' v (mkR n f) ∧ Below w.heap.size w w'

theorem add_pow {g : Nat → Bool} {j : Nat} (hg : g j = false) : ∀ {n : Nat}, j < n → rowN g n + 2 ^ j = rowN (fun x => g x || decide (x = j)) n
  | 0, h => by omega
  | n + 1, h => by
    simp only [rowN]
    by_cases e : j = n
    · subst e
      rw [hg]
      have : rowN (fun x => g x || decide (x = j)) j = rowN g j := row_congr fun k hk => by rw [decide_eq_false (by omega), Bool.or_false]
      rw [this]
      simp
    · have ih := add_pow hg (n := n) (by omega)
      rw [← ih, decide_eq_false (show ¬ n = j by omega), Bool.or_false]
      omega
theorem ofF_snoc (l : List (Nat × Nat)) (i j x y : Nat) : ofF (l ++ [(i, j)]) x y = (ofF l x y || (decide (x = i) && decide (y = j))) := by
  unfold ofF
  rw [Bool.eq_iff_iff]
  simp
theorem make_u32s (n : Int) (w : World) (h0 : 0 ≤ n) (hn : n ≤ 100) : (Instr.makeSlice 22 (.int .i64 n) (.int .i64 n)).run Try.prog w = .ok (.slice (some ⟨w.heap.size, 0, none⟩) n.toNat n.toNat) (w.alloc (.cells (rowsV n.toNat (fun _ => 0)) 37)) := by
  obtain ⟨i, j1, j2, j3, j4⟩ := get_info info_u32
  rw [run_makeSlice (P := Try.prog) w 22 37 _ _ Try.underlying22 j1 j2 .i64 .i64 n n h0 (Int.le_refl _) (by rw [j3]; omega) (by rw [j4]; omega) (by omega), j3, made_zero]

theorem hasI_mk {n : Nat} (f : Nat → Nat → Bool) (hn : n ≤ 32) {i k : Nat} (hi : i < n) (hk : k < n) : hasI (mkR n f) (i : Int) (k : Int) = f i k := by
  rw [hasI_nat, mkR_has f hn]; simp [hi, hk]
/-- The law of append at pairs that the call itself made. -/
theorem wpList_pair {w : World} {out : List (Nat × Nat)} {ops : Array Oper} {rest : List Oper} {o : Oper} {a : Act} {Q : Exit → Act → World → Prop} (hgd : o.guard = none) (s x : Operand)
    (ho : o.op = .call { callee := .builtin .append, args := #[s, x], argTypes := #[41, 41] })
    (base : Nat) (v : Value) (b i k : Nat) (hs : a.eval s = v) (hx : a.eval x = .slice (some ⟨b, 0, none⟩) 1 1) (hown : Own (fun _ => False) PairE w base 45 v out)
    (h0 : w.cell? ⟨b, 0, none⟩ = some (.int .i64 (i : Int))) (h1 : w.cell? ⟨b, 1, none⟩ = some (.int .i64 (k : Int))) (hlen : out.length ≤ 1000000) (hbase : base ≤ w.heap.size)
    (h : ∀ p cap w', Own (fun _ => False) PairE w' base 45 (.slice p (out.length + 1) cap) (out ++ [(i, k)]) → w.grownBy w' v.ownBlock → wpList Try.prog ops Q rest (a.put o.dst (.slice p (out.length + 1) cap)) w') : wpList Try.prog ops Q (o :: rest) a w := by
  obtain ⟨i0, j1, j2, j3, j4⟩ := get_info info_pair
  refine wpList_app (R := PairE) (A := fun _ => False) (xs := out) (ys := [(i, k)]) hgd s x 41 45 i0 _ 16 ho Try.underlying41 j1 j2 j3 j4 (by rfl) base v _ hs hx hown (pair_one h0 h1) (fun _ _ _ h => h) (by simp only [List.length_cons, List.length_nil]; omega) (by decide) hbase ?_
  intro p5 c5 w5 hO5 hg5 _
  rw [List.length_append] at hO5 ⊢
  exact h p5 c5 w5 hO5 hg5

theorem pairsF_len (f : Nat → Nat → Bool) {n : Nat} (hn : n ≤ 32) : (pairsF n f).length ≤ 1024 := by
  have hr : ∀ i, (rowP f i n).length ≤ 32 := fun i => by
    unfold rowP
    rw [List.length_map]
    exact Nat.le_trans (List.length_filter_le _ _) (by simpa using hn)
  have : ∀ i, (pairsTo f n i).length ≤ i * 32 := fun i => by
    induction i with
    | zero => simp [pairsTo]
    | succ i ih => rw [pairsTo_succ, List.length_append]; have := hr i; omega
  have := this n
  rw [pairsTo_all] at this
  omega
theorem pairsF_in {f : Nat → Nat → Bool} {n : Nat} : ∀ x ∈ pairsF n f, x.1 < n ∧ x.2 < n := fun x hx => by
  obtain ⟨i, k⟩ := x
  have := pairs_mem.1 hx
  exact ⟨this.1, this.2.1⟩
/-- What is told of a list of pairs is told of all that has the same. -/
theorem mkR_of {n : Nat} {l : List (Nat × Nat)} {f : Nat → Nat → Bool} (h : ∀ i k, i < n → k < n → ofF l i k = f i k) : mkR n (ofF l) = mkR n f := mkR_congr h
theorem of_pairs_at {n : Nat} (f : Nat → Nat → Bool) {i k : Nat} (hi : i < n) (hk : k < n) : ofF (pairsF n f) i k = f i k := by
  rw [Bool.eq_iff_iff]
  unfold ofF
  rw [List.contains_iff_mem, pairs_mem]
  exact ⟨fun h => h.2.2, fun h => ⟨hi, hk, h⟩⟩
end Go.Proofs.Ytpgbedaonjfpnaa
