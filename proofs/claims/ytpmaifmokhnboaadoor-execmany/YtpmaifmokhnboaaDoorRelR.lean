/- RelR: RelRef, RelRef2, RelRef3, RelRef4, RelList, in one text. -/
import Derived.Test.YtpmaifmokhnboaaDoorRelP
/- Contracts of the document's Size, bit, Has, power, Made, Pairs, Clean. -/
namespace Go.Proofs.YtpmaifmokhnboaaDoor
open Go.RowKit
attribute [local go_sem] Ext.cell Ext.frozen

/-- What the document tells: the pairs of f, of n things. -/
def Tells (w : World) (n : Nat) (f : Nat → Nat → Bool) (e : Ending) (w' : World) : Prop := ∃ v, e = .returned v ∧ Sl U32E w' v (mkR n f) ∧ Below w.heap.size w w'

theorem add_pow {g : Nat → Bool} {j : Nat} (hg : g j = false) : ∀ {n : Nat}, j < n → rowN g n + 2 ^ j = rowN (fun x => g x || decide (x = j)) n
  | 0, h => by omega
  | n + 1, h => by
    simp only [rowN]
    by_cases e : j = n
    · subst e
      rw [hg]
      have : rowN (fun x => g x || decide (x = j)) j = rowN g j := row_congr fun k hk => by rw [decide_eq_false (by omega), Bool.or_false]
      rw [this]
      simp
    · have ih := add_pow hg (n := n) (by omega)
      rw [← ih, decide_eq_false (show ¬ n = j by omega), Bool.or_false]
      omega
theorem ofF_snoc (l : List (Nat × Nat)) (i j x y : Nat) : ofF (l ++ [(i, j)]) x y = (ofF l x y || (decide (x = i) && decide (y = j))) := by
  unfold ofF
  rw [Bool.eq_iff_iff]
  simp
theorem make_u32s (n : Int) (w : World) (h0 : 0 ≤ n) (hn : n ≤ 100) : (Instr.makeSlice 34 (.int .i64 n) (.int .i64 n)).run Tryd.prog w = .ok (.slice (some ⟨w.heap.size, 0, none⟩) n.toNat n.toNat) (w.alloc (.cells (rowsV n.toNat (fun _ => 0)) 64)) := by
  obtain ⟨i, j1, j2, j3, j4⟩ := get_info info_u32R
  rw [run_makeSlice (P := Tryd.prog) w 34 64 _ _ Tryd.underlying34 j1 j2 .i64 .i64 n n h0 (Int.le_refl _) (by rw [j3]; omega) (by rw [j4]; omega) (by omega), j3, made_zero]

theorem hasI_mk {n : Nat} (f : Nat → Nat → Bool) (hn : n ≤ 32) {i k : Nat} (hi : i < n) (hk : k < n) : hasI (mkR n f) (i : Int) (k : Int) = f i k := by
  rw [hasI_nat, mkR_has f hn]; simp [hi, hk]
/-- The law of append at pairs that the call itself made. -/
theorem wpList_pair {w : World} {out : List (Nat × Nat)} {ops : Array Oper} {rest : List Oper} {o : Oper} {a : Act} {Q : Exit → Act → World → Prop} (hgd : o.guard = none) (s x : Operand)
    (ho : o.op = .call { callee := .builtin .append, args := #[s, x], argTypes := #[49, 49] })
    (base : Nat) (v : Value) (b i k : Nat) (hs : a.eval s = v) (hx : a.eval x = .slice (some ⟨b, 0, none⟩) 1 1) (hown : Own (fun _ => False) PairE w base 73 v out)
    (h0 : w.cell? ⟨b, 0, none⟩ = some (.int .i64 (i : Int))) (h1 : w.cell? ⟨b, 1, none⟩ = some (.int .i64 (k : Int))) (hlen : out.length ≤ 1000000) (hbase : base ≤ w.heap.size)
    (h : ∀ p cap w', Own (fun _ => False) PairE w' base 73 (.slice p (out.length + 1) cap) (out ++ [(i, k)]) → w.grownBy w' v.ownBlock → wpList Tryd.prog ops Q rest (a.put o.dst (.slice p (out.length + 1) cap)) w') : wpList Tryd.prog ops Q (o :: rest) a w := by
  obtain ⟨i0, j1, j2, j3, j4⟩ := get_info info_pair
  refine wpList_app (R := PairE) (A := fun _ => False) (xs := out) (ys := [(i, k)]) hgd s x 49 73 i0 _ 16 ho Tryd.underlying49 j1 j2 j3 j4 (by rfl) base v _ hs hx hown (pair_one h0 h1) (fun _ _ _ h => h) (by simp only [List.length_cons, List.length_nil]; omega) (by decide) hbase ?_
  intro p5 c5 w5 hO5 hg5 _
  rw [List.length_append] at hO5 ⊢
  exact h p5 c5 w5 hO5 hg5

theorem pairsF_len (f : Nat → Nat → Bool) {n : Nat} (hn : n ≤ 32) : (pairsF n f).length ≤ 1024 := by
  have hr : ∀ i, (rowP f i n).length ≤ 32 := fun i => by
    unfold rowP
    rw [List.length_map]
    exact Nat.le_trans (List.length_filter_le _ _) (by simpa using hn)
  have : ∀ i, (pairsTo f n i).length ≤ i * 32 := fun i => by
    induction i with
    | zero => simp [pairsTo]
    | succ i ih => rw [pairsTo_succ, List.length_append]; have := hr i; omega
  have := this n
  rw [pairsTo_all] at this
  omega
theorem pairsF_in {f : Nat → Nat → Bool} {n : Nat} : ∀ x ∈ pairsF n f, x.1 < n ∧ x.2 < n := fun x hx => by
  obtain ⟨i, k⟩ := x
  have := pairs_mem.1 hx
  exact ⟨this.1, this.2.1⟩
/-- What is told of a list of pairs is told of all that has the same. -/
theorem mkR_of {n : Nat} {l : List (Nat × Nat)} {f : Nat → Nat → Bool} (h : ∀ i k, i < n → k < n → ofF l i k = f i k) : mkR n (ofF l) = mkR n f := mkR_congr h
theorem of_pairs_at {n : Nat} (f : Nat → Nat → Bool) {i k : Nat} (hi : i < n) (hk : k < n) : ofF (pairsF n f) i k = f i k := by
  rw [Bool.eq_iff_iff]
  unfold ofF
  rw [List.contains_iff_mem, pairs_mem]
  exact ⟨fun h => h.2.2, fun h => ⟨hi, hk, h⟩⟩
end Go.Proofs.YtpmaifmokhnboaaDoor

/- Contracts of the document's Or, And, Only, Inv, Put, Cross. -/
namespace Go.Proofs.YtpmaifmokhnboaaDoor
open Go.RowKit
attribute [local go_sem] Ext.cell Ext.frozen

theorem Own.empty {α : Type} {A : Nat → Prop} {R : Elem α} {w : World} {e : TypeId} : Own A R (w.alloc (.cells #[] e)) w.heap.size e (.slice (some ⟨w.heap.size, 0, none⟩) 0 0) [] :=
  ⟨[], World.ownsRow_made w #[] 0 (Nat.le_refl _) (Nat.zero_le _) (by simp), rfl, fun i h => by simp at h⟩
/-- The law of append at pairs. -/
theorem wpList_pairs {w : World} {out ys : List (Nat × Nat)} {ops : Array Oper} {rest : List Oper} {o : Oper} {a : Act} {Q : Exit → Act → World → Prop} (hgd : o.guard = none) (s x : Operand)
    (ho : o.op = .call { callee := .builtin .append, args := #[s, x], argTypes := #[49, 49] })
    (base : Nat) (v u : Value) (hs : a.eval s = v) (hx : a.eval x = u) (hown : Own (fun _ => False) PairE w base 73 v out)
    (hu : Sl PairE w u ys) (hlen : out.length + ys.length ≤ 1000000) (hbase : base ≤ w.heap.size)
    (h : ∀ p cap w', Own (fun _ => False) PairE w' base 73 (.slice p (out ++ ys).length cap) (out ++ ys) → w.grownBy w' v.ownBlock → wpList Tryd.prog ops Q rest (a.put o.dst (.slice p (out ++ ys).length cap)) w') : wpList Tryd.prog ops Q (o :: rest) a w := by
  obtain ⟨i0, j1, j2, j3, j4⟩ := get_info info_pair
  refine wpList_app (R := PairE) (A := fun _ => False) (xs := out) (ys := ys) hgd s x 49 73 i0 _ 16 ho Tryd.underlying49 j1 j2 j3 j4 (by rfl) base v _ hs hx hown hu (fun _ _ _ h => h) (by omega) (by decide) hbase ?_
  intro p5 c5 w5 hO5 hg5 _
  exact h p5 c5 w5 hO5 hg5
theorem bothN_eq {xs ys : List Nat} (h : szR xs = szR ys) : bothN xs ys = szR xs := by unfold bothN; rw [if_pos h]
theorem bothN_ne {xs ys : List Nat} (h : ¬ szR xs = szR ys) : bothN xs ys = 0 := by unfold bothN; rw [if_neg h]
theorem ofF_app (l m : List (Nat × Nat)) (i k : Nat) : ofF (l ++ m) i k = (ofF l i k || ofF m i k) := by
  unfold ofF
  rw [Bool.eq_iff_iff]
  simp

theorem take_snoc {α : Type} {l : List α} {k : Nat} (h : k < l.length) : l.take (k + 1) = l.take k ++ [l[k]] := by rw [List.take_add_one, List.getElem?_eq_getElem h]; rfl
theorem of_filter {n : Nat} (f : Nat → Nat → Bool) (h : Nat × Nat → Bool) {i k : Nat} (hi : i < n) (hk : k < n) : ofF ((pairsF n f).filter h) i k = (f i k && h (i, k)) := by
  rw [Bool.eq_iff_iff]
  unfold ofF
  rw [List.contains_iff_mem, List.mem_filter, pairs_mem, Bool.and_eq_true]
  exact ⟨fun ⟨a, b⟩ => ⟨a.2.2, b⟩, fun ⟨a, b⟩ => ⟨⟨hi, hk, a⟩, b⟩⟩

theorem of_swap {n : Nat} (f : Nat → Nat → Bool) {i k : Nat} (hi : i < n) (hk : k < n) : ofF ((pairsF n f).map fun x => (x.2, x.1)) i k = invF f i k := by
  rw [Bool.eq_iff_iff]
  unfold ofF invF
  rw [List.contains_iff_mem, List.mem_map]
  constructor
  · rintro ⟨⟨a, b⟩, h, e⟩
    simp only [Prod.mk.injEq] at e
    obtain ⟨rfl, rfl⟩ := e
    exact (pairs_mem.1 h).2.2
  · intro h
    exact ⟨(k, i), pairs_mem.2 ⟨hk, hi, h⟩, rfl⟩
end Go.Proofs.YtpmaifmokhnboaaDoor

/- Contracts of the document's Put, Cross, Seq, Plus, Acyclic, Same. -/
namespace Go.Proofs.YtpmaifmokhnboaaDoor
open Go.RowKit
attribute [local go_sem] Ext.cell Ext.frozen

/-- The pairs that x leads on to. -/
def onP (g : Nat → Nat → Bool) (x : Nat × Nat) (k : Nat) : List (Nat × Nat) := ((List.range k).filter (g x.2)).map fun y => (x.1, y)
theorem onP_yes {g : Nat → Nat → Bool} {x : Nat × Nat} {k : Nat} (h : g x.2 k = true) : onP g x (k + 1) = onP g x k ++ [(x.1, k)] := by
  simp [onP, List.range_succ, List.filter_append, h]
theorem onP_no {g : Nat → Nat → Bool} {x : Nat × Nat} {k : Nat} (h : g x.2 k = false) : onP g x (k + 1) = onP g x k := by
  simp [onP, List.range_succ, List.filter_append, h]
theorem onP_in {g : Nat → Nat → Bool} {x y : Nat × Nat} {n : Nat} (hx : x.1 < n) (h : y ∈ onP g x n) : y.1 < n ∧ y.2 < n := by
  unfold onP at h
  obtain ⟨z, hz, rfl⟩ := List.mem_map.1 h
  exact ⟨hx, by simpa using (List.mem_filter.1 hz).1⟩
theorem of_on {n : Nat} (f g : Nat → Nat → Bool) {i k : Nat} (hi : i < n) (hk : k < n) : ofF ((pairsF n f).flatMap fun x => onP g x n) i k = seqF n f g i k := by
  rw [Bool.eq_iff_iff]
  unfold ofF
  rw [List.contains_iff_mem, List.mem_flatMap, seqF_iff]
  constructor
  · rintro ⟨⟨a, b⟩, h, hy⟩
    obtain ⟨z, hz, e⟩ := List.mem_map.1 hy
    simp only [Prod.mk.injEq] at e
    obtain ⟨rfl, rfl⟩ := e
    have h1 := pairs_mem.1 h
    exact ⟨b, h1.2.1, h1.2.2, (List.mem_filter.1 hz).2⟩
  · rintro ⟨j, hj, h1, h2⟩
    exact ⟨(i, j), pairs_mem.2 ⟨hi, hj, h1⟩, List.mem_map.2 ⟨k, List.mem_filter.2 ⟨by simpa using hk, h2⟩, rfl⟩⟩
end Go.Proofs.YtpmaifmokhnboaaDoor

/- Contracts of the document's Plus, Acyclic, Same; of the law's pairs. -/
namespace Go.Proofs.YtpmaifmokhnboaaDoor
open Go.RowKit
attribute [local go_sem] Ext.cell Ext.frozen

theorem hasR_mk {n : Nat} (f : Nat → Nat → Bool) (hn : n ≤ 32) {i k : Nat} (hi : i < n) (hk : k < n) : hasR (mkR n f) i k = f i k := by
  rw [mkR_has f hn]; simp [hi, hk]
theorem info_intR : ((Tryd.prog.info? 3).map fun i => (i.zero, i.size, i.bytes)) = some (some (.int .i64 0), 1, 8) := by kernel_rfl
theorem pair_same (d : Nat) (a b : Int) (w : World) : (Op.equalIn (d + 2) 73 (.agg #[.int .i64 a, .int .i64 b]) (.agg #[.int .i64 a, .int .i64 b])).run Tryd.prog w = .ok true w := by
  have h1 : Tryd.prog.underlying 73 = some (.array 2 3) := by kernel_rfl
  have h3 : Tryd.prog.underlying 3 = some (.int .i64) := by kernel_rfl
  obtain ⟨i0, j1, j2, j3, j4⟩ := get_info info_intR
  rw [Op.equalIn]
  simp only [Sem.run_bind, run_underlying h1, Result.andThen_ok]
  simp [sizeOf, typeInfo, j1, j3, List.range', part, run_equalIn_int _ d 3 .i64 .i64 _ _ h3]
theorem pair_same' (a b : Int) (w : World) : (Op.equalIn 10000 73 (.agg #[.int .i64 a, .int .i64 b]) (.agg #[.int .i64 a, .int .i64 b])).run Tryd.prog w = .ok true w := pair_same 9998 a b w
attribute [local go_sem] pair_same'
end Go.Proofs.YtpmaifmokhnboaaDoor

/- What is told, as lists: the program's and the document's answers are the same lists; their pairs. -/
namespace Go.Proofs.YtpmaifmokhnboaaDoor
open Go.RowKit

/-- A list of numbers is told. -/
def Tl (w : World) (r : List Nat) (e : Ending) (w' : World) : Prop := ∃ p c, e = .returned (.slice p r.length c) ∧ Sl U32E w' (.slice p r.length c) r ∧ Below w.heap.size w w'
theorem Told.l {w : World} {n : Nat} {f : Nat → Nat → Bool} {r : List Nat} (hr : mkR n f = r) (hn : n ≤ 32) (e : Ending) (w' : World) (h : Told w n f e w') : Tl w r e w' := by
  obtain ⟨b, rfl, hR, _, hB⟩ := h
  subst hr
  have hS := hR.mk (A := fun _ => True) trivial hn
  refine ⟨some ⟨b, 0, none⟩, n, by rw [mkR_len], by rw [mkR_len]; exact hS, hB⟩
theorem Tells.l {w : World} {n : Nat} {f : Nat → Nat → Bool} {r : List Nat} (hr : mkR n f = r) (e : Ending) (w' : World) (h : Tells w n f e w') : Tl w r e w' := by
  obtain ⟨v, rfl, hS, hB⟩ := h
  subst hr
  obtain ⟨p, c, rfl⟩ := hS.len
  exact ⟨p, c, rfl, hS, hB⟩

def newL (n : Int) : List Nat := mkR (newN n) fun _ _ => false
def putL (xs : List Nat) (i k : Int) : List Nat := mkR (szR xs) (putF (hasR xs) i k)
def orL (xs ys : List Nat) : List Nat := mkR (bothN xs ys) (orF (hasR xs) (hasR ys))
def andL (xs ys : List Nat) : List Nat := mkR (bothN xs ys) (andF (hasR xs) (hasR ys))
def seqL (xs ys : List Nat) : List Nat := mkR (bothN xs ys) (seqF (bothN xs ys) (hasR xs) (hasR ys))
def invL (xs : List Nat) : List Nat := mkR (szR xs) (invF (hasR xs))
def plusL (xs : List Nat) : List Nat := mkR (szR xs) (plusF (szR xs) (hasR xs))
def onlyL (xs : List Nat) (s t : Nat) : List Nat := mkR (szR xs) (andF (hasR xs) (crossF s t))
def crossL (m : Int) (s t : Nat) : List Nat := mkR (newN m) (crossF s t)
def acyL (xs : List Nat) : Bool := acyF (szR xs) (hasR xs)
def pairsL (xs : List Nat) : List (Nat × Nat) := pairsF (szR xs) (hasR xs)
theorem newN_le (m : Int) : newN m ≤ 32 := by unfold newN; split <;> omega

section
variable (p q : Option Addr) (c d : Nat) (xs ys : List Nat) (w : World)
theorem New_l (n : Int) : Calls Tryd.prog 54 #[.int .i64 n] w (Tl w (newL n)) :=
  (New_any n w).mono fun e w' ⟨b, he, hR, hb, hB⟩ => Told.l (f := fun _ _ => false) rfl (newN_le n) e w' ⟨b, he, hR.congr fun i _ => by
    refine row_ext (Nat.two_pow_pos _) (rowN_lt _ _) fun k _ => ?_
    rw [rowN_bit]; simp, hb, hB⟩
theorem Inv_l (hx : Sl U32E w (.slice p xs.length c) xs) : Calls Tryd.prog 55 #[.slice p xs.length c] w (Tl w (invL xs)) := (Inv_any p c xs w hx).mono (Told.l rfl (szR_le xs))
theorem Pairs_l (hx : Sl U32E w (.slice p xs.length c) xs) : Calls Tryd.prog 10 #[.slice p xs.length c] w fun e w' => ∃ p' c', e = .returned (.slice p' (pairsL xs).length c') ∧ Sl PairE w' (.slice p' (pairsL xs).length c') (pairsL xs) ∧ Below w.heap.size w w' :=
  (Pairs_any p c xs w hx).mono fun e w' ⟨v, he, hS, hB⟩ => by
    obtain ⟨p', c', rfl⟩ := hS.len
    exact ⟨p', c', he, hS, hB⟩
end
section
variable (w : World)
end

/-- The pairs of what is told. -/
theorem mkR_fun {n : Nat} {F : Nat → Nat → Bool} (hn : n ≤ 32) (hF : Within n F) : hasR (mkR n F) = F := by
  funext i k
  rw [mkR_has F hn]
  cases h : F i k with
  | false => simp
  | true => obtain ⟨h1, h2⟩ := hF i k h; simp [h1, h2]
section
variable {xs ys : List Nat}
theorem inv_sz : szR (invL xs) = szR xs := mkR_sz _ (szR_le xs)
theorem inv_has : hasR (invL xs) = invF (hasR xs) := mkR_fun (szR_le xs) (within_inv (has_within xs))
theorem plus_sz : szR (plusL xs) = szR xs := mkR_sz _ (szR_le xs)
theorem plus_hasL : hasR (plusL xs) = plusF (szR xs) (hasR xs) := mkR_fun (szR_le xs) (within_plus (has_within xs))
theorem only_sz {s t : Nat} : szR (onlyL xs s t) = szR xs := mkR_sz _ (szR_le xs)
theorem only_has {s t : Nat} : hasR (onlyL xs s t) = andF (hasR xs) (crossF s t) := mkR_fun (szR_le xs) (within_and (has_within xs))
theorem put_sz {i k : Int} : szR (putL xs i k) = szR xs := mkR_sz _ (szR_le xs)
theorem or_sz (h : szR xs = szR ys) : szR (orL xs ys) = szR xs := by unfold orL; rw [bothN_eq h]; exact mkR_sz _ (szR_le xs)
theorem or_has (h : szR xs = szR ys) : hasR (orL xs ys) = orF (hasR xs) (hasR ys) := by
  unfold orL; rw [bothN_eq h]
  exact mkR_fun (szR_le xs) (within_or (has_within xs) (by rw [h]; exact has_within ys))
theorem and_sz (h : szR xs = szR ys) : szR (andL xs ys) = szR xs := by unfold andL; rw [bothN_eq h]; exact mkR_sz _ (szR_le xs)
theorem and_has (h : szR xs = szR ys) : hasR (andL xs ys) = andF (hasR xs) (hasR ys) := by
  unfold andL; rw [bothN_eq h]
  exact mkR_fun (szR_le xs) (within_and (has_within xs))
theorem seq_sz (h : szR xs = szR ys) : szR (seqL xs ys) = szR xs := by unfold seqL; rw [bothN_eq h]; exact mkR_sz _ (szR_le xs)
theorem seq_has (h : szR xs = szR ys) : hasR (seqL xs ys) = seqF (szR xs) (hasR xs) (hasR ys) := by
  unfold seqL; rw [bothN_eq h]
  exact mkR_fun (szR_le xs) (within_seq (has_within xs) (by rw [h]; exact has_within ys))
theorem same_of (h1 : szR xs = szR ys) (h2 : hasR xs = hasR ys) : cleanR xs = cleanR ys := clean_eq.2 ⟨h1, fun i k => by rw [h2]⟩
theorem or_len (h : szR xs = szR ys) (h32 : xs.length ≤ 32) : (orL xs ys).length = xs.length := by
  unfold orL; rw [mkR_len, bothN_eq h]; unfold szR; rw [if_neg (by omega)]
theorem pairsL_len (xs : List Nat) : (pairsL xs).length ≤ 1024 := pairsF_len _ (szR_le xs)
end
end Go.Proofs.YtpmaifmokhnboaaDoor
