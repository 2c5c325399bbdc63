/- The algebra of relations: turned, joined, closed; pairs. No program. -/
import Derived.Test.YtpgbedaonjfpnaaRelMath
namespace Go.Proofs.Ytpgbedaonjfpnaa

theorem has_within (r : List Nat) : Within (szR r) (hasR r) := fun i k h => by
  simp only [hasR, Bool.and_eq_true, decide_eq_true_eq] at h
  exact h.1
def invF (f : Nat → Nat → Bool) (i k : Nat) : Bool := f k i
def orF (f g : Nat → Nat → Bool) (i k : Nat) : Bool := f i k || g i k
def andF (f g : Nat → Nat → Bool) (i k : Nat) : Bool := f i k && g i k
def acyF (n : Nat) (f : Nat → Nat → Bool) : Bool := (List.range n).all fun i => !plusF n f i i
theorem within_inv {n : Nat} {f : Nat → Nat → Bool} (h : Within n f) : Within n (invF f) := fun i k hk => (h k i hk).symm
theorem within_or {n : Nat} {f g : Nat → Nat → Bool} (h : Within n f) (k : Within n g) : Within n (orF f g) := fun i j hj => by
  simp only [orF, Bool.or_eq_true] at hj
  exact hj.elim (h i j) (k i j)
theorem within_and {n : Nat} {f g : Nat → Nat → Bool} (h : Within n f) : Within n (andF f g) := fun i j hj => by
  simp only [andF, Bool.and_eq_true] at hj
  exact h i j hj.1
theorem within_seq {n : Nat} {f g : Nat → Nat → Bool} (h : Within n f) (k : Within n g) : Within n (seqF n f g) := fun i j hj => by
  obtain ⟨x, _, h1, h2⟩ := seqF_iff.1 hj
  exact ⟨(h _ _ h1).1, (k _ _ h2).2⟩
theorem within_plus {n : Nat} {f : Nat → Nat → Bool} (h : Within n f) : Within n (plusF n f) := way_within h n
theorem within_sub {n : Nat} {f g : Nat → Nat → Bool} (h : Within n f) (hs : ∀ i k, g i k = true → f i k = true) : Within n g := fun i k hk => h i k (hs i k hk)

theorem seq_inv (n : Nat) (f g : Nat → Nat → Bool) (i k : Nat) : seqF n (invF g) (invF f) i k = invF (seqF n f g) i k := by
  rw [Bool.eq_iff_iff]
  simp only [invF, seqF_iff]
  exact ⟨fun ⟨j, h1, h2, h3⟩ => ⟨j, h1, h3, h2⟩, fun ⟨j, h1, h2, h3⟩ => ⟨j, h1, h3, h2⟩⟩
theorem seq_assoc (n : Nat) (f g h : Nat → Nat → Bool) (i k : Nat) : seqF n (seqF n f g) h i k = seqF n f (seqF n g h) i k := by
  rw [Bool.eq_iff_iff]
  simp only [seqF_iff]
  constructor
  · rintro ⟨j, h1, ⟨x, h2, h3, h4⟩, h5⟩
    exact ⟨x, h2, h3, j, h1, h4, h5⟩
  · rintro ⟨x, h2, h3, j, h1, h4, h5⟩
    exact ⟨j, h1, ⟨x, h2, h3, h4⟩, h5⟩
theorem seq_or (n : Nat) (f g h : Nat → Nat → Bool) (i k : Nat) : seqF n (orF f g) h i k = orF (seqF n f h) (seqF n g h) i k := by
  rw [Bool.eq_iff_iff]
  simp only [orF, Bool.or_eq_true, seqF_iff]
  constructor
  · rintro ⟨j, h1, h2 | h2, h3⟩
    · exact .inl ⟨j, h1, h2, h3⟩
    · exact .inr ⟨j, h1, h2, h3⟩
  · rintro (⟨j, h1, h2, h3⟩ | ⟨j, h1, h2, h3⟩)
    · exact ⟨j, h1, .inl h2, h3⟩
    · exact ⟨j, h1, .inr h2, h3⟩
theorem seq_congr {n : Nat} {f f' g g' : Nat → Nat → Bool} (hf : ∀ i k, i < n → k < n → f i k = f' i k) (hg : ∀ i k, i < n → k < n → g i k = g' i k) {i k : Nat} (hi : i < n) (hk : k < n) : seqF n f g i k = seqF n f' g' i k := by
  rw [Bool.eq_iff_iff, seqF_iff, seqF_iff]
  exact ⟨fun ⟨j, h1, h2, h3⟩ => ⟨j, h1, by rw [← hf i j hi h1]; exact h2, by rw [← hg j k h1 hk]; exact h3⟩, fun ⟨j, h1, h2, h3⟩ => ⟨j, h1, by rw [hf i j hi h1]; exact h2, by rw [hg j k h1 hk]; exact h3⟩⟩
theorem plus_mono {n : Nat} {f g : Nat → Nat → Bool} (hw : Within n g) (h : ∀ i k, f i k = true → g i k = true) {i k : Nat} (hp : plusF n f i k = true) : plusF n g i k = true :=
  plus_least (T := fun i k => plusF n g i k = true) (fun i k hf => plus_has (h i k hf)) (fun _ _ _ => plus_trans hw) hp
theorem plus_plus {n : Nat} {f : Nat → Nat → Bool} (hw : Within n f) (i k : Nat) : plusF n (plusF n f) i k = plusF n f i k :=
  (plus_only (within_plus hw) (fun _ _ h => h) (fun _ _ _ h1 h2 => plus_trans hw h1 h2) (fun _ _ h => plus_has h) i k).symm
theorem plus_or {n : Nat} {f : Nat → Nat → Bool} (i k : Nat) : orF (plusF n f) f i k = plusF n f i k := by
  unfold orF
  cases h : f i k with
  | false => simp
  | true => rw [plus_has h]; rfl
theorem plus_seq {n : Nat} {f : Nat → Nat → Bool} (hw : Within n f) (i k : Nat) : orF (plusF n f) (seqF n (plusF n f) (plusF n f)) i k = plusF n f i k := by
  unfold orF
  cases h : seqF n (plusF n f) (plusF n f) i k with
  | false => simp
  | true =>
    obtain ⟨j, _, h1, h2⟩ := seqF_iff.1 h
    rw [plus_trans hw h1 h2]; rfl
theorem plus_inv {n : Nat} {f : Nat → Nat → Bool} (hw : Within n f) (i k : Nat) : plusF n (invF f) i k = plusF n f k i := by
  rw [Bool.eq_iff_iff]
  exact ⟨fun h => plus_least (T := fun i k => plusF n f k i = true) (fun _ _ h => plus_has h) (fun _ _ _ h1 h2 => plus_trans hw h2 h1) h,
    fun h => plus_least (T := fun i k => plusF n (invF f) k i = true) (fun _ _ h => plus_has (f := invF f) h) (fun _ _ _ h1 h2 => plus_trans (within_inv hw) h2 h1) h⟩
theorem acy_iff {n : Nat} {f : Nat → Nat → Bool} (hw : Within n f) : acyF n f = true ↔ ∀ i, plusF n f i i = false := by
  unfold acyF
  simp only [List.all_eq_true, List.mem_range, Bool.not_eq_true']
  refine ⟨fun h i => ?_, fun h i _ => h i⟩
  cases hp : plusF n f i i with
  | false => rfl
  | true => rw [← hp]; exact h i (within_plus hw i i hp).1
theorem acy_part {n : Nat} {f g : Nat → Nat → Bool} (hw : Within n f) (hs : ∀ i k, g i k = true → f i k = true) (h : acyF n f = true) : acyF n g = true := by
  rw [acy_iff hw] at h
  rw [acy_iff (within_sub hw hs)]
  intro i
  cases hp : plusF n g i i with
  | false => rfl
  | true => rw [← h i]; exact (plus_mono hw hs hp).symm
theorem acy_inv {n : Nat} {f : Nat → Nat → Bool} (hw : Within n f) : acyF n (invF f) = acyF n f := by
  unfold acyF
  congr 1
  funext i
  rw [plus_inv hw]
theorem acy_plus {n : Nat} {f : Nat → Nat → Bool} (hw : Within n f) : acyF n (plusF n f) = acyF n f := by
  unfold acyF
  congr 1
  funext i
  rw [plus_plus hw]
theorem within_eq {n : Nat} {f g : Nat → Nat → Bool} (hf : Within n f) (hg : Within n g) (h : ∀ i k, i < n → k < n → f i k = g i k) : f = g := by
  funext i k
  rw [Bool.eq_iff_iff]
  exact ⟨fun e => by rw [← h i k (hf i k e).1 (hf i k e).2]; exact e, fun e => by rw [h i k (hg i k e).1 (hg i k e).2]; exact e⟩

/-- All pairs, rising. -/
def pairsF (n : Nat) (f : Nat → Nat → Bool) : List (Nat × Nat) := (List.range n).flatMap fun i => ((List.range n).filter (f i)).map fun k => (i, k)
theorem pairs_mem {n : Nat} {f : Nat → Nat → Bool} {i k : Nat} : (i, k) ∈ pairsF n f ↔ i < n ∧ k < n ∧ f i k = true := by
  simp [pairsF, List.mem_flatMap]
theorem pairs_nodup (n : Nat) (f : Nat → Nat → Bool) : (pairsF n f).Nodup := by
  have key : ∀ l : List Nat, l.Nodup → (l.flatMap fun i => ((List.range n).filter (f i)).map fun k => (i, k)).Nodup := by
    intro l
    induction l with
    | nil => intro _; simp
    | cons a l ih =>
      intro hl
      obtain ⟨h1, h2⟩ := List.nodup_cons.1 hl
      rw [List.flatMap_cons, List.nodup_append]
      refine ⟨?_, ih h2, ?_⟩
      · have : ((List.range n).filter (f a)).Nodup := List.nodup_range.filter _
        exact List.Pairwise.map _ (fun x y hxy e => hxy (by simpa using e)) this
      · intro x hx y hy e
        subst e
        obtain ⟨_, _, rfl⟩ := List.mem_map.1 hx
        obtain ⟨i, hi, hm⟩ := List.mem_flatMap.1 hy
        obtain ⟨k, _, e⟩ := List.mem_map.1 hm
        simp only [Prod.mk.injEq] at e
        rw [e.1] at hi
        exact h1 hi
  exact key _ List.nodup_range
/-- The relation of some pairs. -/
def ofF (l : List (Nat × Nat)) (i k : Nat) : Bool := l.contains (i, k)
theorem of_pairs {n : Nat} {f : Nat → Nat → Bool} (hw : Within n f) : ofF (pairsF n f) = f := by
  funext i k
  rw [Bool.eq_iff_iff]
  unfold ofF
  rw [List.contains_iff_mem, pairs_mem]
  exact ⟨fun h => h.2.2, fun h => ⟨(hw i k h).1, (hw i k h).2, h⟩⟩
end Go.Proofs.Ytpgbedaonjfpnaa
