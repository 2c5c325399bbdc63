/- RelP: RelMath, RelMath2, RelRep, RelBits, RelClean, RelJoin, RelClose, RelTell, in one text. -/
import Derived.RowKit
import Derived.Test.YtgffeihfcmbobaaBase
import Derived.Test.YtgffeihfcmbobaaRepOpen
import Derived.Test.YtgffeihfcmbobaaProg
/- Relations of n things as plain data: rows of bits, what is told of them, joined, turned, closed. No program. -/
namespace Go.Proofs.Ytgffeihfcmbobaa

/-- The number whose bits below n are g's. -/
def rowN (g : Nat → Bool) : Nat → Nat
  | 0 => 0
  | n + 1 => rowN g n + bif g n then 2 ^ n else 0
theorem rowN_lt (g : Nat → Bool) : ∀ n, rowN g n < 2 ^ n
  | 0 => by simp [rowN]
  | n + 1 => by
    have := rowN_lt g n
    simp only [rowN, Nat.pow_succ]
    cases g n <;> simp <;> omega
theorem rowN_bit (g : Nat → Bool) : ∀ (n k : Nat), (rowN g n).testBit k = (decide (k < n) && g k)
  | 0, k => by simp [rowN]
  | n + 1, k => by
    have ih := rowN_bit g n k
    have hl := rowN_lt g n
    simp only [rowN]
    cases hg : g n with
    | false =>
      simp only [cond_false, Nat.add_zero]
      rw [ih]
      by_cases h1 : k < n
      · simp [h1, show k < n + 1 by omega]
      · by_cases h2 : k = n
        · subst h2; simp [hg]
        · simp [h1, show ¬ k < n + 1 by omega]
    | true =>
      simp only [cond_true]
      rw [Nat.add_comm]
      by_cases h1 : k < n
      · rw [Nat.testBit_two_pow_add_gt h1, ih]
        simp [h1, show k < n + 1 by omega]
      · by_cases h2 : k = n
        · subst h2
          rw [Nat.testBit_two_pow_add_eq, ih]
          simp [hg]
        · have h3 : 2 ^ n + rowN g n < 2 ^ k := by
            have : 2 ^ (n + 1) ≤ 2 ^ k := Nat.pow_le_pow_right (by decide) (by omega)
            rw [Nat.pow_succ] at this
            omega
          rw [Nat.testBit_lt_two_pow h3]
          simp [show ¬ k < n + 1 by omega]
theorem row_ext {x y n : Nat} (hx : x < 2 ^ n) (hy : y < 2 ^ n) (h : ∀ k, k < n → x.testBit k = y.testBit k) : x = y := by
  apply Nat.eq_of_testBit_eq
  intro k
  by_cases hk : k < n
  · exact h k hk
  · have hp : 2 ^ n ≤ 2 ^ k := Nat.pow_le_pow_right (by decide) (by omega)
    rw [Nat.testBit_lt_two_pow (by omega), Nat.testBit_lt_two_pow (by omega)]
theorem row_is {x n : Nat} {g : Nat → Bool} (hx : x < 2 ^ n) (h : ∀ k, k < n → x.testBit k = g k) : x = rowN g n :=
  row_ext hx (rowN_lt g n) fun k hk => by rw [h k hk, rowN_bit]; simp [hk]

/-- Of how many things a relation is. -/
def szR (r : List Nat) : Nat := if 32 < r.length then 0 else r.length
/-- Whether it has a pair. -/
def hasR (r : List Nat) (i k : Nat) : Bool := decide (i < szR r) && decide (k < szR r) && (r.getD i 0).testBit k
/-- The relation of n things with the pairs of f. -/
def mkR (n : Nat) (f : Nat → Nat → Bool) : List Nat := (List.range n).map fun i => rowN (f i) n
/-- Without bits that play no part. -/
def cleanR (r : List Nat) : List Nat := mkR (szR r) (hasR r)
theorem szR_le (r : List Nat) : szR r ≤ 32 := by unfold szR; split <;> omega
theorem szR_len (r : List Nat) : szR r ≤ r.length := by unfold szR; split <;> omega
theorem mkR_len (n : Nat) (f : Nat → Nat → Bool) : (mkR n f).length = n := by simp [mkR]
theorem mkR_sz {n : Nat} (f : Nat → Nat → Bool) (h : n ≤ 32) : szR (mkR n f) = n := by unfold szR; rw [mkR_len, if_neg (by omega)]
theorem mkR_at {n i : Nat} (f : Nat → Nat → Bool) (h : i < n) : (mkR n f).getD i 0 = rowN (f i) n := by simp [mkR, h]
theorem mkR_has {n : Nat} (f : Nat → Nat → Bool) (h : n ≤ 32) (i k : Nat) : hasR (mkR n f) i k = (decide (i < n) && decide (k < n) && f i k) := by
  unfold hasR
  rw [mkR_sz f h]
  by_cases hi : i < n
  · rw [mkR_at f hi, rowN_bit]
    by_cases hk : k < n <;> simp [hi, hk]
  · simp [hi]
theorem mkR_congr {n : Nat} {f g : Nat → Nat → Bool} (h : ∀ i k, i < n → k < n → f i k = g i k) : mkR n f = mkR n g := by
  unfold mkR
  apply List.map_congr_left
  intro i hi
  have hi' : i < n := by simpa using hi
  exact row_ext (rowN_lt _ _) (rowN_lt _ _) fun k hk => by rw [rowN_bit, rowN_bit, h i k hi' hk]
theorem mkR_inj {n : Nat} {f g : Nat → Nat → Bool} (h : mkR n f = mkR n g) {i k : Nat} (hi : i < n) (hk : k < n) : f i k = g i k := by
  have := congrArg (fun l => (l.getD i 0).testBit k) h
  simp only [mkR_at _ hi, rowN_bit, hk, decide_true, Bool.true_and] at this
  exact this
theorem clean_mk {n : Nat} (f : Nat → Nat → Bool) (h : n ≤ 32) : cleanR (mkR n f) = mkR n f := by
  unfold cleanR
  rw [mkR_sz f h]
  exact mkR_congr fun i k hi hk => by rw [mkR_has f h]; simp [hi, hk]
theorem clean_sz (r : List Nat) : szR (cleanR r) = szR r := mkR_sz _ (szR_le r)
theorem clean_has (r : List Nat) (i k : Nat) : hasR (cleanR r) i k = hasR r i k := by
  unfold cleanR
  rw [mkR_has _ (szR_le r)]
  unfold hasR
  by_cases h1 : i < szR r <;> by_cases h2 : k < szR r <;> simp [h1, h2]
theorem clean_clean (r : List Nat) : cleanR (cleanR r) = cleanR r := clean_mk _ (szR_le r)
theorem clean_eq {r s : List Nat} : cleanR r = cleanR s ↔ szR r = szR s ∧ ∀ i k, hasR r i k = hasR s i k := by
  constructor
  · intro h
    exact ⟨by rw [← clean_sz r, h, clean_sz], fun i k => by rw [← clean_has r, h, clean_has]⟩
  · rintro ⟨h1, h2⟩
    unfold cleanR
    rw [h1]
    exact mkR_congr fun i k _ _ => h2 i k
/-- Rows below 2 ^ n, of n things: nothing to clean. -/
theorem clean_self {r : List Nat} (h : r.length ≤ 32) (hr : ∀ x ∈ r, x < 2 ^ r.length) : cleanR r = r := by
  have hs : szR r = r.length := by unfold szR; rw [if_neg (by omega)]
  unfold cleanR
  rw [hs]
  apply List.ext_getElem (by simp [mkR])
  intro i h1 h2
  simp only [mkR, List.getElem_map, List.getElem_range]
  exact (row_is (hr _ (List.getElem_mem h2)) fun k hk => by unfold hasR; rw [hs]; simp [h2, hk]).symm

/-- One, and then the other. -/
def seqF (n : Nat) (f g : Nat → Nat → Bool) (i k : Nat) : Bool := (List.range n).any fun j => f i j && g j k
theorem seqF_iff {n : Nat} {f g : Nat → Nat → Bool} {i k : Nat} : seqF n f g i k = true ↔ ∃ j, j < n ∧ f i j = true ∧ g j k = true := by
  simp [seqF]
/-- The least that has f's pairs, and with i, j and j, k also i, k: by way of the first m things. -/
def wayF (f : Nat → Nat → Bool) : Nat → Nat → Nat → Bool
  | 0, i, k => f i k
  | m + 1, i, k => wayF f m i k || (wayF f m i m && wayF f m m k)
theorem way_up {f : Nat → Nat → Bool} {i k : Nat} : ∀ {m : Nat}, wayF f m i k = true → wayF f (m + 1) i k = true := by
  intro m h; simp [wayF, h]
theorem way_has {f : Nat → Nat → Bool} {i k : Nat} (h : f i k = true) : ∀ m, wayF f m i k = true
  | 0 => h
  | m + 1 => way_up (way_has h m)
/-- It is within whatever has f's pairs and is closed. -/
theorem way_least {f : Nat → Nat → Bool} {T : Nat → Nat → Prop} (hf : ∀ i k, f i k = true → T i k) (hT : ∀ i j k, T i j → T j k → T i k) : ∀ (m : Nat) {i k : Nat}, wayF f m i k = true → T i k
  | 0, _, _, h => hf _ _ h
  | m + 1, i, k, h => by
    simp only [wayF, Bool.or_eq_true, Bool.and_eq_true] at h
    rcases h with h | ⟨h1, h2⟩
    · exact way_least hf hT m h
    · exact hT _ _ _ (way_least hf hT m h1) (way_least hf hT m h2)
/-- By way of the first m things it is closed. -/
theorem way_thru {f : Nat → Nat → Bool} : ∀ (m : Nat) {i j k : Nat}, j < m → wayF f m i j = true → wayF f m j k = true → wayF f m i k = true
  | 0, _, _, _, h, _, _ => by omega
  | m + 1, i, j, k, hj, h1, h2 => by
    have ih := fun {i j k : Nat} => way_thru (f := f) m (i := i) (j := j) (k := k)
    simp only [wayF, Bool.or_eq_true, Bool.and_eq_true] at h1 h2 ⊢
    by_cases hm : j < m
    · rcases h1 with h1 | ⟨a1, a2⟩
      · rcases h2 with h2 | ⟨b1, b2⟩
        · exact .inl (ih hm h1 h2)
        · exact .inr ⟨ih hm h1 b1, b2⟩
      · rcases h2 with h2 | ⟨b1, b2⟩
        · exact .inr ⟨a1, ih hm a2 h2⟩
        · exact .inr ⟨a1, b2⟩
    · have e : j = m := by omega
      subst e
      rcases h1 with h1 | ⟨a1, _⟩
      · rcases h2 with h2 | ⟨_, b2⟩
        · exact .inr ⟨h1, h2⟩
        · exact .inr ⟨h1, b2⟩
      · rcases h2 with h2 | ⟨_, b2⟩
        · exact .inr ⟨a1, h2⟩
        · exact .inr ⟨a1, b2⟩
/-- Closed, of n things. -/
def plusF (n : Nat) (f : Nat → Nat → Bool) : Nat → Nat → Bool := wayF f n
def Within (n : Nat) (f : Nat → Nat → Bool) : Prop := ∀ i k, f i k = true → i < n ∧ k < n
theorem way_within {n : Nat} {f : Nat → Nat → Bool} (h : Within n f) (m : Nat) : Within n (wayF f m) := fun _ _ hk =>
  way_least (T := fun i k => i < n ∧ k < n) h (fun _ _ _ h1 h2 => ⟨h1.1, h2.2⟩) m hk
theorem plus_trans {n : Nat} {f : Nat → Nat → Bool} (h : Within n f) {i j k : Nat} (h1 : plusF n f i j = true) (h2 : plusF n f j k = true) : plusF n f i k = true :=
  way_thru n (way_within h n _ _ h1).2 h1 h2
theorem plus_least {n : Nat} {f : Nat → Nat → Bool} {T : Nat → Nat → Prop} (hf : ∀ i k, f i k = true → T i k) (hT : ∀ i j k, T i j → T j k → T i k) {i k : Nat} (h : plusF n f i k = true) : T i k := way_least hf hT n h
theorem plus_has {n : Nat} {f : Nat → Nat → Bool} {i k : Nat} (h : f i k = true) : plusF n f i k = true := way_has h n
/-- Whatever has f's pairs, is closed, and within all such, is it. -/
theorem plus_only {n : Nat} {f g : Nat → Nat → Bool} (_hw : Within n f) (hf : ∀ i k, f i k = true → g i k = true) (ht : ∀ i j k, g i j = true → g j k = true → g i k = true)
    (hl : ∀ i k, g i k = true → plusF n f i k = true) (i k : Nat) : g i k = plusF n f i k := by
  rw [Bool.eq_iff_iff]
  exact ⟨hl i k, fun h => plus_least (T := fun i k => g i k = true) hf ht h⟩

/-- Longer and longer ways. -/
def longF (n : Nat) (f : Nat → Nat → Bool) : Nat → Nat → Nat → Bool
  | 0, i, k => f i k
  | m + 1, i, k => longF n f m i k || seqF n (longF n f m) f i k
theorem count_lt {n : Nat} {g h : Nat → Bool} (hm : ∀ k, g k = true → h k = true) {k : Nat} (hk : k < n) (h1 : g k = false) (h2 : h k = true) : (List.range n).countP g < (List.range n).countP h := by
  have key : ∀ l : List Nat, l.countP g ≤ l.countP h ∧ (k ∈ l → l.countP g < l.countP h) := by
    intro l
    induction l with
    | nil => simp
    | cons a l ih =>
      obtain ⟨i1, i2⟩ := ih
      simp only [List.countP_cons]
      have ha : (if g a = true then 1 else 0) ≤ (if h a = true then 1 else 0) := by
        by_cases e : g a = true
        · simp [e, hm a e]
        · simp [e]
      refine ⟨by omega, fun hl => ?_⟩
      rcases List.mem_cons.1 hl with rfl | hl
      · simp [h1, h2]; omega
      · have := i2 hl; omega
  exact (key _).2 (by simpa using hk)
/-- From one thing: it grows, and stands still once it has. -/
theorem long_stop {n : Nat} {f : Nat → Nat → Bool} (hw : Within n f) (i : Nat) : ∀ m, (∃ j, j ≤ m ∧ ∀ k, longF n f j i k = longF n f (j + 1) i k) ∨ m ≤ (List.range n).countP (longF n f m i)
  | 0 => .inr (Nat.zero_le _)
  | m + 1 => by
    rcases long_stop hw i m with ⟨j, h1, h2⟩ | h
    · exact .inl ⟨j, by omega, h2⟩
    · by_cases e : ∀ k, longF n f m i k = longF n f (m + 1) i k
      · exact .inl ⟨m, by omega, e⟩
      · obtain ⟨k, hk⟩ := Classical.not_forall.1 e
        refine .inr ?_
        have hmono : ∀ k, longF n f m i k = true → longF n f (m + 1) i k = true := fun k h => by simp [longF, h]
        have h1 : longF n f m i k = false := by
          cases hh : longF n f m i k
          · rfl
          · exact absurd (hh.trans (hmono k hh).symm) hk
        have h2 : longF n f (m + 1) i k = true := by
          cases hh : longF n f (m + 1) i k
          · exact absurd (h1.trans hh.symm) hk
          · rfl
        have hkn : k < n := by
          simp only [longF, h1, Bool.false_or, seqF_iff] at h2
          obtain ⟨j, _, _, h3⟩ := h2
          exact (hw _ _ h3).2
        have := count_lt hmono hkn h1 h2
        omega
theorem long_still {n : Nat} {f : Nat → Nat → Bool} {i j : Nat} (h : ∀ k, longF n f j i k = longF n f (j + 1) i k) : ∀ d k, longF n f (j + d) i k = longF n f j i k
  | 0, _ => rfl
  | d + 1, k => by
    have ih := long_still h d
    rw [h k]
    show (longF n f (j + d) i k || seqF n (longF n f (j + d)) f i k) = (longF n f j i k || seqF n (longF n f j) f i k)
    rw [ih k]
    congr 1
    unfold seqF
    congr 1
    funext x
    rw [ih x]
theorem long_end {n : Nat} {f : Nat → Nat → Bool} (hw : Within n f) (i k : Nat) : longF n f n i k = longF n f (n + 1) i k := by
  have hc : ∀ (g : Nat → Bool), (List.range n).countP g ≤ n := fun g => by simpa using List.countP_le_length (l := List.range n) (p := g)
  rcases long_stop hw i (n + 1) with ⟨j, h1, h2⟩ | h
  · by_cases hj : j ≤ n
    · have a := long_still h2 (n - j) k
      have b := long_still h2 (n + 1 - j) k
      rw [show j + (n - j) = n by omega] at a
      rw [show j + (n + 1 - j) = n + 1 by omega] at b
      rw [a, b]
    · have hj' : j = n + 1 := by omega
      rcases long_stop hw i n with ⟨j', h1', h2'⟩ | h'
      · have a := long_still h2' (n - j') k
        have b := long_still h2' (n + 1 - j') k
        rw [show j' + (n - j') = n by omega] at a
        rw [show j' + (n + 1 - j') = n + 1 by omega] at b
        rw [a, b]
      · cases hh : longF n f (n + 1) i k with
        | false =>
          cases h3 : longF n f n i k with
          | false => rfl
          | true => rw [longF, h3] at hh; cases hh
        | true =>
          cases h3 : longF n f n i k with
          | true => rfl
          | false =>
            have hkn : k < n := by
              simp only [longF, h3, Bool.false_or, seqF_iff] at hh
              obtain ⟨_, _, _, h4⟩ := hh
              exact (hw _ _ h4).2
            have := count_lt (n := n) (g := longF n f n i) (h := fun _ => true) (fun _ _ => rfl) hkn h3 rfl
            have := hc (fun _ => true)
            omega
  · have := hc (longF n f (n + 1) i)
    omega
theorem long_plus {n : Nat} {f : Nat → Nat → Bool} (hw : Within n f) (i k : Nat) : longF n f n i k = plusF n f i k := by
  have hup : ∀ m {i k}, longF n f m i k = true → longF n f (m + 1) i k = true := fun m i k h => by simp [longF, h]
  refine plus_only hw (fun i k h => ?_) (fun i j k h1 h2 => ?_) (fun i k h => ?_) i k
  · have : ∀ m, longF n f m i k = true := fun m => by
      induction m with
      | zero => exact h
      | succ m ih => exact hup m ih
    exact this n
  · have step : ∀ {j k}, longF n f n i j = true → f j k = true → longF n f n i k = true := fun {j k} a b => by
      rw [long_end hw]
      simp only [longF, Bool.or_eq_true, seqF_iff]
      exact .inr ⟨j, (hw _ _ b).1, a, b⟩
    have : ∀ m {k}, longF n f m j k = true → longF n f n i k = true := fun m => by
      induction m with
      | zero => exact fun h => step h1 h
      | succ m ih =>
        intro k h
        simp only [longF, Bool.or_eq_true, seqF_iff] at h
        rcases h with h | ⟨x, _, a, b⟩
        · exact ih h
        · exact step (ih a) b
    exact this n h2
  · have : ∀ m {k}, longF n f m i k = true → plusF n f i k = true := fun m => by
      induction m with
      | zero => exact fun h => plus_has h
      | succ m ih =>
        intro k h
        simp only [longF, Bool.or_eq_true, seqF_iff] at h
        rcases h with h | ⟨x, _, a, b⟩
        · exact ih h
        · exact plus_trans hw (ih a) (plus_has b)
    exact this n h
end Go.Proofs.Ytgffeihfcmbobaa

/- The algebra of relations: turned, joined, closed; pairs. No program. -/
namespace Go.Proofs.Ytgffeihfcmbobaa

theorem has_within (r : List Nat) : Within (szR r) (hasR r) := fun i k h => by
  simp only [hasR, Bool.and_eq_true, decide_eq_true_eq] at h
  exact h.1
def invF (f : Nat → Nat → Bool) (i k : Nat) : Bool := f k i
def orF (f g : Nat → Nat → Bool) (i k : Nat) : Bool := f i k || g i k
def andF (f g : Nat → Nat → Bool) (i k : Nat) : Bool := f i k && g i k
def acyF (n : Nat) (f : Nat → Nat → Bool) : Bool := (List.range n).all fun i => !plusF n f i i
theorem within_inv {n : Nat} {f : Nat → Nat → Bool} (h : Within n f) : Within n (invF f) := fun i k hk => (h k i hk).symm
theorem within_or {n : Nat} {f g : Nat → Nat → Bool} (h : Within n f) (k : Within n g) : Within n (orF f g) := fun i j hj => by
  simp only [orF, Bool.or_eq_true] at hj
  exact hj.elim (h i j) (k i j)
theorem within_and {n : Nat} {f g : Nat → Nat → Bool} (h : Within n f) : Within n (andF f g) := fun i j hj => by
  simp only [andF, Bool.and_eq_true] at hj
  exact h i j hj.1
theorem within_seq {n : Nat} {f g : Nat → Nat → Bool} (h : Within n f) (k : Within n g) : Within n (seqF n f g) := fun i j hj => by
  obtain ⟨x, _, h1, h2⟩ := seqF_iff.1 hj
  exact ⟨(h _ _ h1).1, (k _ _ h2).2⟩
theorem within_plus {n : Nat} {f : Nat → Nat → Bool} (h : Within n f) : Within n (plusF n f) := way_within h n
theorem within_sub {n : Nat} {f g : Nat → Nat → Bool} (h : Within n f) (hs : ∀ i k, g i k = true → f i k = true) : Within n g := fun i k hk => h i k (hs i k hk)

theorem seq_inv (n : Nat) (f g : Nat → Nat → Bool) (i k : Nat) : seqF n (invF g) (invF f) i k = invF (seqF n f g) i k := by
  rw [Bool.eq_iff_iff]
  simp only [invF, seqF_iff]
  exact ⟨fun ⟨j, h1, h2, h3⟩ => ⟨j, h1, h3, h2⟩, fun ⟨j, h1, h2, h3⟩ => ⟨j, h1, h3, h2⟩⟩
theorem seq_assoc (n : Nat) (f g h : Nat → Nat → Bool) (i k : Nat) : seqF n (seqF n f g) h i k = seqF n f (seqF n g h) i k := by
  rw [Bool.eq_iff_iff]
  simp only [seqF_iff]
  constructor
  · rintro ⟨j, h1, ⟨x, h2, h3, h4⟩, h5⟩
    exact ⟨x, h2, h3, j, h1, h4, h5⟩
  · rintro ⟨x, h2, h3, j, h1, h4, h5⟩
    exact ⟨j, h1, ⟨x, h2, h3, h4⟩, h5⟩
theorem seq_or (n : Nat) (f g h : Nat → Nat → Bool) (i k : Nat) : seqF n (orF f g) h i k = orF (seqF n f h) (seqF n g h) i k := by
  rw [Bool.eq_iff_iff]
  simp only [orF, Bool.or_eq_true, seqF_iff]
  constructor
  · rintro ⟨j, h1, h2 | h2, h3⟩
    · exact .inl ⟨j, h1, h2, h3⟩
    · exact .inr ⟨j, h1, h2, h3⟩
  · rintro (⟨j, h1, h2, h3⟩ | ⟨j, h1, h2, h3⟩)
    · exact ⟨j, h1, .inl h2, h3⟩
    · exact ⟨j, h1, .inr h2, h3⟩
theorem seq_congr {n : Nat} {f f' g g' : Nat → Nat → Bool} (hf : ∀ i k, i < n → k < n → f i k = f' i k) (hg : ∀ i k, i < n → k < n → g i k = g' i k) {i k : Nat} (hi : i < n) (hk : k < n) : seqF n f g i k = seqF n f' g' i k := by
  rw [Bool.eq_iff_iff, seqF_iff, seqF_iff]
  exact ⟨fun ⟨j, h1, h2, h3⟩ => ⟨j, h1, by rw [← hf i j hi h1]; exact h2, by rw [← hg j k h1 hk]; exact h3⟩, fun ⟨j, h1, h2, h3⟩ => ⟨j, h1, by rw [hf i j hi h1]; exact h2, by rw [hg j k h1 hk]; exact h3⟩⟩
theorem plus_mono {n : Nat} {f g : Nat → Nat → Bool} (hw : Within n g) (h : ∀ i k, f i k = true → g i k = true) {i k : Nat} (hp : plusF n f i k = true) : plusF n g i k = true :=
  plus_least (T := fun i k => plusF n g i k = true) (fun i k hf => plus_has (h i k hf)) (fun _ _ _ => plus_trans hw) hp
theorem plus_plus {n : Nat} {f : Nat → Nat → Bool} (hw : Within n f) (i k : Nat) : plusF n (plusF n f) i k = plusF n f i k :=
  (plus_only (within_plus hw) (fun _ _ h => h) (fun _ _ _ h1 h2 => plus_trans hw h1 h2) (fun _ _ h => plus_has h) i k).symm
theorem plus_or {n : Nat} {f : Nat → Nat → Bool} (i k : Nat) : orF (plusF n f) f i k = plusF n f i k := by
  unfold orF
  cases h : f i k with
  | false => simp
  | true => rw [plus_has h]; rfl
theorem plus_seq {n : Nat} {f : Nat → Nat → Bool} (hw : Within n f) (i k : Nat) : orF (plusF n f) (seqF n (plusF n f) (plusF n f)) i k = plusF n f i k := by
  unfold orF
  cases h : seqF n (plusF n f) (plusF n f) i k with
  | false => simp
  | true =>
    obtain ⟨j, _, h1, h2⟩ := seqF_iff.1 h
    rw [plus_trans hw h1 h2]; rfl
theorem plus_inv {n : Nat} {f : Nat → Nat → Bool} (hw : Within n f) (i k : Nat) : plusF n (invF f) i k = plusF n f k i := by
  rw [Bool.eq_iff_iff]
  exact ⟨fun h => plus_least (T := fun i k => plusF n f k i = true) (fun _ _ h => plus_has h) (fun _ _ _ h1 h2 => plus_trans hw h2 h1) h,
    fun h => plus_least (T := fun i k => plusF n (invF f) k i = true) (fun _ _ h => plus_has (f := invF f) h) (fun _ _ _ h1 h2 => plus_trans (within_inv hw) h2 h1) h⟩
theorem acy_iff {n : Nat} {f : Nat → Nat → Bool} (hw : Within n f) : acyF n f = true ↔ ∀ i, plusF n f i i = false := by
  unfold acyF
  simp only [List.all_eq_true, List.mem_range, Bool.not_eq_true']
  refine ⟨fun h i => ?_, fun h i _ => h i⟩
  cases hp : plusF n f i i with
  | false => rfl
  | true => rw [← hp]; exact h i (within_plus hw i i hp).1
theorem acy_part {n : Nat} {f g : Nat → Nat → Bool} (hw : Within n f) (hs : ∀ i k, g i k = true → f i k = true) (h : acyF n f = true) : acyF n g = true := by
  rw [acy_iff hw] at h
  rw [acy_iff (within_sub hw hs)]
  intro i
  cases hp : plusF n g i i with
  | false => rfl
  | true => rw [← h i]; exact (plus_mono hw hs hp).symm
theorem acy_inv {n : Nat} {f : Nat → Nat → Bool} (hw : Within n f) : acyF n (invF f) = acyF n f := by
  unfold acyF
  congr 1
  funext i
  rw [plus_inv hw]
theorem acy_plus {n : Nat} {f : Nat → Nat → Bool} (hw : Within n f) : acyF n (plusF n f) = acyF n f := by
  unfold acyF
  congr 1
  funext i
  rw [plus_plus hw]
theorem within_eq {n : Nat} {f g : Nat → Nat → Bool} (hf : Within n f) (hg : Within n g) (h : ∀ i k, i < n → k < n → f i k = g i k) : f = g := by
  funext i k
  rw [Bool.eq_iff_iff]
  exact ⟨fun e => by rw [← h i k (hf i k e).1 (hf i k e).2]; exact e, fun e => by rw [h i k (hg i k e).1 (hg i k e).2]; exact e⟩

/-- All pairs, rising. -/
def pairsF (n : Nat) (f : Nat → Nat → Bool) : List (Nat × Nat) := (List.range n).flatMap fun i => ((List.range n).filter (f i)).map fun k => (i, k)
theorem pairs_mem {n : Nat} {f : Nat → Nat → Bool} {i k : Nat} : (i, k) ∈ pairsF n f ↔ i < n ∧ k < n ∧ f i k = true := by
  simp [pairsF, List.mem_flatMap]
theorem pairs_nodup (n : Nat) (f : Nat → Nat → Bool) : (pairsF n f).Nodup := by
  have key : ∀ l : List Nat, l.Nodup → (l.flatMap fun i => ((List.range n).filter (f i)).map fun k => (i, k)).Nodup := by
    intro l
    induction l with
    | nil => intro _; simp
    | cons a l ih =>
      intro hl
      obtain ⟨h1, h2⟩ := List.nodup_cons.1 hl
      rw [List.flatMap_cons, List.nodup_append]
      refine ⟨?_, ih h2, ?_⟩
      · have : ((List.range n).filter (f a)).Nodup := List.nodup_range.filter _
        exact List.Pairwise.map _ (fun x y hxy e => hxy (by simpa using e)) this
      · intro x hx y hy e
        subst e
        obtain ⟨_, _, rfl⟩ := List.mem_map.1 hx
        obtain ⟨i, hi, hm⟩ := List.mem_flatMap.1 hy
        obtain ⟨k, _, e⟩ := List.mem_map.1 hm
        simp only [Prod.mk.injEq] at e
        rw [e.1] at hi
        exact h1 hi
  exact key _ List.nodup_range
/-- The relation of some pairs. -/
def ofF (l : List (Nat × Nat)) (i k : Nat) : Bool := l.contains (i, k)
theorem of_pairs {n : Nat} {f : Nat → Nat → Bool} (hw : Within n f) : ofF (pairsF n f) = f := by
  funext i k
  rw [Bool.eq_iff_iff]
  unfold ofF
  rw [List.contains_iff_mem, pairs_mem]
  exact ⟨fun h => h.2.2, fun h => ⟨(hw i k h).1, (hw i k h).2, h⟩⟩
end Go.Proofs.Ytgffeihfcmbobaa

/- Laws of no program: numbers of 32 bits and pairs in slices; a row of numbers that a call has made, and writes into. -/
namespace Go.Proofs.Ytgffeihfcmbobaa
open Go.RowKit

/-- Numbers of 32 bits. -/
def U32E : Elem Nat where
  size := 1
  pos := Nat.one_pos
  cs := fun _ _ x c => c = [.int .u32 (x : Int)] ∧ x < 4294967296
  len := fun h => by rw [h.1]; rfl
  one := fun h u hu => by rw [h.1] at hu; simp at hu; subst hu; rfl
  keep := fun h _ => h
  mono := fun _ h => h
  lt := fun h => h
/-- Two numbers. -/
def PairE : Elem (Nat × Nat) where
  size := 2
  pos := by decide
  cs := fun _ _ x c => c = [.int .i64 (x.1 : Int), .int .i64 (x.2 : Int)]
  len := fun h => by subst h; rfl
  one := fun h u hu => by subst h; simp at hu; rcases hu with rfl | rfl <;> rfl
  keep := fun h _ => h
  mono := fun _ h => h
  lt := fun h => h

theorem u32_at {A : Nat → Prop} {w : World} {p : Option Addr} {n c : Nat} {xs : List Nat} (h : SlA A U32E w (.slice p n c) xs) : n = xs.length ∧ ∀ k (hk : k < xs.length), xs[k] < 4294967296 ∧ ∃ b o, p = some ⟨b, o, none⟩ ∧ w.cell? ⟨b, o + k, none⟩ = some (.int .u32 (xs[k] : Nat)) := by
  obtain ⟨h1, h2⟩ := h.at
  refine ⟨h1, fun k hk => ?_⟩
  obtain ⟨b, o, rfl, _, cs, ⟨h3, h5⟩, h4⟩ := h2 k hk
  have := h4 0 _ (by rw [h3]; rfl)
  exact ⟨h5, b, o, rfl, by simpa [U32E] using this⟩
theorem u32_lt {A : Nat → Prop} {w : World} {v : Value} {xs : List Nat} (h : SlA A U32E w v xs) : ∀ x ∈ xs, x < 4294967296 := by
  intro x hx
  obtain ⟨i, hi, rfl⟩ := List.getElem_of_mem hx
  obtain ⟨p, c, rfl⟩ := h.len
  exact ((u32_at h).2 i hi).1
theorem pair_at {A : Nat → Prop} {w : World} {p : Option Addr} {n c : Nat} {xs : List (Nat × Nat)} (h : SlA A PairE w (.slice p n c) xs) : n = xs.length ∧ ∀ k (hk : k < xs.length), ∃ b o, p = some ⟨b, o, none⟩ ∧ w.cell? ⟨b, o + k * 2, none⟩ = some (.int .i64 (xs[k].1 : Nat)) ∧ w.cell? ⟨b, o + k * 2 + 1, none⟩ = some (.int .i64 (xs[k].2 : Nat)) := by
  obtain ⟨h1, h2⟩ := h.at
  refine ⟨h1, fun k hk => ?_⟩
  obtain ⟨b, o, rfl, _, cs, h3, h4⟩ := h2 k hk
  have e : cs = [.int .i64 (xs[k].1 : Int), .int .i64 (xs[k].2 : Int)] := h3
  subst e
  exact ⟨b, o, rfl, by simpa [PairE] using h4 0 _ rfl, by simpa [PairE] using h4 1 _ rfl⟩

/-- A row of n numbers, g's, in a block of its own. -/
def rowsV (n : Nat) (g : Nat → Nat) : Array Value := ((List.range n).map fun i => Value.int .u32 (g i : Int)).toArray
def Row (w : World) (b : Nat) (t : TypeId) (n : Nat) (g : Nat → Nat) : Prop := Blk w b (rowsV n g) t
/-- One of them another. -/
def updN (g : Nat → Nat) (k x : Nat) (i : Nat) : Nat := if i = k then x else g i

section
variable {w w' : World} {b n i : Nat} {t : TypeId} {g g' : Nat → Nat}
theorem Row.lt (h : Row w b t n g) : b < w.heap.size := Blk.lt h
theorem Row.cell (h : Row w b t n g) (hi : i < n) : w.cell? ⟨b, i, none⟩ = some (.int .u32 (g i : Nat)) := by
  rw [Blk.cell h i]; simp [rowsV, hi]
theorem Row.frozen (h : Row w b t n g) (i : Nat) : w.frozen? ⟨b, i, none⟩ = false := Blk.frozen h i
theorem Row.keep (h : Row w b t n g) (hb : Below w.heap.size w w') : Row w' b t n g := Blk.keep h hb
theorem Row.drew (h : Row w b t n g) : Row w.drew b t n g := h
theorem Row.keepAt {B : Nat} (h : Row w b t n g) (hb : Below B w w') (hB : b < B) : Row w' b t n g := by
  unfold Row Blk at *; rw [hb.block b hB]; exact h
theorem Row.congr (h : Row w b t n g) (hg : ∀ i, i < n → g i = g' i) : Row w b t n g' := by
  have : rowsV n g' = rowsV n g := by
    unfold rowsV
    congr 1
    exact List.map_congr_left fun i hi => by rw [hg i (by simpa using hi)]
  unfold Row; rw [this]; exact h
theorem Row.set (h : Row w b t n g) (_hi : i < n) (x : Nat) : Row (w.setCell ⟨b, i, none⟩ (.int .u32 (x : Nat))) b t n (updN g i x) := by
  have h1 := Blk.set (i := i) h (.int .u32 (x : Int))
  have : (rowsV n g).setIfInBounds i (.int .u32 (x : Int)) = rowsV n (updN g i x) := by
    unfold rowsV
    rw [List.setIfInBounds_toArray]
    congr 1
    apply List.ext_getElem (by simp)
    intro j h1 h2
    simp only [List.getElem_set, List.getElem_map, List.getElem_range, updN]
    by_cases e : i = j
    · subst e; simp
    · rw [if_neg e, if_neg (fun h => e h.symm)]
  rw [this] at h1
  exact h1
theorem Row.setI (h : Row w b t n g) (hi : i < n) {z : Int} {x : Nat} (hz : z = (x : Int)) : Row (w.setCell ⟨b, i, none⟩ (.int .u32 z)) b t n (updN g i x) := by subst hz; exact h.set hi x
theorem Row.slA {A : Nat → Prop} (h : Row w b t n g) (hA : A b) (hg : ∀ i, i < n → g i < 4294967296) : SlA A U32E w (.slice (some ⟨b, 0, none⟩) n n) ((List.range n).map g) := by
  refine ⟨_, n, by simp, ⟨(fun e => by cases e), by simp⟩, fun _ => ⟨b, 0, rfl, hA, fun i hi => ?_⟩⟩
  have hi' : i < n := by simpa using hi
  refine ⟨_, ⟨rfl, by simpa using hg i hi'⟩, fun j u hu => ?_⟩
  match j, hu with
  | 0, hu => simp at hu; subst hu; simpa [U32E] using h.cell hi'
  | j + 1, hu => simp at hu
theorem below_set {B : Nat} {a : World} (h : Below B a w) (hB : B ≤ b) (v : Value) : Below B a (w.setCell ⟨b, i, none⟩ v) :=
  ⟨h.os, h.tape, h.output, Nat.le_trans h.size (by simp [World.setCell]), fun k hk => (Below.heap_setCell _ _ _ _ (by simp; omega)).trans (h.block k hk)⟩
end

/-- Bits of numbers of 32 bits. -/
theorem and_u32 {a b : Nat} (ha : a < 4294967296) (hb : b < 4294967296) : bits .and .u32 (a : Int) (b : Int) = ((a &&& b : Nat) : Int) := by
  have hx : a &&& b < 2 ^ 32 := Nat.and_lt_two_pow _ (by omega)
  have h1 : (BitVec.ofInt 32 (a : Int)).toNat = a := by
    rw [BitVec.ofInt_natCast, BitVec.toNat_ofNat]; exact Nat.mod_eq_of_lt (by omega)
  have h2 : (BitVec.ofInt 32 (b : Int)).toNat = b := by
    rw [BitVec.ofInt_natCast, BitVec.toNat_ofNat]; exact Nat.mod_eq_of_lt (by omega)
  show IntKind.u32.wrap ((BitVec.ofInt 32 (a : Int) &&& BitVec.ofInt 32 (b : Int)).toNat : Int) = _
  rw [BitVec.toNat_and, h1, h2, IntKind.wrap_u32]
  omega
theorem or_u32 {a b : Nat} (ha : a < 4294967296) (hb : b < 4294967296) : bits .or .u32 (a : Int) (b : Int) = ((a ||| b : Nat) : Int) := by
  have hx : a ||| b < 2 ^ 32 := Nat.or_lt_two_pow (by omega) (by omega)
  have h1 : (BitVec.ofInt 32 (a : Int)).toNat = a := by
    rw [BitVec.ofInt_natCast, BitVec.toNat_ofNat]; exact Nat.mod_eq_of_lt (by omega)
  have h2 : (BitVec.ofInt 32 (b : Int)).toNat = b := by
    rw [BitVec.ofInt_natCast, BitVec.toNat_ofNat]; exact Nat.mod_eq_of_lt (by omega)
  show IntKind.u32.wrap ((BitVec.ofInt 32 (a : Int) ||| BitVec.ofInt 32 (b : Int)).toNat : Int) = _
  rw [BitVec.toNat_or, h1, h2, IntKind.wrap_u32]
  omega
theorem shr_bit {x k : Nat} (hx : x < 4294967296) : (bits .and .u32 ((x : Int) / 2 ^ min k 32) 1 == 1) = x.testBit k := by
  have e : (x : Int) / 2 ^ min k 32 = ((x >>> k : Nat) : Int) := by
    rw [Nat.shiftRight_eq_div_pow]
    by_cases hk : k ≤ 32
    · rw [Nat.min_eq_left hk]; simp
    · have h1 : x / 2 ^ k = 0 := Nat.div_eq_of_lt (Nat.lt_of_lt_of_le hx (Nat.le_trans (show 4294967296 ≤ 2 ^ 32 by decide) (Nat.pow_le_pow_right (by decide) (by omega))))
      rw [Nat.min_eq_right (by omega), h1]
      omega
  have hs : x >>> k < 4294967296 := Nat.lt_of_le_of_lt (by rw [Nat.shiftRight_eq_div_pow]; exact Nat.div_le_self _ _) hx
  have h1 := and_u32 (a := x >>> k) (b := 1) hs (by decide)
  rw [e, show (1 : Int) = ((1 : Nat) : Int) from rfl, h1]
  unfold Nat.testBit
  rw [Nat.and_comm, Nat.one_and_eq_mod_two]
  rcases Nat.mod_two_eq_zero_or_one (x >>> k) with h | h <;> simp [h]
theorem pow_u32 {k : Nat} (h : k < 32) : ((2 : Int) ^ k % 4294967296) = ((2 ^ k : Nat) : Int) := by
  have : 2 ^ k < 4294967296 := Nat.lt_of_lt_of_le (Nat.pow_lt_pow_right (by decide) h) (by decide)
  rw [show ((2 : Int) ^ k) = ((2 ^ k : Nat) : Int) by simp]
  generalize 2 ^ k = z at *
  omega
theorem ones_u32 {n : Nat} (h : n ≤ 32) : (((2 : Int) ^ n % 4294967296 - 1) % 4294967296) = ((2 ^ n - 1 : Nat) : Int) := by
  by_cases hn : n = 32
  · subst hn; decide
  · have h1 : n < 32 := by omega
    rw [pow_u32 h1]
    have h2 : 2 ^ n < 4294967296 := Nat.lt_of_lt_of_le (Nat.pow_lt_pow_right (by decide) h1) (by decide)
    have h3 : 0 < 2 ^ n := Nat.two_pow_pos n
    generalize 2 ^ n = z at *
    omega

/-- Rows below 2^n. -/
theorem rowN_u32 {g : Nat → Bool} {n : Nat} (h : n ≤ 32) : rowN g n < 4294967296 := Nat.lt_of_lt_of_le (rowN_lt g n) (Nat.le_trans (Nat.pow_le_pow_right (by decide) h) (by decide))
theorem Row.mk {A : Nat → Prop} {w : World} {b n : Nat} {t : TypeId} {f : Nat → Nat → Bool} (h : Row w b t n fun i => rowN (f i) n) (hA : A b) (hn : n ≤ 32) : SlA A U32E w (.slice (some ⟨b, 0, none⟩) n n) (mkR n f) :=
  h.slA hA fun _ _ => rowN_u32 hn
end Go.Proofs.Ytgffeihfcmbobaa

/- Contracts of rel's small functions: things, isThing, hasBit, allBits, New. -/
namespace Go.Proofs.Ytgffeihfcmbobaa
open Go.RowKit

set_option maxHeartbeats 1000000 in
theorem hasBit_any (x k : Nat) (w : World) (hx : x < 4294967296) (_hk : k < 64) : Calls Try.prog 36 #[.int .u32 (x : Int), .int .i64 (k : Int)] w fun e w' => e = .returned (.bool (x.testBit k)) ∧ Below w.heap.size w w' := by
  go_enter Try.func36, Try.ntmps36
  go_wp2
  go_ret
  exact ⟨by rw [← shr_bit hx]; rfl, Below.refl _ _⟩
set_option maxHeartbeats 1000000 in
theorem allBits_any (n : Nat) (w : World) (hn : n ≤ 32) : Calls Try.prog 45 #[.int .i64 (n : Int)] w fun e w' => e = .returned (.int .u32 ((2 ^ n - 1 : Nat) : Int)) ∧ Below w.heap.size w w' := by
  go_enter Try.func45, Try.ntmps45
  go_wp2
  go_ret
  exact ⟨by rw [← ones_u32 hn]; rfl, Below.refl _ _⟩
set_option maxHeartbeats 1000000 in
theorem things_any (p : Option Addr) (c : Nat) (xs : List Nat) (w : World) : Calls Try.prog 35 #[.slice p xs.length c] w fun e w' => e = .returned (.int .i64 (szR xs : Nat)) ∧ Below w.heap.size w w' := by
  unfold szR
  by_cases h : 32 < xs.length
  · have h' : (32 : Int) < (xs.length : Int) := by omega
    rw [if_pos h]
    go_enter Try.func35, Try.ntmps35
    go_wp2
    go_ret
    exact ⟨rfl, by go_grown⟩
  · have h' : ¬ (32 : Int) < (xs.length : Int) := by omega
    rw [if_neg h]
    go_enter Try.func35, Try.ntmps35
    go_wp2
    go_ret
    exact ⟨rfl, by go_grown⟩
theorem info_u32R : ((Try.prog.info? 71).map fun i => (i.zero, i.size, i.bytes)) = some (some (.int .u32 0), 1, 4) := by kernel_rfl
theorem get_info {P : Program} {t : TypeId} {z : Value} {b c : Nat} (h : ((P.info? t).map fun i => (i.zero, i.size, i.bytes)) = some (some z, b, c)) : ∃ i, P.info? t = some i ∧ i.zero = some z ∧ i.size = b ∧ i.bytes = c := by
  cases hi : P.info? t with
  | none => rw [hi] at h; simp at h
  | some i => rw [hi] at h; simp at h; exact ⟨i, rfl, h.1, h.2.1, h.2.2⟩
def newN (n : Int) : Nat := if n < 0 ∨ 32 < n then 0 else n.toNat
theorem made_zero (n : Nat) : madeCells (Value.int .u32 0).cells (n * 1) = rowsV n (fun _ => 0) := by
  unfold madeCells rowsV
  apply Array.ext (by simp)
  intro i h1 h2
  simp [Value.cells, Nat.mod_one]
theorem make_rel (n : Int) (w : World) (h0 : 0 ≤ n) (hn : n ≤ 100) : (Instr.makeSlice 27 (.int .i64 n) (.int .i64 n)).run Try.prog w = .ok (.slice (some ⟨w.heap.size, 0, none⟩) n.toNat n.toNat) (w.alloc (.cells (rowsV n.toNat (fun _ => 0)) 71)) := by
  obtain ⟨i, j1, j2, j3, j4⟩ := get_info info_u32R
  rw [run_makeSlice (P := Try.prog) w 27 71 _ _ Try.underlying27 j1 j2 .i64 .i64 n n h0 (Int.le_refl _) (by rw [j3]; omega) (by rw [j4]; omega) (by omega), j3, made_zero]
set_option maxHeartbeats 1000000 in
theorem New_any (n : Int) (w : World) : Calls Try.prog 32 #[.int .i64 n] w fun e w' => ∃ b, e = .returned (.slice (some ⟨b, 0, none⟩) (newN n) (newN n)) ∧ Row w' b 71 (newN n) (fun _ => 0) ∧ w.heap.size ≤ b ∧ Below w.heap.size w w' := by
  unfold newN
  by_cases h : n < 0 ∨ 32 < n
  · rw [if_pos h]
    rcases h with h | h
    · go_enter Try.func32, Try.ntmps32
      go_wp2
      go_ret
      exact ⟨_, rfl, Blk.new, Nat.le_refl _, by go_grown⟩
    · have h0 : ¬ n < 0 := by omega
      go_enter Try.func32, Try.ntmps32
      go_wp2
      go_ret
      exact ⟨_, rfl, Blk.new, Nat.le_refl _, by go_grown⟩
  · rw [if_neg h]
    have h0 : ¬ n < 0 := by omega
    have h32 : ¬ 32 < n := by omega
    have hmk := make_rel n w (by omega) (by omega)
    go_enter Try.func32, Try.ntmps32
    go_wp2
    go_ret
    exact ⟨_, rfl, Blk.new, Nat.le_refl _, by go_grown⟩
end Go.Proofs.Ytgffeihfcmbobaa

/- Contracts of rel's isThing, Has, clean, ofBoth. -/
namespace Go.Proofs.Ytgffeihfcmbobaa
open Go.RowKit
attribute [local go_sem] Ext.cell Ext.frozen

theorem newN_len (xs : List Nat) : newN (xs.length : Int) = szR xs := by
  unfold newN szR
  by_cases h : 32 < xs.length
  · rw [if_pos (by omega), if_pos h]
  · rw [if_neg (by omega), if_neg h]; simp
theorem newN_nat {n : Nat} (h : n ≤ 32) : newN (n : Int) = n := by unfold newN; rw [if_neg (by omega)]; simp

def thing (xs : List Nat) (i : Int) : Bool := decide (0 ≤ i) && decide (i < (szR xs : Nat))
theorem thing_yes {xs : List Nat} {i : Int} (h : thing xs i = true) : ∃ k : Nat, i = (k : Int) ∧ k < szR xs := by
  simp only [thing, Bool.and_eq_true, decide_eq_true_eq] at h
  exact ⟨i.toNat, by omega, by omega⟩

set_option maxHeartbeats 1000000 in
theorem isThing_any (p : Option Addr) (c : Nat) (xs : List Nat) (i : Int) (w : World) : Calls Try.prog 41 #[.slice p xs.length c, .int .i64 i] w fun e w' => e = .returned (.bool (thing xs i)) ∧ Below w.heap.size w w' := by
  unfold thing
  by_cases h : 0 ≤ i
  · rw [decide_eq_true h, Bool.true_and]
    have C := things_any p c xs w
    generalize szR xs = n at *
    go_enter Try.func41, Try.ntmps41
    go_wp2_with (go_at_call 35; refine C.mono ?_; rintro e w2 ⟨rfl, hb2⟩)
    go_ret
    exact ⟨rfl, hb2⟩
  · rw [decide_eq_false h, Bool.false_and]
    go_enter Try.func41, Try.ntmps41
    go_wp2
    go_ret
    exact ⟨rfl, by go_grown⟩

/-- Whether it has a pair of any numbers. -/
def hasI (xs : List Nat) (i k : Int) : Bool := thing xs i && thing xs k && hasR xs i.toNat k.toNat
theorem hasI_nat (xs : List Nat) (i k : Nat) : hasI xs i k = hasR xs i k := by
  unfold hasI thing hasR
  by_cases h1 : i < szR xs <;> by_cases h2 : k < szR xs <;> simp [h1, h2]

/-- The first k rows made. -/
def partN (F : Nat → Nat) (k i : Nat) : Nat := if i < k then F i else 0
theorem Row.start {w : World} {b n : Nat} {t : TypeId} (F : Nat → Nat) (h : Row w b t n fun _ => 0) : Row w b t n (partN F 0) := h.congr fun i _ => by simp [partN]
theorem Row.step {w : World} {b n k : Nat} {t : TypeId} {F : Nat → Nat} (h : Row w b t n (partN F k)) (hk : k < n) {z : Int} (hz : z = (F k : Nat)) : Row (w.setCell ⟨b, k, none⟩ (.int .u32 z)) b t n (partN F (k + 1)) :=
  (h.setI hk hz).congr fun i _ => by
    unfold updN partN
    by_cases e : i = k
    · subst e; simp
    · by_cases e2 : i < k
      · rw [if_neg e, if_pos e2, if_pos (by omega)]
      · rw [if_neg e, if_neg e2, if_neg (by omega)]
theorem Row.done {w : World} {b n : Nat} {t : TypeId} {F : Nat → Nat} {f : Nat → Nat → Bool} (h : Row w b t n (partN F n)) (hF : ∀ i, i < n → F i = rowN (f i) n) : Row w b t n fun i => rowN (f i) n :=
  h.congr fun i hi => by unfold partN; rw [if_pos hi]; exact hF i hi
/-- A number's bits below n. -/
theorem and_ones (x n : Nat) {f : Nat → Bool} (h : ∀ k, k < n → x.testBit k = f k) : x &&& (2 ^ n - 1) = rowN f n := by
  refine row_is ?_ fun k hk => ?_
  · rw [Nat.and_two_pow_sub_one_eq_mod]; exact Nat.mod_lt _ (Nat.two_pow_pos n)
  · rw [Nat.and_two_pow_sub_one_eq_mod, Nat.testBit_mod_two_pow]; simp [hk, h k hk]
theorem ones_lt {n : Nat} (h : n ≤ 32) : 2 ^ n - 1 < 4294967296 := by
  have := Nat.pow_le_pow_right (n := 2) (by decide) h
  have h2 : (2 : Nat) ^ 32 = 4294967296 := by decide
  have := Nat.two_pow_pos n
  omega
theorem has_at {xs : List Nat} {i k : Nat} (hi : i < szR xs) (hk : k < szR xs) (hl : i < xs.length) : xs[i].testBit k = hasR xs i k := by
  simp [hasR, hi, hk, hl]

set_option maxHeartbeats 4000000 in
theorem clean_any (p : Option Addr) (c : Nat) (xs : List Nat) (w : World) (hx : Sl U32E w (.slice p xs.length c) xs) : Calls Try.prog 40 #[.slice p xs.length c] w fun e w' => ∃ b, e = .returned (.slice (some ⟨b, 0, none⟩) (szR xs) (szR xs)) ∧ Row w' b 71 (szR xs) (fun i => rowN (hasR xs i) (szR xs)) ∧ w.heap.size ≤ b ∧ Below w.heap.size w w' := by
  have C := New_any (xs.length : Int) w
  rw [newN_len] at C
  have hl := szR_len xs
  have h32 := szR_le xs
  have hF : ∀ i (h : i < xs.length), i < szR xs → xs[i] &&& (2 ^ szR xs - 1) = rowN (hasR xs i) (szR xs) := fun i h hi => and_ones _ _ fun k hk => has_at hi hk h
  have HF : Hid _ := hF
  clear hF
  obtain ⟨f, hf⟩ : ∃ f, f = hasR xs := ⟨_, rfl⟩
  rw [← hf] at HF ⊢
  clear hf
  generalize szR xs = n at *
  go_enter Try.func40, Try.ntmps40
  go_wp2_with (go_at_call 32; refine C.mono ?_; rintro e w1 ⟨b, rfl, hR, hb, hB⟩)
  clear C
  go_loopw [10] (fun i wr => ∃ k : Nat, k ≤ n ∧ i = .int .i64 k ∧ Row wr b 71 n (partN (fun i => rowN (f i) n) k) ∧ Below w.heap.size w wr) (fun i _ => n - (intOf i).toNat)
  case atStart => exact ⟨0, Nat.zero_le _, rfl, hR.start _, hB⟩
  case round =>
    obtain ⟨k, hk, rfl, hRr, hBr⟩ := hrel
    by_cases hlt : k < n
    · obtain ⟨hu, ab, ao, rfl, hc⟩ := (u32_at (hx.keep hBr)).2 k (by omega)
      have HX := HF.out k (by omega) hlt
      generalize xs[k] = x at *
      have HX : Hid _ := HX
      have hz := cell_lt hc
      have hz2 := hRr.lt
      have hfr := hRr.frozen k
      have hlt' : (k : Int) < (n : Int) := by omega
      have hlt2 : (k : Int) < (xs.length : Int) := by omega
      go_wp2
      have hne : ∀ w, Nonempty (Ext w) := ext_some
      have hne2 : Nonempty AnyW := anyW_some
      refine wp_region_mixL [([0, 1, 2, 3, 4, 5, 6, 7], 8, false), ([9, 10], 11, true)] [] [11] (by kernel_rfl) (by kernel_rfl) (fun _ _ d _ _ h => by cases d <;> exact h) ?_
      dsimp only [List.map, mapL, opAt]
      refine wpMixL_stage ?_
      repeat (go_big_quiet_step (fail))
      refine wpQuiet_nil ?_
      have hD : Below wr.heap.size wr wr.drew := (Below.refl _ _).drew
      go_wp2_with (go_at_call 45; refine (allBits_any n _ h32).mono ?_; rintro e w4 ⟨rfl, hb4⟩)
      have hB4 : Below wr.heap.size wr w4 := hD.trans hb4
      refine ⟨.inr hB4, ?_⟩
      refine wpMixL_stage ?_
      repeat (go_big_quiet_step (fail))
      refine wpQuiet_nil ?_
      have hR4 := hRr.keep hB4
      have hfr4 := hR4.frozen k
      have hc4 := hR4.cell hlt
      go_wp2
      refine ⟨.inl trivial, ?_⟩
      refine wpMixL_last ?_
      refine wpQuiet_nil ?_
      go_wp2
      go_roundw
      case rel => exact ⟨k + 1, by omega, by go_num, hR4.step hlt ((and_u32 hu (ones_lt h32)).trans (by rw [HX.out])), below_set (hBr.trans (hB4.mono hBr.size)) hb _⟩
      case measure => simp [intOf]; omega
    · have e : k = n := by omega
      have hlt' : ¬ (k : Int) < (n : Int) := by omega
      subst e
      go_wp2
      go_ret
      exact ⟨b, rfl, hRr.done fun _ _ => rfl, hb, hBr⟩

def bothN (xs ys : List Nat) : Nat := if szR xs = szR ys then szR xs else 0
theorem bothN_le (xs ys : List Nat) : bothN xs ys ≤ 32 := by unfold bothN; split; exact szR_le xs; omega
theorem bothN_l {xs ys : List Nat} {i : Nat} (h : i < bothN xs ys) : bothN xs ys = szR xs ∧ bothN xs ys = szR ys := by
  unfold bothN at *
  split at h
  · rename_i e; rw [if_pos e]; exact ⟨rfl, e⟩
  · omega
end Go.Proofs.Ytgffeihfcmbobaa

/- Contracts of rel's Or, And, Cross, Only, Put. -/
namespace Go.Proofs.Ytgffeihfcmbobaa
open Go.RowKit
attribute [local go_sem] Ext.cell Ext.frozen

/-- What is told: a new row of n numbers, the pairs of f. -/
def Told (w : World) (n : Nat) (f : Nat → Nat → Bool) (e : Ending) (w' : World) : Prop := ∃ b, e = .returned (.slice (some ⟨b, 0, none⟩) n n) ∧ Row w' b 71 n (fun i => rowN (f i) n) ∧ w.heap.size ≤ b ∧ Below w.heap.size w w'
theorem bothN_len (xs ys : List Nat) : bothN xs ys ≤ xs.length ∧ bothN xs ys ≤ ys.length := by
  have h1 := szR_len xs
  have h2 := szR_len ys
  unfold bothN
  split <;> omega
theorem Row.told {w : World} {b n : Nat} {t : TypeId} {f g : Nat → Nat → Bool} (h : Row w b t n fun i => rowN (f i) n) (hg : ∀ i k, i < n → k < n → f i k = g i k) : Row w b t n fun i => rowN (g i) n :=
  h.congr fun i hi => row_ext (rowN_lt _ _) (rowN_lt _ _) fun k hk => by rw [rowN_bit, rowN_bit, hg i k hi hk]

def crossF (s t i k : Nat) : Bool := s.testBit i && Nat.testBit t k
/-- With a pair more. -/
def putF (f : Nat → Nat → Bool) (i k : Int) (x y : Nat) : Bool := f x y || (decide ((x : Int) = i) && decide ((y : Int) = k))
theorem or_pow {g : Nat → Bool} {n i : Nat} (hi : i < n) : rowN g n ||| 2 ^ i = rowN (fun x => g x || decide (x = i)) n := by
  refine row_is (Nat.or_lt_two_pow (rowN_lt _ _) (Nat.pow_lt_pow_right (by decide) hi)) fun k hk => ?_
  rw [Nat.testBit_or, rowN_bit, Nat.testBit_two_pow]
  by_cases e : i = k
  · subst e; simp
  · simp [hk, e, show ¬ k = i from fun h => e h.symm]
theorem pow_lt {k : Nat} (h : k < 32) : 2 ^ k < 4294967296 := Nat.lt_of_lt_of_le (Nat.pow_lt_pow_right (by decide) h) (by decide)
set_option maxHeartbeats 4000000 in
theorem Put_any (p : Option Addr) (c : Nat) (xs : List Nat) (i k : Int) (w : World) (hx : Sl U32E w (.slice p xs.length c) xs) : Calls Try.prog 33 #[.slice p xs.length c, .int .i64 i, .int .i64 k] w (Told w (szR xs) (putF (hasR xs) i k)) := by
  have C := clean_any p c xs w hx
  have h32 := szR_le xs
  have hsz := clean_sz xs
  have hlen : (cleanR xs).length = szR xs := mkR_len _ _
  have C1 := fun (b : Nat) (w' : World) => isThing_any (some ⟨b, 0, none⟩) (szR xs) (cleanR xs) i w'
  have C2 := fun (b : Nat) (w' : World) => isThing_any (some ⟨b, 0, none⟩) (szR xs) (cleanR xs) k w'
  have ht : ∀ j, thing (cleanR xs) j = (decide (0 ≤ j) && decide (j < (szR xs : Nat))) := fun j => by unfold thing; rw [hsz]
  rw [hlen] at C1 C2
  rw [ht] at C1 C2
  clear hlen hsz ht
  generalize hasR xs = f at *
  generalize szR xs = n at *
  by_cases h1 : 0 ≤ i ∧ i < (n : Nat)
  · rw [decide_eq_true h1.1, decide_eq_true h1.2, Bool.true_and] at C1
    have C1 : Hid _ := C1
    by_cases h2 : 0 ≤ k ∧ k < (n : Nat)
    · rw [decide_eq_true h2.1, decide_eq_true h2.2, Bool.true_and] at C2
      have C2 : Hid _ := C2
      obtain ⟨i, rfl⟩ : ∃ j : Nat, i = j := ⟨i.toNat, by omega⟩
      obtain ⟨k, rfl⟩ : ∃ j : Nat, k = j := ⟨k.toNat, by omega⟩
      have hi : i < n := by omega
      have hk : k < n := by omega
      have hi' : (i : Int) < (n : Int) := by omega
      have F1 := trivial
      clear h1 h2
      go_enter Try.func33, Try.ntmps33
      go_wp2_with (first
        | (go_at_call 40; refine C.mono ?_; rintro e w1 ⟨b, rfl, hR, hb, hB⟩)
        | (go_at_call 41; clear F1; refine (C1.out b _).mono ?_; rintro e w2 ⟨rfl, hb2⟩; have F2 := trivial)
        | (go_at_call 41; clear F2; refine (C2.out b _).mono ?_; rintro e w3 ⟨rfl, hb3⟩; have hR3 := (hR.keep hb2).keep hb3; have hc3 := hR3.cell hi; have hf3 := hR3.frozen i; have hz3 := hR3.lt))
      have hB3 := Below.thru (Below.thru hB hb2 (Nat.le_refl _)) hb3 (Nat.le_refl _)
      have hne : ∀ w, Nonempty (Ext w) := ext_some
      have hne2 : Nonempty AnyW := anyW_some
      refine wp_region_mixL [([0, 1, 2, 3, 4, 5, 6, 7], 8, true)] [] [8] (by kernel_rfl) (by kernel_rfl) (fun _ _ d _ _ h => by cases d <;> exact h) ?_
      dsimp only [List.map, mapL, opAt]
      refine wpMixL_stage ?_
      repeat (go_big_quiet_step (fail))
      refine wpQuiet_nil ?_
      go_wp2
      refine ⟨.inl trivial, ?_⟩
      refine wpMixL_last ?_
      refine wpQuiet_nil ?_
      go_wp2
      go_ret
      refine ⟨b, rfl, ((hR3.drew).setI hi (by rw [pow_u32 (by omega), or_u32 (rowN_u32 h32) (pow_lt (by omega))])).congr fun x hx => ?_, hb, below_set hB3.drew hb _⟩
      unfold updN
      by_cases e : x = i
      · subst e
        rw [if_pos rfl, or_pow hk]
        congr 1
        funext y
        unfold putF
        rw [decide_eq_true rfl, Bool.true_and]
        congr 1
        exact decide_eq_decide.2 (by omega)
      · rw [if_neg e]
        show rowN (f x) n = _
        congr 1
        funext y
        unfold putF
        rw [decide_eq_false (by omega), Bool.false_and, Bool.or_false]
    · have h2' : (decide (0 ≤ k) && decide (k < (n : Nat))) = false := by
        rw [Bool.and_eq_false_iff, decide_eq_false_iff_not, decide_eq_false_iff_not]; omega
      rw [h2'] at C2
      clear h2'
      have C2 : Hid _ := C2
      have F1 := trivial
      go_enter Try.func33, Try.ntmps33
      go_wp2_with (first
        | (go_at_call 40; refine C.mono ?_; rintro e w1 ⟨b, rfl, hR, hb, hB⟩)
        | (go_at_call 41; clear F1; refine (C1.out b _).mono ?_; rintro e w2 ⟨rfl, hb2⟩; have F2 := trivial)
        | (go_at_call 41; clear F2; refine (C2.out b _).mono ?_; rintro e w3 ⟨rfl, hb3⟩))
      go_ret
      refine ⟨b, rfl, ((hR.keep hb2).keep hb3).told fun x y hx hy => ?_, hb, Below.thru (Below.thru hB hb2 (Nat.le_refl _)) hb3 (Nat.le_refl _)⟩
      unfold putF
      rw [decide_eq_false (show ¬ (y : Int) = k by omega), Bool.and_false, Bool.or_false]
  · have h1' : (decide (0 ≤ i) && decide (i < (n : Nat))) = false := by
      rw [Bool.and_eq_false_iff, decide_eq_false_iff_not, decide_eq_false_iff_not]; omega
    rw [h1'] at C1
    clear h1'
    have C1 : Hid _ := C1
    go_enter Try.func33, Try.ntmps33
    go_wp2_with (first
      | (go_at_call 40; refine C.mono ?_; rintro e w1 ⟨b, rfl, hR, hb, hB⟩)
      | (go_at_call 41; refine (C1.out b _).mono ?_; rintro e w2 ⟨rfl, hb2⟩))
    go_ret
    refine ⟨b, rfl, (hR.keep hb2).told fun x y hx hy => ?_, hb, Below.thru hB hb2 (Nat.le_refl _)⟩
    unfold putF
    rw [decide_eq_false (show ¬ (x : Int) = i by omega), Bool.false_and, Bool.or_false]
end Go.Proofs.Ytgffeihfcmbobaa

/- Contracts of rel's Seq, Inv, Plus. -/
namespace Go.Proofs.Ytgffeihfcmbobaa
open Go.RowKit
attribute [local go_sem] Ext.cell Ext.frozen

theorem updN_updN (g : Nat → Nat) (k x y : Nat) : updN (updN g k x) k y = updN g k y := by
  funext i; unfold updN; split <;> rfl
theorem updN_same {g : Nat → Nat} {k : Nat} (i : Nat) : updN g k (g k) i = g i := by
  unfold updN; split
  · rename_i h; rw [h]
  · rfl
/-- By way of the first m. -/
def seqTo (f g : Nat → Nat → Bool) (m i y : Nat) : Bool := (List.range m).any fun j => f i j && g j y
theorem seqTo_all (f g : Nat → Nat → Bool) (n i : Nat) : seqTo f g n i = seqF n f g i := rfl
theorem seqTo_zero (f g : Nat → Nat → Bool) (i n : Nat) : rowN (seqTo f g 0 i) n = 0 := by
  refine row_ext (rowN_lt _ _) (Nat.two_pow_pos n) fun k _ => ?_
  rw [rowN_bit]; simp [seqTo]
theorem seqTo_step (f g : Nat → Nat → Bool) (m i y : Nat) : seqTo f g (m + 1) i y = (seqTo f g m i y || (f i m && g m y)) := by
  simp [seqTo, List.range_succ, List.any_append]
theorem or_row {f g h : Nat → Bool} {n : Nat} (e : ∀ k, k < n → h k = (f k || g k)) : rowN f n ||| rowN g n = rowN h n :=
  row_is (Nat.or_lt_two_pow (rowN_lt _ _) (rowN_lt _ _)) fun k hk => by rw [Nat.testBit_or, rowN_bit, rowN_bit, e k hk]; simp [hk]
theorem row_congr {f g : Nat → Bool} {n : Nat} (e : ∀ k, k < n → f k = g k) : rowN f n = rowN g n :=
  row_ext (rowN_lt _ _) (rowN_lt _ _) fun k hk => by rw [rowN_bit, rowN_bit, e k hk]

/-- Turned, as far as the things up to i, and of i those up to k. -/
def invTo (f : Nat → Nat → Bool) (i k y x : Nat) : Bool := (decide (x < i) || (decide (x = i) && decide (y < k))) && f x y
theorem invTo_zero (f : Nat → Nat → Bool) (y n : Nat) : rowN (invTo f 0 0 y) n = 0 := by
  refine row_ext (rowN_lt _ _) (Nat.two_pow_pos n) fun k _ => ?_
  rw [rowN_bit]; simp [invTo]
theorem invTo_next (f : Nat → Nat → Bool) {i n y : Nat} (hy : y < n) (x : Nat) : invTo f i n y x = invTo f (i + 1) 0 y x := by
  unfold invTo
  congr 1
  by_cases h1 : x < i
  · simp [h1, show x < i + 1 by omega]
  · by_cases h2 : x = i
    · subst h2; simp [hy]
    · simp [h1, h2, show ¬ x < i + 1 by omega]
theorem invTo_other (f : Nat → Nat → Bool) {i k y : Nat} (h : y ≠ k ∨ f i k = false) (x : Nat) : invTo f i (k + 1) y x = invTo f i k y x := by
  unfold invTo
  by_cases h1 : x = i
  · subst h1
    by_cases h2 : y = k
    · subst h2
      rcases h with h | h
      · exact absurd rfl h
      · rw [h, Bool.and_false, Bool.and_false]
    · have : (decide (y < k + 1)) = decide (y < k) := decide_eq_decide.2 (by omega)
      rw [this]
  · rw [decide_eq_false h1, Bool.false_and, Bool.false_and]
theorem invTo_put (f : Nat → Nat → Bool) {i k : Nat} (h : f i k = true) (x : Nat) : invTo f i (k + 1) k x = (invTo f i k k x || decide (x = i)) := by
  unfold invTo
  by_cases h1 : x = i
  · subst h1; simp [h]
  · simp [h1]

theorem way_self (f : Nat → Nat → Bool) (j k : Nat) : wayF f (j + 1) j k = wayF f j j k := by
  simp only [wayF]
  cases wayF f j j k <;> simp
end Go.Proofs.Ytgffeihfcmbobaa

/- Contracts of rel's Acyclic, Same, Pairs, and of slices.Equal. -/
namespace Go.Proofs.Ytgffeihfcmbobaa
open Go.RowKit
attribute [local go_sem] Ext.cell Ext.frozen

/-- The pairs of i, as far as k; and of all ahead of i. -/
def rowP (f : Nat → Nat → Bool) (i k : Nat) : List (Nat × Nat) := ((List.range k).filter (f i)).map fun y => (i, y)
def pairsTo (f : Nat → Nat → Bool) (n i : Nat) : List (Nat × Nat) := (List.range i).flatMap fun x => rowP f x n
theorem pairsTo_all (f : Nat → Nat → Bool) (n : Nat) : pairsTo f n n = pairsF n f := rfl
theorem pairsTo_succ (f : Nat → Nat → Bool) (n i : Nat) : pairsTo f n (i + 1) = pairsTo f n i ++ rowP f i n := by
  simp [pairsTo, List.range_succ, List.flatMap_append]
theorem rowP_yes {f : Nat → Nat → Bool} {i k : Nat} (h : f i k = true) : rowP f i (k + 1) = rowP f i k ++ [(i, k)] := by
  simp [rowP, List.range_succ, List.filter_append, h]
theorem rowP_no {f : Nat → Nat → Bool} {i k : Nat} (h : f i k = false) : rowP f i (k + 1) = rowP f i k := by
  simp [rowP, List.range_succ, List.filter_append, h]
theorem pair_one {w : World} {b c i k : Nat} (h0 : w.cell? ⟨b, 0, none⟩ = some (.int .i64 (i : Int))) (h1 : w.cell? ⟨b, 1, none⟩ = some (.int .i64 (k : Int))) (hc : 1 ≤ c := by decide) : Sl PairE w (.slice (some ⟨b, 0, none⟩) 1 c) [(i, k)] := by
  refine ⟨_, c, rfl, ⟨(fun e => by cases e), hc⟩, fun _ => ⟨b, 0, rfl, trivial, fun j hj => ?_⟩⟩
  have hj' : j = 0 := by simp at hj; omega
  subst hj'
  refine ⟨[.int .i64 (i : Int), .int .i64 (k : Int)], rfl, fun m u hu => ?_⟩
  match m, hu with
  | 0, hu => simp at hu; subst hu; simpa using h0
  | 1, hu => simp at hu; subst hu; simpa using h1
  | m + 2, hu => simp at hu
theorem info_pair : ((Try.prog.info? 55).map fun i => (i.zero, i.size, i.bytes)) = some (some (.agg #[.int .i64 0, .int .i64 0]), 2, 16) := by kernel_rfl

set_option maxHeartbeats 4000000 in
theorem Pairs_any (p : Option Addr) (c : Nat) (xs : List Nat) (w : World) (hx : Sl U32E w (.slice p xs.length c) xs) : Calls Try.prog 23 #[.slice p xs.length c] w fun e w' => ∃ v, e = .returned v ∧ Sl PairE w' v (pairsF (szR xs) (hasR xs)) ∧ Below w.heap.size w w' := by
  obtain ⟨i0, j1, j2, j3, j4⟩ := get_info info_pair
  have J1 : Hid _ := j1
  have J2 : Hid _ := j2
  have J3 : Hid _ := j3
  have J4 : Hid _ := j4
  clear j1 j2 j3 j4
  have C := things_any p c xs w
  have hl := szR_len xs
  have h32 := szR_le xs
  have hX : ∀ i k (h : i < xs.length), i < szR xs → k < szR xs → xs[i].testBit k = hasR xs i k := fun i k h hi hk => has_at hi hk h
  generalize hasR xs = f at *
  generalize szR xs = n at *
  have HX : Hid _ := hX
  clear hX
  go_enter Try.func23, Try.ntmps23
  go_wp2_with (go_at_call 35; refine C.mono ?_; rintro e w1 ⟨rfl, hB⟩)
  clear C
  go_loopw [3, 10] (fun a i wr => ∃ (k : Nat) (out : List (Nat × Nat)), k ≤ n ∧ i = .int .i64 k ∧ Own (fun _ => False) PairE wr w.heap.size 55 a out ∧ out = pairsTo f n k ∧ out.length ≤ k * 32 ∧ Below w.heap.size w wr) (fun _ i _ => n - (intOf i).toNat)
  case atStart => exact ⟨0, [], Nat.zero_le _, rfl, Own.nil, rfl, by simp, hB⟩
  case round =>
    obtain ⟨k, out, hk, rfl, hO, hout, hlen, hBr⟩ := hrel
    obtain ⟨w2, rfl⟩ : ∃ x : World, x = wr := ⟨_, rfl⟩
    obtain ⟨pa, ca, rfl⟩ := hO.len
    have HOUT : Hid _ := hout
    clear hout
    by_cases hlt : k < n
    · have hlt' : (k : Int) < (n : Int) := by omega
      have hlt2 : (k : Int) < (xs.length : Int) := by omega
      go_wp2
      go_loopw [3, 14] (fun a i wr => ∃ (j : Nat) (out' : List (Nat × Nat)), j ≤ n ∧ i = .int .i64 j ∧ Own (fun _ => False) PairE wr w.heap.size 55 a out' ∧ out' = pairsTo f n k ++ rowP f k j ∧ out'.length ≤ k * 32 + j ∧ Below w.heap.size w wr) (fun _ i _ => n - (intOf i).toNat)
      case atStart => exact ⟨0, out, Nat.zero_le _, rfl, hO, by rw [HOUT.out]; simp [rowP], by omega, hBr⟩
      case round =>
        obtain ⟨j, out', hj, rfl, hO', hout', hlen', hBi⟩ := hrel
        obtain ⟨pa', ca', rfl⟩ := hO'.len
        have HOUT' : Hid _ := hout'
        clear hout'
        by_cases hjn : j < n
        · have hjn' : (j : Int) < (n : Int) := by omega
          obtain ⟨hu, ab, ao, rfl, hc⟩ := (u32_at (hx.keep hBi)).2 k (by omega)
          have C1 := hasBit_any xs[k] j wr hu (by omega)
          rw [HX.out k j (by omega) hlt hjn] at C1
          generalize xs[k] = x at *
          cases hbit : f k j with
          | true =>
            rw [hbit] at C1
            have HB : Hid _ := hbit
            clear hbit
            go_wp2_with (first
              | (go_at_call 36; refine C1.mono ?_; rintro e w3 ⟨rfl, hb3⟩; have hO3 := hO'.keep hb3; have hB3 := Below.thru hBi hb3 (Nat.le_refl _))
              | (at_builtin; have hA3 := (Below.refl w3.heap.size w3).alloc (Nat.le_refl _) (.cells #[.int .i64 (k : Int), .int .i64 (j : Int)] 55); have hB4 := Below.thru hB3 hA3 (Nat.le_refl _); refine wpList_app (R := PairE) (A := fun _ => False) (xs := out') (ys := [(k, j)]) (by rfl) (.tmp 23) (.tmp 27) 52 55 i0 _ 16 (by rfl) Try.underlying52 J1.out J2.out J3.out J4.out (by rfl) w.heap.size (.slice pa' out'.length ca') (.slice (some ⟨w3.heap.size, 0, none⟩) 1 1) (by rfl) (by rfl) (hO3.keep hA3) (pair_one (by simp) (by simp)) (fun _ _ _ h => h) (by simp only [List.length_cons, List.length_nil]; omega) (by decide) hB4.size ?_; intro p5 c5 w5 hO5 hg5 hat5))
            go_roundw
            case rel => exact ⟨j + 1, out' ++ [(k, j)], by omega, by go_num, by simpa using hO5, by rw [HOUT'.out, rowP_yes HB.out, List.append_assoc], by simp only [List.length_append, List.length_cons, List.length_nil]; omega, hB4.grown hg5 hB4.size (fun q hq => ((hO3.keep hA3).lt q hq).1)⟩
            case measure => simp [intOf]; omega
          | false =>
            rw [hbit] at C1
            have HB : Hid _ := hbit
            clear hbit
            go_wp2_with (go_at_call 36; refine C1.mono ?_; rintro e w3 ⟨rfl, hb3⟩)
            go_roundw
            case rel => exact ⟨j + 1, out', by omega, by go_num, hO'.keep hb3, by rw [HOUT'.out, rowP_no HB.out], by omega, Below.thru hBi hb3 (Nat.le_refl _)⟩
            case measure => simp [intOf]; omega
        · have e : j = n := by omega
          have hjn' : ¬ (j : Int) < (n : Int) := by omega
          subst e
          go_wp2
          go_roundw
          case rel => exact ⟨k + 1, out', by omega, by go_num, hO', by rw [HOUT'.out, pairsTo_succ], by omega, hBi⟩
          case measure => simp [intOf]; omega
    · have e : k = n := by omega
      have hlt' : ¬ (k : Int) < (n : Int) := by omega
      subst e
      go_wp2
      go_ret
      exact ⟨_, rfl, by rw [← pairsTo_all, ← HOUT.out]; exact hO.sl.any, hBr⟩
end Go.Proofs.Ytgffeihfcmbobaa
