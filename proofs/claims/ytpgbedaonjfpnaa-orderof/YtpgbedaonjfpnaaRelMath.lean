/- Relations of n things as plain data: rows of bits, what is told of them, joined, turned, closed. No program. -/
import Derived.RowKit
namespace Go.Proofs.Ytpgbedaonjfpnaa

/-- The number whose bits below n are g's. -/
def rowN (g : Nat → Bool) : Nat → Nat
  | 0 => 0
  | n + 1 => rowN g n + bif g n then 2 ^ n else 0
theorem rowN_lt (g : Nat → Bool) : ∀ n, rowN g n < 2 ^ n
  | 0 => by simp [rowN]
  | n + 1 => by
    have := rowN_lt g n
    simp only [rowN, Nat.pow_succ]
    cases g n <;> simp <;> omega
theorem rowN_bit (g : Nat → Bool) : ∀ (n k : Nat), (rowN g n).testBit k = (decide (k < n) && g k)
  | 0, k => by simp [rowN]
  | n + 1, k => by
    have ih := rowN_bit g n k
    have hl := rowN_lt g n
    simp only [rowN]
    cases hg : g n with
    | false =>
      simp only [cond_false, Nat.add_zero]
      rw [ih]
      by_cases h1 : k < n
      · simp [h1, show k < n + 1 by omega]
      · by_cases h2 : k = n
        · subst h2; simp [hg]
        · simp [h1, show ¬ k < n + 1 by omega]
    | true =>
      simp only [cond_true]
      rw [Nat.add_comm]
      by_cases h1 : k < n
      · rw [Nat.testBit_two_pow_add_gt h1, ih]
        simp [h1, show k < n + 1 by omega]
      · by_cases h2 : k = n
        · subst h2
          rw [Nat.testBit_two_pow_add_eq, ih]
          simp [hg]
        · have h3 : 2 ^ n + rowN g n < 2 ^ k := by
            have : 2 ^ (n + 1) ≤ 2 ^ k := Nat.pow_le_pow_right (by decide) (by omega)
            rw [Nat.pow_succ] at this
            omega
          rw [Nat.testBit_lt_two_pow h3]
          simp [show ¬ k < n + 1 by omega]
theorem row_ext {x y n : Nat} (hx : x < 2 ^ n) (hy : y < 2 ^ n) (h : ∀ k, k < n → x.testBit k = y.testBit k) : x = y := by
  apply Nat.eq_of_testBit_eq
  intro k
  by_cases hk : k < n
  · exact h k hk
  · have hp : 2 ^ n ≤ 2 ^ k := Nat.pow_le_pow_right (by decide) (by omega)
    rw [Nat.testBit_lt_two_pow (by omega), Nat.testBit_lt_two_pow (by omega)]
theorem row_is {x n : Nat} {g : Nat → Bool} (hx : x < 2 ^ n) (h : ∀ k, k < n → x.testBit k = g k) : x = rowN g n :=
  row_ext hx (rowN_lt g n) fun k hk => by rw [h k hk, rowN_bit]; simp [hk]

/-- Of how many things a relation is. -/
def szR (r : List Nat) : Nat := if 32 < r.length then 0 else r.length
/-- Whether it has a pair. -/
def hasR (r : List Nat) (i k : Nat) : Bool := decide (i < szR r) && decide (k < szR r) && (r.getD i 0).testBit k
/-- The relation of n things with the pairs of f. -/
def mkR (n : Nat) (f : Nat → Nat → Bool) : List Nat := (List.range n).map fun i => rowN (f i) n
/-- Without bits that play no part. -/
def cleanR (r : List Nat) : List Nat := mkR (szR r) (hasR r)
theorem szR_le (r : List Nat) : szR r ≤ 32 := by unfold szR; split <;> omega
theorem szR_len (r : List Nat) : szR r ≤ r.length := by unfold szR; split <;> omega
theorem mkR_len (n : Nat) (f : Nat → Nat → Bool) : (mkR n f).length = n := by simp [mkR]
theorem mkR_sz {n : Nat} (f : Nat → Nat → Bool) (h : n ≤ 32) : szR (mkR n f) = n := by unfold szR; rw [mkR_len, if_neg (by omega)]
theorem mkR_at {n i : Nat} (f : Nat → Nat → Bool) (h : i < n) : (mkR n f).getD i 0 = rowN (f i) n := by simp [mkR, h]
theorem mkR_has {n : Nat} (f : Nat → Nat → Bool) (h : n ≤ 32) (i k : Nat) : hasR (mkR n f) i k = (decide (i < n) && decide (k < n) && f i k) := by
  unfold hasR
  rw [mkR_sz f h]
  by_cases hi : i < n
  · rw [mkR_at f hi, rowN_bit]
    by_cases hk : k < n <;> simp [hi, hk]
  · simp [hi]
theorem mkR_congr {n : Nat} {f g : Nat → Nat → Bool} (h : ∀ i k, i < n → k < n → f i k = g i k) : mkR n f = mkR n g := by
  unfold mkR
  apply List.map_congr_left
  intro i hi
  have hi' : i < n := by simpa using hi
  exact row_ext (rowN_lt _ _) (rowN_lt _ _) fun k hk => by rw [rowN_bit, rowN_bit, h i k hi' hk]
theorem mkR_inj {n : Nat} {f g : Nat → Nat → Bool} (h : mkR n f = mkR n g) {i k : Nat} (hi : i < n) (hk : k < n) : f i k = g i k := by
  have := congrArg (fun l => (l.getD i 0).testBit k) h
  simp only [mkR_at _ hi, rowN_bit, hk, decide_true, Bool.true_and] at this
  exact this
theorem clean_mk {n : Nat} (f : Nat → Nat → Bool) (h : n ≤ 32) : cleanR (mkR n f) = mkR n f := by
  unfold cleanR
  rw [mkR_sz f h]
  exact mkR_congr fun i k hi hk => by rw [mkR_has f h]; simp [hi, hk]
theorem clean_sz (r : List Nat) : szR (cleanR r) = szR r := mkR_sz _ (szR_le r)
theorem clean_has (r : List Nat) (i k : Nat) : hasR (cleanR r) i k = hasR r i k := by
  unfold cleanR
  rw [mkR_has _ (szR_le r)]
  unfold hasR
  by_cases h1 : i < szR r <;> by_cases h2 : k < szR r <;> simp [h1, h2]
theorem clean_clean (r : List Nat) : cleanR (cleanR r) = cleanR r := clean_mk _ (szR_le r)
theorem clean_eq {r s : List Nat} : cleanR r = cleanR s ↔ szR r = szR s ∧ ∀ i k, hasR r i k = hasR s i k := by
  constructor
  · intro h
    exact ⟨by rw [← clean_sz r, h, clean_sz], fun i k => by rw [← clean_has r, h, clean_has]⟩
  · rintro ⟨h1, h2⟩
    unfold cleanR
    rw [h1]
    exact mkR_congr fun i k _ _ => h2 i k
/-- Rows below 2 ^ n, of n things: nothing to clean. -/
theorem clean_self {r : List Nat} (h : r.length ≤ 32) (hr : ∀ x ∈ r, x < 2 ^ r.length) : cleanR r = r := by
  have hs : szR r = r.length := by unfold szR; rw [if_neg (by omega)]
  unfold cleanR
  rw [hs]
  apply List.ext_getElem (by simp [mkR])
  intro i h1 h2
  simp only [mkR, List.getElem_map, List.getElem_range]
  exact (row_is (hr _ (List.getElem_mem h2)) fun k hk => by unfold hasR; rw [hs]; simp [h2, hk]).symm

/-- One, and then the other. -/
def seqF (n : Nat) (f g : Nat → Nat → Bool) (i k : Nat) : Bool := (List.range n).any fun j => f i j && g j k
theorem seqF_iff {n : Nat} {f g : Nat → Nat → Bool} {i k : Nat} : seqF n f g i k = true ↔ ∃ j, j < n ∧ f i j = true ∧ g j k = true := by
  simp [seqF]
/-- The least that has f's pairs, and with i, j and j, k also i, k: by way of the first m things. -/
def wayF (f : Nat → Nat → Bool) : Nat → Nat → Nat → Bool
  | 0, i, k => f i k
  | m + 1, i, k => wayF f m i k || (wayF f m i m && wayF f m m k)
theorem way_up {f : Nat → Nat → Bool} {i k : Nat} : ∀ {m : Nat}, wayF f m i k = true → wayF f (m + 1) i k = true := by
  intro m h; simp [wayF, h]
theorem way_has {f : Nat → Nat → Bool} {i k : Nat} (h : f i k = true) : ∀ m, wayF f m i k = true
  | 0 => h
  | m + 1 => way_up (way_has h m)
/-- It is within whatever has f's pairs and is closed. -/
theorem way_least {f : Nat → Nat → Bool} {T : Nat → Nat → Prop} (hf : ∀ i k, f i k = true → T i k) (hT : ∀ i j k, T i j → T j k → T i k) : ∀ (m : Nat) {i k : Nat}, wayF f m i k = true → T i k
  | 0, _, _, h => hf _ _ h
  | m + 1, i, k, h => by
    simp only [wayF, Bool.or_eq_true, Bool.and_eq_true] at h
    rcases h with h | ⟨h1, h2⟩
    · exact way_least hf hT m h
    · exact hT _ _ _ (way_least hf hT m h1) (way_least hf hT m h2)
/-- By way of the first m things it is closed. -/
theorem way_thru {f : Nat → Nat → Bool} : ∀ (m : Nat) {i j k : Nat}, j < m → wayF f m i j = true → wayF f m j k = true → wayF f m i k = true
  | 0, _, _, _, h, _, _ => by omega
  | m + 1, i, j, k, hj, h1, h2 => by
    have ih := fun {i j k : Nat} => way_thru (f := f) m (i := i) (j := j) (k := k)
    simp only [wayF, Bool.or_eq_true, Bool.and_eq_true] at h1 h2 ⊢
    by_cases hm : j < m
    · rcases h1 with h1 | ⟨a1, a2⟩
      · rcases h2 with h2 | ⟨b1, b2⟩
        · exact .inl (ih hm h1 h2)
        · exact .inr ⟨ih hm h1 b1, b2⟩
      · rcases h2 with h2 | ⟨b1, b2⟩
        · exact .inr ⟨a1, ih hm a2 h2⟩
        · exact .inr ⟨a1, b2⟩
    · have e : j = m := by omega
      subst e
      rcases h1 with h1 | ⟨a1, _⟩
      · rcases h2 with h2 | ⟨_, b2⟩
        · exact .inr ⟨h1, h2⟩
        · exact .inr ⟨h1, b2⟩
      · rcases h2 with h2 | ⟨_, b2⟩
        · exact .inr ⟨a1, h2⟩
        · exact .inr ⟨a1, b2⟩
/-- Closed, of n things. -/
def plusF (n : Nat) (f : Nat → Nat → Bool) : Nat → Nat → Bool := wayF f n
def Within (n : Nat) (f : Nat → Nat → Bool) : Prop := ∀ i k, f i k = true → i < n ∧ k < n
theorem way_within {n : Nat} {f : Nat → Nat → Bool} (h : Within n f) (m : Nat) : Within n (wayF f m) := fun _ _ hk =>
  way_least (T := fun i k => i < n ∧ k < n) h (fun _ _ _ h1 h2 => ⟨h1.1, h2.2⟩) m hk
theorem plus_trans {n : Nat} {f : Nat → Nat → Bool} (h : Within n f) {i j k : Nat} (h1 : plusF n f i j = true) (h2 : plusF n f j k = true) : plusF n f i k = true :=
  way_thru n (way_within h n _ _ h1).2 h1 h2
theorem plus_least {n : Nat} {f : Nat → Nat → Bool} {T : Nat → Nat → Prop} (hf : ∀ i k, f i k = true → T i k) (hT : ∀ i j k, T i j → T j k → T i k) {i k : Nat} (h : plusF n f i k = true) : T i k := way_least hf hT n h
theorem plus_has {n : Nat} {f : Nat → Nat → Bool} {i k : Nat} (h : f i k = true) : plusF n f i k = true := way_has h n
/-- Whatever has f's pairs, is closed, and within all such, is it. -/
theorem plus_only {n : Nat} {f g : Nat → Nat → Bool} (_hw : Within n f) (hf : ∀ i k, f i k = true → g i k = true) (ht : ∀ i j k, g i j = true → g j k = true → g i k = true)
    (hl : ∀ i k, g i k = true → plusF n f i k = true) (i k : Nat) : g i k = plusF n f i k := by
  rw [Bool.eq_iff_iff]
  exact ⟨hl i k, fun h => plus_least (T := fun i k => g i k = true) hf ht h⟩

/-- Longer and longer ways. -/
def longF (n : Nat) (f : Nat → Nat → Bool) : Nat → Nat → Nat → Bool
  | 0, i, k => f i k
  | m + 1, i, k => longF n f m i k || seqF n (longF n f m) f i k
theorem count_lt {n : Nat} {g h : Nat → Bool} (hm : ∀ k, g k = true → h k = true) {k : Nat} (hk : k < n) (h1 : g k = false) (h2 : h k = true) : (List.range n).countP g < (List.range n).countP h := by
  have key : ∀ l : List Nat, l.countP g ≤ l.countP h ∧ (k ∈ l → l.countP g < l.countP h) := by
    intro l
    induction l with
    | nil => simp
    | cons a l ih =>
      obtain ⟨i1, i2⟩ := ih
      simp only [List.countP_cons]
      have ha : (if g a = true then 1 else 0) ≤ (if h a = true then 1 else 0) := by
        by_cases e : g a = true
        · simp [e, hm a e]
        · simp [e]
      refine ⟨by omega, fun hl => ?_⟩
      rcases List.mem_cons.1 hl with rfl | hl
      · simp [h1, h2]; omega
      · have := i2 hl; omega
  exact (key _).2 (by simpa using hk)
/-- From one thing: it grows, and stands still once it has. -/
theorem long_stop {n : Nat} {f : Nat → Nat → Bool} (hw : Within n f) (i : Nat) : ∀ m, (∃ j, j ≤ m ∧ ∀ k, longF n f j i k = longF n f (j + 1) i k) ∨ m ≤ (List.range n).countP (longF n f m i)
  | 0 => .inr (Nat.zero_le _)
  | m + 1 => by
    rcases long_stop hw i m with ⟨j, h1, h2⟩ | h
    · exact .inl ⟨j, by omega, h2⟩
    · by_cases e : ∀ k, longF n f m i k = longF n f (m + 1) i k
      · exact .inl ⟨m, by omega, e⟩
      · obtain ⟨k, hk⟩ := Classical.not_forall.1 e
        refine .inr ?_
        have hmono : ∀ k, longF n f m i k = true → longF n f (m + 1) i k = true := fun k h => by simp [longF, h]
        have h1 : longF n f m i k = false := by
          cases hh : longF n f m i k
          · rfl
          · exact absurd (hh.trans (hmono k hh).symm) hk
        have h2 : longF n f (m + 1) i k = true := by
          cases hh : longF n f (m + 1) i k
          · exact absurd (h1.trans hh.symm) hk
          · rfl
        have hkn : k < n := by
          simp only [longF, h1, Bool.false_or, seqF_iff] at h2
          obtain ⟨j, _, _, h3⟩ := h2
          exact (hw _ _ h3).2
        have := count_lt hmono hkn h1 h2
        omega
theorem long_still {n : Nat} {f : Nat → Nat → Bool} {i j : Nat} (h : ∀ k, longF n f j i k = longF n f (j + 1) i k) : ∀ d k, longF n f (j + d) i k = longF n f j i k
  | 0, _ => rfl
  | d + 1, k => by
    have ih := long_still h d
    rw [h k]
    show (longF n f (j + d) i k || seqF n (longF n f (j + d)) f i k) = (longF n f j i k || seqF n (longF n f j) f i k)
    rw [ih k]
    congr 1
    unfold seqF
    congr 1
    funext x
    rw [ih x]
theorem long_end {n : Nat} {f : Nat → Nat → Bool} (hw : Within n f) (i k : Nat) : longF n f n i k = longF n f (n + 1) i k := by
  have hc : ∀ (g : Nat → Bool), (List.range n).countP g ≤ n := fun g => by simpa using List.countP_le_length (l := List.range n) (p := g)
  rcases long_stop hw i (n + 1) with ⟨j, h1, h2⟩ | h
  · by_cases hj : j ≤ n
    · have a := long_still h2 (n - j) k
      have b := long_still h2 (n + 1 - j) k
      rw [show j + (n - j) = n by omega] at a
      rw [show j + (n + 1 - j) = n + 1 by omega] at b
      rw [a, b]
    · have hj' : j = n + 1 := by omega
      rcases long_stop hw i n with ⟨j', h1', h2'⟩ | h'
      · have a := long_still h2' (n - j') k
        have b := long_still h2' (n + 1 - j') k
        rw [show j' + (n - j') = n by omega] at a
        rw [show j' + (n + 1 - j') = n + 1 by omega] at b
        rw [a, b]
      · cases hh : longF n f (n + 1) i k with
        | false =>
          cases h3 : longF n f n i k with
          | false => rfl
          | true => rw [longF, h3] at hh; cases hh
        | true =>
          cases h3 : longF n f n i k with
          | true => rfl
          | false =>
            have hkn : k < n := by
              simp only [longF, h3, Bool.false_or, seqF_iff] at hh
              obtain ⟨_, _, _, h4⟩ := hh
              exact (hw _ _ h4).2
            have := count_lt (n := n) (g := longF n f n i) (h := fun _ => true) (fun _ _ => rfl) hkn h3 rfl
            have := hc (fun _ => true)
            omega
  · have := hc (longF n f (n + 1) i)
    omega
theorem long_plus {n : Nat} {f : Nat → Nat → Bool} (hw : Within n f) (i k : Nat) : longF n f n i k = plusF n f i k := by
  have hup : ∀ m {i k}, longF n f m i k = true → longF n f (m + 1) i k = true := fun m i k h => by simp [longF, h]
  refine plus_only hw (fun i k h => ?_) (fun i j k h1 h2 => ?_) (fun i k h => ?_) i k
  · have : ∀ m, longF n f m i k = true := fun m => by
      induction m with
      | zero => exact h
      | succ m ih => exact hup m ih
    exact this n
  · have step : ∀ {j k}, longF n f n i j = true → f j k = true → longF n f n i k = true := fun {j k} a b => by
      rw [long_end hw]
      simp only [longF, Bool.or_eq_true, seqF_iff]
      exact .inr ⟨j, (hw _ _ b).1, a, b⟩
    have : ∀ m {k}, longF n f m j k = true → longF n f n i k = true := fun m => by
      induction m with
      | zero => exact fun h => step h1 h
      | succ m ih =>
        intro k h
        simp only [longF, Bool.or_eq_true, seqF_iff] at h
        rcases h with h | ⟨x, _, a, b⟩
        · exact ih h
        · exact step (ih a) b
    exact this n h2
  · have : ∀ m {k}, longF n f m i k = true → plusF n f i k = true := fun m => by
      induction m with
      | zero => exact fun h => plus_has h
      | succ m ih =>
        intro k h
        simp only [longF, Bool.or_eq_true, seqF_iff] at h
        rcases h with h | ⟨x, _, a, b⟩
        · exact ih h
        · exact plus_trans hw (ih a) (plus_has b)
    exact this n h
end Go.Proofs.Ytpgbedaonjfpnaa
