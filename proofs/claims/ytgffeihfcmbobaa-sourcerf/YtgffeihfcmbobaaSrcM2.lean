/- Layer 11: laws of ways to read. -/
import Derived.Test.YtgffeihfcmbobaaSrcM
namespace Go.Proofs.Ytgffeihfcmbobaa

/-- One way is ahead of another one. -/
def lexL (a b : List Int) : Prop := ∃ (k : Nat) (x y : Int), (∀ i, i < k → a[i]? = b[i]?) ∧ a[k]? = some x ∧ b[k]? = some y ∧ x < y
theorem lexL_cons {x : Int} {a b : List Int} (h : lexL a b) : lexL (x :: a) (x :: b) := by
  obtain ⟨k, u, v, h1, h2, h3, h4⟩ := h
  refine ⟨k + 1, u, v, fun i hi => ?_, by simpa using h2, by simpa using h3, h4⟩
  cases i with
  | zero => rfl
  | succ i => simpa using h1 i (by omega)
theorem lexL_head {x y : Int} {a b : List Int} (h : x < y) : lexL (x :: a) (y :: b) := ⟨0, x, y, fun i hi => absurd hi (Nat.not_lt_zero i), rfl, rfl, h⟩
theorem waysL_rise : ∀ {a : List (List Int)}, (∀ c ∈ a, c.Pairwise (· < ·)) → (waysL a).Pairwise lexL
  | [], _ => by simp [waysL]
  | c :: a, h => by
    have ih := waysL_rise fun d hd => h d (List.mem_cons_of_mem _ hd)
    have hc := h c List.mem_cons_self
    rw [waysL]
    generalize waysL a = W at *
    induction c with
    | nil => simp
    | cons x c ihc =>
      rw [List.flatMap_cons, List.pairwise_append]
      rw [List.pairwise_cons] at hc
      refine ⟨?_, ihc (fun d hd => ?_) hc.2, fun p hp q hq => ?_⟩
      · rw [List.pairwise_map]
        exact ih.imp fun h => lexL_cons h
      · rcases List.mem_cons.1 hd with rfl | hd
        · exact hc.2
        · exact h d (List.mem_cons_of_mem _ hd)
      · obtain ⟨u, _, rfl⟩ := List.mem_map.1 hp
        obtain ⟨y, hy, h2⟩ := List.mem_flatMap.1 hq
        obtain ⟨v, _, rfl⟩ := List.mem_map.1 h2
        exact lexL_head (hc.1 y hy)
theorem choZ_rises {l : List Ev} {init : List Int} : ∀ c ∈ choZ l init, c.Pairwise (· < ·) := by
  intro c hc
  obtain ⟨x, _, rfl⟩ := List.mem_map.1 hc
  unfold choE
  split
  · exact mayE_rises _ _ _
  · simp
theorem srcZ_mem {l : List Ev} {init w : List Int} (h : w ∈ srcZ l init) : w.length = l.length ∧ ∀ (i : Nat) (x : Ev), l[i]? = some x → ∃ z, w[i]? = some z ∧ z ∈ choE l init x := by
  unfold srcZ at h
  split at h
  · cases h
  · obtain ⟨h1, h2⟩ := mem_waysL.1 h
    rw [choZ_len] at h1
    refine ⟨h1, fun i x hx => ?_⟩
    have hi : i < w.length := by
      rw [h1]
      rcases Nat.lt_or_ge i l.length with h | h
      · exact h
      · rw [List.getElem?_eq_none h] at hx; cases hx
    obtain ⟨c, hc, hz⟩ := h2 i _ (List.getElem?_eq_getElem hi)
    rw [choZ_at hx] at hc
    cases hc
    exact ⟨_, List.getElem?_eq_getElem hi, hz⟩
theorem srcZ_rises (l : List Ev) (init : List Int) : (srcZ l init).Pairwise lexL := by
  unfold srcZ
  split
  · exact List.Pairwise.nil
  · exact waysL_rise choZ_rises
theorem fits_iff {l : List Ev} {init w : List Int} : fitsZ l init w = true ↔ w.length = l.length ∧ ∀ (i : Nat) (x : Ev) (z : Int), l[i]? = some x → w[i]? = some z → z ∈ choE l init x := by
  unfold fitsZ
  rw [Bool.and_eq_true, decide_eq_true_eq, List.all_eq_true]
  refine and_congr_right fun hl => ?_
  constructor
  · intro h i x z hx hz
    have : (List.zipWith (fun c x => c.contains x) (choZ l init) w)[i]? = some ((choE l init x).contains z) := by
      rw [List.getElem?_zipWith, choZ_at hx, hz]
    have := h _ (List.mem_of_getElem? this)
    simpa using this
  · intro h b hb
    obtain ⟨i, hi⟩ := List.getElem?_of_mem hb
    rw [List.getElem?_zipWith] at hi
    cases hx : l[i]? with
    | none => simp [choZ, hx] at hi
    | some x =>
      rw [choZ_at hx] at hi
      cases hz : w[i]? with
      | none => rw [hz] at hi; cases hi
      | some z =>
        rw [hz] at hi
        simp only [Option.some.injEq] at hi
        subst hi
        simpa using h i x z hx hz
theorem srcZ_fits {l : List Ev} {init w : List Int} (h : w ∈ srcZ l init) : fitsZ l init w = true := by
  obtain ⟨h1, h2⟩ := srcZ_mem h
  refine fits_iff.2 ⟨h1, fun i x z hx hz => ?_⟩
  obtain ⟨y, hy, h3⟩ := h2 i x hx
  rw [hz] at hy
  cases hy
  exact h3
theorem prodN_split {α : Type} (a : List (List α)) (k : Nat) : prodN a = prodN (a.take k) * prodN (a.drop k) := by
  rw [← prodN_append, List.take_append_drop]
theorem srcZ_many {l : List Ev} {init : List Int} {k : Nat} (h : 20000 < prodN ((choZ l init).take k)) : srcZ l init = [] := by
  unfold srcZ
  split
  · rfl
  · rename_i hn
    rw [← List.length_eq_zero_iff, waysL_len]
    have e := prodN_split (choZ l init) k
    rcases Nat.eq_zero_or_pos (prodN ((choZ l init).drop k)) with h0 | h0
    · rw [e, h0, Nat.mul_zero]
    · have := Nat.mul_le_mul (Nat.le_of_lt h) h0
      have h1 : prodN ((choZ l init).take k) * 1 ≤ prodN ((choZ l init).take k) * prodN ((choZ l init).drop k) := Nat.mul_le_mul (Nat.le_refl _) h0
      rw [← e] at h1
      omega
theorem srcZ_len {l : List Ev} {init : List Int} (h : ¬ 20000 < prodN (choZ l init)) : (srcZ l init).length = prodN (choZ l init) := by
  unfold srcZ
  rw [if_neg h, waysL_len]
theorem srcZ_le (l : List Ev) (init : List Int) : (srcZ l init).length ≤ 20000 := by
  by_cases h : 20000 < prodN (choZ l init)
  · unfold srcZ; rw [if_pos h]; exact Nat.zero_le _
  · rw [srcZ_len h]; omega
theorem prodN_zero {α : Type} {a : List (List α)} {k : Nat} (h : a[k]? = some []) : prodN a = 0 := by
  rw [prodN_split a (k + 1), prodN_next h]
  simp
theorem srcZ_none {l : List Ev} {init : List Int} {k : Nat} {x : Ev} (h : l[k]? = some x) (he : choE l init x = []) : srcZ l init = [] := by
  rw [← List.length_eq_zero_iff, srcZ_len]
  · exact prodN_zero (by rw [choZ_at h, he])
  · rw [prodN_zero (by rw [choZ_at h, he])]; omega
/-- Where an event reads from. -/
def rfF (n : Nat) (from_ : List Int) (i k : Nat) : Bool := decide (k < n) && (decide (i < n) && (from_[k]? == some (i : Int)))
theorem rf_read {l : List Ev} {init w : List Int} (h : w ∈ srcZ l init) {i k : Nat} (hr : rfF l.length w i k = true) : ∃ x y, l[i]? = some x ∧ l[k]? = some y ∧ x.kd = 2 ∧ y.kd = 1 ∧ x.lc = y.lc ∧ x.vl = y.vl := by
  unfold rfF at hr
  simp only [Bool.and_eq_true, decide_eq_true_eq, beq_iff_eq] at hr
  obtain ⟨hk, hi, hz⟩ := hr
  obtain ⟨z, hz', hm⟩ := (srcZ_mem h).2 k _ (List.getElem?_eq_getElem hk)
  rw [hz] at hz'
  cases hz'
  rcases choE_mem hm with ⟨h1, hm⟩ | ⟨_, h2⟩
  · rcases mem_mayE.1 hm with ⟨h2, _⟩ | ⟨j, y, hj, hw, he⟩
    · omega
    · have e : j = i := by omega
      subst e
      unfold isW at hw
      simp only [Bool.and_eq_true, beq_iff_eq] at hw
      exact ⟨y, _, hj, List.getElem?_eq_getElem hk, hw.1, h1, hw.2.1, hw.2.2⟩
  · omega
/-- Of a way: what a read reads is a write, or what was there; nothing else reads. -/
theorem way_at {l : List Ev} {init w : List Int} (h : w ∈ srcZ l init) {k : Nat} {y : Ev} (hy : l[k]? = some y) : ∃ z, w[k]? = some z ∧ ((y.kd = 1 ∧ (z = -1 ∨ ∃ i : Nat, i < l.length ∧ z = (i : Int))) ∨ (y.kd ≠ 1 ∧ z = -2)) := by
  obtain ⟨z, hz, hm⟩ := (srcZ_mem h).2 k y hy
  refine ⟨z, hz, ?_⟩
  rcases choE_mem hm with ⟨h1, hm⟩ | ⟨h1, h2⟩
  · rcases mem_mayE.1 hm with ⟨h2, _⟩ | ⟨j, x, hj, _, he⟩
    · exact .inl ⟨h1, .inl h2⟩
    · refine .inl ⟨h1, .inr ⟨j, ?_, he⟩⟩
      rcases Nat.lt_or_ge j l.length with h | h
      · exact h
      · rw [List.getElem?_eq_none h] at hj; cases hj
  · exact .inr ⟨h1, h2⟩

/-- What nobody writes, and wasn't there, is read from nowhere. -/
theorem mayE_nobody {l : List Ev} {init : List Int} {x : Ev} (h1 : ∀ y ∈ l, y.kd = 2 → y.vl ≠ x.vl) (h2 : ∀ v ∈ init, v ≠ x.vl) : mayE l init x = [] := by
  rw [List.eq_nil_iff_forall_not_mem]
  intro z hz
  rcases mem_mayE.1 hz with ⟨_, hb⟩ | ⟨i, y, hi, hw, _⟩
  · unfold initB at hb
    simp only [Bool.and_eq_true, decide_eq_true_eq, beq_iff_eq] at hb
    obtain ⟨a, b, c⟩ := hb
    have hlt : x.lc.toNat < init.length := by omega
    rw [List.getD_eq_getElem?_getD, List.getElem?_eq_getElem hlt] at c
    exact h2 _ (List.getElem_mem hlt) c
  · unfold isW at hw
    simp only [Bool.and_eq_true, beq_iff_eq] at hw
    exact h1 y (List.mem_of_getElem? hi) hw.1 hw.2.2
/-- With an event more. -/
theorem mayE_more (l : List Ev) (init : List Int) (x y : Ev) : mayE (l ++ [y]) init x = mayE l init x ++ (if isW x.lc x.vl y then [(l.length : Int)] else []) := by
  unfold mayE
  rw [wrsF_append, wrsF, wrsF, List.append_nil, Nat.zero_add, List.append_assoc]
/-- What was there at places that nobody reads plays no part. -/
theorem choE_init {l : List Ev} {i1 i2 : List Int} {x : Ev} (h : x.kd = 1 → initB i1 x.lc x.vl = initB i2 x.lc x.vl) : choE l i1 x = choE l i2 x := by
  unfold choE mayE
  by_cases hk : x.kd = 1
  · rw [h hk]
  · rw [if_neg (by simp [hk]), if_neg (by simp [hk])]
theorem srcZ_init {l : List Ev} {i1 i2 : List Int} (h : ∀ x ∈ l, x.kd = 1 → initB i1 x.lc x.vl = initB i2 x.lc x.vl) : srcZ l i1 = srcZ l i2 := by
  have e : choZ l i1 = choZ l i2 := List.map_congr_left fun x hx => choE_init (h x hx)
  unfold srcZ
  rw [e]
end Go.Proofs.Ytgffeihfcmbobaa
