/- Orders as plain data: beginnings that go on, what fits a relation, and what follows; nothing of any program. -/
import Derived.Test.YtpgbedaonjfpnaaRelMath2
namespace Go.Proofs.Ytpgbedaonjfpnaa

/-- May k stand right behind l? -/
def stands (n : Nat) (f : Nat → Nat → Bool) (l : List Nat) (k : Nat) : Bool := !l.contains k && (List.range n).all fun i => !f i k || l.contains i
/-- All that l goes on to, with m more. -/
def extF (n : Nat) (f : Nat → Nat → Bool) : Nat → List Nat → List (List Nat)
  | 0, l => [l]
  | m + 1, l => (List.range n).flatMap fun k => if stands n f l k then extF n f m (l ++ [k]) else []
/-- Those that go on with a number from k on. -/
def extFrom (n : Nat) (f : Nat → Nat → Bool) (m : Nat) (l : List Nat) (k : Nat) : List (List Nat) := ((List.range n).drop k).flatMap fun k => if stands n f l k then extF n f m (l ++ [k]) else []
theorem extFrom_all (n : Nat) (f : Nat → Nat → Bool) (m : Nat) (l : List Nat) : extFrom n f m l 0 = extF n f (m + 1) l := rfl
theorem range_drop {n k : Nat} (h : k < n) : (List.range n).drop k = k :: (List.range n).drop (k + 1) := by
  rw [List.drop_eq_getElem_cons (by simpa using h)]; simp
theorem extFrom_yes {n : Nat} {f : Nat → Nat → Bool} {m : Nat} {l : List Nat} {k : Nat} (hk : k < n) (h : stands n f l k = true) : extFrom n f m l k = extF n f m (l ++ [k]) ++ extFrom n f m l (k + 1) := by
  unfold extFrom; rw [range_drop hk]; simp [h]
theorem extFrom_no {n : Nat} {f : Nat → Nat → Bool} {m : Nat} {l : List Nat} {k : Nat} (hk : k < n) (h : stands n f l k = false) : extFrom n f m l k = extFrom n f m l (k + 1) := by
  unfold extFrom; rw [range_drop hk]; simp [h]
theorem extFrom_end {n : Nat} {f : Nat → Nat → Bool} {m : Nat} {l : List Nat} : extFrom n f m l n = [] := by
  unfold extFrom; rw [List.drop_of_length_le (by simp)]; rfl

/-- Each of y may stand, one behind the other, behind l. -/
def fitsFrom (n : Nat) (f : Nat → Nat → Bool) : List Nat → List Nat → Bool
  | _, [] => true
  | l, k :: y => decide (k < n) && stands n f l k && fitsFrom n f (l ++ [k]) y
def fitsL (n : Nat) (f : Nat → Nat → Bool) (x : List Nat) : Bool := decide (x.length = n) && fitsFrom n f [] x
def linF (n : Nat) (f : Nat → Nat → Bool) : List (List Nat) := if acyF n f then extF n f n [] else []
def noF : Nat → Nat → Bool := fun _ _ => false

theorem ext_mem {n : Nat} {f : Nat → Nat → Bool} : ∀ {m : Nat} {l x : List Nat}, x ∈ extF n f m l → ∃ y, x = l ++ y ∧ y.length = m ∧ fitsFrom n f l y = true
  | 0, l, x, h => by simp only [extF, List.mem_singleton] at h; subst h; exact ⟨[], by simp, rfl, rfl⟩
  | m + 1, l, x, h => by
    simp only [extF, List.mem_flatMap, List.mem_range] at h
    obtain ⟨k, hk, h⟩ := h
    split at h
    · rename_i hs
      obtain ⟨y, rfl, hy, hf⟩ := ext_mem h
      exact ⟨k :: y, by simp, by simp [hy], by simp [fitsFrom, hk, hs, hf]⟩
    · simp at h

theorem ext_len {n : Nat} {f : Nat → Nat → Bool} {m : Nat} {l x : List Nat} (h : x ∈ extF n f m l) : x.length = l.length + m := by
  obtain ⟨y, rfl, hy, _⟩ := ext_mem h; simp [hy]

theorem stands_no {n : Nat} {l : List Nat} {k : Nat} : stands n noF l k = !l.contains k := by simp [stands, noF]
theorem stands_sub {n : Nat} {f : Nat → Nat → Bool} {l : List Nat} {k : Nat} (h : stands n f l k = true) : l.contains k = false := by
  unfold stands at h; rw [Bool.and_eq_true] at h; simpa using h.1

theorem filter_flat {α β : Type} (p : β → Bool) (g : α → List β) : ∀ l : List α, (l.flatMap g).filter p = l.flatMap fun a => (g a).filter p
  | [] => rfl
  | a :: l => by simp [List.flatMap_cons, List.filter_append, filter_flat p g l]

theorem ext_filter {n : Nat} {f : Nat → Nat → Bool} : ∀ (m : Nat) (l : List Nat), (extF n noF m l).filter (fun x => fitsFrom n f l (x.drop l.length)) = extF n f m l
  | 0, l => by simp [extF, fitsFrom]
  | m + 1, l => by
    simp only [extF, filter_flat]
    have : ∀ k ∈ List.range n, (if stands n noF l k = true then extF n noF m (l ++ [k]) else []).filter (fun x => fitsFrom n f l (x.drop l.length)) = if stands n f l k = true then extF n f m (l ++ [k]) else [] := by
      intro k hk
      have hk' : k < n := by simpa using hk
      rw [stands_no]
      by_cases hc : l.contains k = true
      · have : stands n f l k = false := by simp only [stands, hc, Bool.not_true, Bool.false_and]
        simp only [hc, this]; rfl
      · have hc' : l.contains k = false := by simpa using hc
        simp only [hc', Bool.not_false, if_true]
        have e : ∀ x ∈ extF n noF m (l ++ [k]), fitsFrom n f l (x.drop l.length) = (stands n f l k && fitsFrom n f (l ++ [k]) (x.drop (l ++ [k]).length)) := by
          intro x hx
          obtain ⟨y, rfl, _, _⟩ := ext_mem hx
          have e1 : (l ++ [k] ++ y).drop l.length = k :: y := by simp
          have e2 : (l ++ [k] ++ y).drop (l ++ [k]).length = y := List.drop_left
          rw [e1, e2]
          simp [fitsFrom, hk']
        rw [List.filter_congr e]
        cases hs : stands n f l k with
        | true => simpa using ext_filter (n := n) (f := f) m (l ++ [k])
        | false => simp
    simp only [List.flatMap_def]
    rw [List.map_congr_left this]

/-- Each of x stands where it may. -/
structure Fit (n : Nat) (f : Nat → Nat → Bool) (x : List Nat) : Prop where
  len : x.length = n
  on : ∀ l1 k l2, x = l1 ++ k :: l2 → k < n ∧ k ∉ l1 ∧ ∀ i, i < n → f i k = true → i ∈ l1

theorem stands_iff {n : Nat} {f : Nat → Nat → Bool} {l : List Nat} {k : Nat} : stands n f l k = true ↔ k ∉ l ∧ ∀ i, i < n → f i k = true → i ∈ l := by
  simp only [stands, Bool.and_eq_true, Bool.not_eq_true', List.all_eq_true, List.mem_range, Bool.or_eq_true]
  constructor
  · rintro ⟨h1, h2⟩
    refine ⟨by simpa using h1, fun i hi hf => ?_⟩
    rcases h2 i hi with h | h
    · rw [hf] at h; cases h
    · simpa using h
  · rintro ⟨h1, h2⟩
    refine ⟨by simpa using h1, fun i hi => ?_⟩
    cases hf : f i k with
    | false => exact .inl rfl
    | true => exact .inr (by simpa using h2 i hi hf)

theorem fitsFrom_iff {n : Nat} {f : Nat → Nat → Bool} : ∀ {y l : List Nat}, fitsFrom n f l y = true ↔ ∀ l1 k l2, y = l1 ++ k :: l2 → k < n ∧ stands n f (l ++ l1) k = true
  | [], l => by simp [fitsFrom]
  | a :: y, l => by
    simp only [fitsFrom, Bool.and_eq_true, decide_eq_true_eq]
    constructor
    · rintro ⟨⟨h1, h2⟩, h3⟩ l1 k l2 e
      cases l1 with
      | nil => simp at e; obtain ⟨rfl, rfl⟩ := e; exact ⟨h1, by simpa using h2⟩
      | cons b l1 =>
        simp at e
        obtain ⟨rfl, rfl⟩ := e
        have := fitsFrom_iff.1 h3 l1 k l2 rfl
        simpa using this
    · intro h
      have h0 := h [] a y rfl
      refine ⟨⟨h0.1, by simpa using h0.2⟩, fitsFrom_iff.2 fun l1 k l2 e => ?_⟩
      have := h (a :: l1) k l2 (by simp [e])
      simpa using this

theorem fits_iff {n : Nat} {f : Nat → Nat → Bool} {x : List Nat} : fitsL n f x = true ↔ Fit n f x := by
  simp only [fitsL, Bool.and_eq_true, decide_eq_true_eq, fitsFrom_iff]
  constructor
  · rintro ⟨h1, h2⟩
    exact ⟨h1, fun l1 k l2 e => ⟨(h2 l1 k l2 e).1, stands_iff.1 (by simpa using (h2 l1 k l2 e).2)⟩⟩
  · intro h
    exact ⟨h.len, fun l1 k l2 e => ⟨(h.on l1 k l2 e).1, by simpa using stands_iff.2 (h.on l1 k l2 e).2⟩⟩

theorem all_in : ∀ {l m : List Nat}, l.Nodup → (∀ a ∈ l, a ∈ m) → m.length ≤ l.length → ∀ a ∈ m, a ∈ l
  | [], m, _, _, h, a, ha => by
    have : m = [] := List.length_eq_zero_iff.1 (by simpa using h)
    subst this; simp at ha
  | b :: l, m, hn, hs, h, a, ha => by
    obtain ⟨hb, hn⟩ := List.nodup_cons.1 hn
    have hbm := hs b (by simp)
    by_cases e : a = b
    · simp [e]
    · have := all_in (l := l) (m := m.erase b) hn (fun c hc => (List.mem_erase_of_ne (by rintro rfl; exact hb hc)).2 (hs c (by simp [hc]))) (by rw [List.length_erase_of_mem hbm]; simp at h; omega) a ((List.mem_erase_of_ne e).2 ha)
      simp [this]

section
variable {n : Nat} {f : Nat → Nat → Bool} {x : List Nat}
theorem Fit.nodup (h : Fit n f x) : x.Nodup := by
  have : ∀ l2 l1, x = l1 ++ l2 → l2.Nodup := by
    intro l2
    induction l2 with
    | nil => intro l1 _; exact List.nodup_nil
    | cons k l2 ih =>
      intro l1 e
      refine List.nodup_cons.2 ⟨fun hk => ?_, ih (l1 ++ [k]) (by simp [e])⟩
      obtain ⟨a, b, rfl⟩ := List.append_of_mem hk
      exact (h.on (l1 ++ k :: a) k b (by simp [e])).2.1 (by simp)
  exact this x [] rfl
theorem Fit.lt (h : Fit n f x) : ∀ a ∈ x, a < n := fun a ha => by
  obtain ⟨l1, l2, e⟩ := List.append_of_mem ha
  exact (h.on l1 a l2 e).1
theorem Fit.mem (h : Fit n f x) {a : Nat} (ha : a < n) : a ∈ x :=
  all_in (l := x) (m := List.range n) h.nodup (fun a ha => by simpa using h.lt a ha) (by simp [h.len]) a (by simpa using ha)
/-- i stands ahead of k. -/
def Ahead (x : List Nat) (i k : Nat) : Prop := ∃ l1 l2, x = l1 ++ k :: l2 ∧ i ∈ l1
theorem Fit.ahead (h : Fit n f x) {i k : Nat} (hi : i < n) (hk : k < n) (hf : f i k = true) : Ahead x i k := by
  obtain ⟨l1, l2, e⟩ := List.append_of_mem (h.mem hk)
  exact ⟨l1, l2, e, (h.on l1 k l2 e).2.2 i hi hf⟩
theorem split_same {k : Nat} : ∀ {l1 m1 l2 m2 : List Nat}, (l1 ++ k :: l2).Nodup → l1 ++ k :: l2 = m1 ++ k :: m2 → l1 = m1
  | [], [], _, _, _, _ => rfl
  | [], b :: m1, l2, m2, hn, e => by
    simp at e
    obtain ⟨rfl, rfl⟩ := e
    simp at hn
  | a :: l1, [], l2, m2, hn, e => by
    simp at e
    obtain ⟨rfl, _⟩ := e
    simp at hn
  | a :: l1, b :: m1, l2, m2, hn, e => by
    simp only [List.cons_append, List.cons.injEq] at e
    obtain ⟨rfl, e⟩ := e
    rw [split_same (by simpa using (List.nodup_cons.1 hn).2) e]
theorem Ahead.trans (hn : x.Nodup) {i j k : Nat} (h1 : Ahead x i j) (h2 : Ahead x j k) : Ahead x i k := by
  obtain ⟨l1, l2, e1, hi⟩ := h1
  obtain ⟨m1, m2, e2, hj⟩ := h2
  obtain ⟨a, b, rfl⟩ := List.append_of_mem hj
  have e3 : l1 ++ j :: l2 = a ++ j :: (b ++ k :: m2) := by rw [← e1, e2]; simp
  have := split_same (by rw [← e1]; exact hn) e3
  subst this
  exact ⟨_, _, e2, by simp [hi]⟩
theorem Ahead.irrefl (hn : x.Nodup) {i : Nat} : ¬ Ahead x i i := by
  rintro ⟨l1, l2, rfl, hi⟩
  have := (List.nodup_append.1 hn).2.2 i hi i (by simp)
  exact this rfl
theorem Fit.plus (h : Fit n f x) (hw : Within n f) {i k : Nat} (hp : plusF n f i k = true) : Ahead x i k :=
  plus_least (T := Ahead x) (fun i k hf => h.ahead (hw i k hf).1 (hw i k hf).2 hf) (fun _ _ _ h1 h2 => h1.trans h.nodup h2) hp
theorem Fit.acy (h : Fit n f x) (hw : Within n f) : acyF n f = true := by
  rw [acy_iff hw]
  intro i
  cases hp : plusF n f i i with
  | false => rfl
  | true => exact absurd (h.plus hw hp) (Ahead.irrefl h.nodup)
theorem Fit.back (h : Fit n f x) : Fit n (invF f) x.reverse := by
  refine ⟨by simp [h.len], fun l1 k l2 e => ?_⟩
  have e' : x = l2.reverse ++ k :: l1.reverse := by
    have := congrArg List.reverse e
    simpa using this
  obtain ⟨hk, hk2, _⟩ := h.on _ _ _ e'
  have hkx : k ∉ l1 := fun hk1 => by
    have hn := h.nodup
    rw [e'] at hn
    have := (List.nodup_cons.1 (List.nodup_append.1 hn).2.1).1
    exact this (by simpa using hk1)
  refine ⟨hk, hkx, fun i hi hf => ?_⟩
  have hix := h.mem hi
  rw [e'] at hix
  simp only [List.mem_append, List.mem_cons, List.mem_reverse] at hix
  have hf' : f k i = true := hf
  rcases hix with hi2 | rfl | hi1
  · exfalso
    obtain ⟨a, b, eb⟩ := List.append_of_mem (List.mem_reverse.2 hi2)
    have := (h.on a i (b ++ k :: l1.reverse) (by rw [e', eb]; simp)).2.2 k hk hf'
    exact hk2 (by rw [eb]; simp [this])
  · exact absurd ((h.on _ _ _ e').2.2 i hi hf') hk2
  · exact hi1
theorem Fit.sub {g : Nat → Nat → Bool} (h : Fit n f x) (hs : ∀ i k, g i k = true → f i k = true) : Fit n g x :=
  ⟨h.len, fun l1 k l2 e => ⟨(h.on l1 k l2 e).1, (h.on l1 k l2 e).2.1, fun i hi hg => (h.on l1 k l2 e).2.2 i hi (hs i k hg)⟩⟩
theorem nodup_at : ∀ {x : List Nat} {a b : Nat} {v : Nat}, x.Nodup → x[a]? = some v → x[b]? = some v → a = b
  | [], a, _, _, _, ha, _ => by simp at ha
  | y :: x, 0, 0, _, _, _, _ => rfl
  | y :: x, 0, b + 1, v, hn, ha, hb => by
    simp at ha hb
    subst ha
    exact absurd (List.mem_of_getElem? hb) (List.nodup_cons.1 hn).1
  | y :: x, a + 1, 0, v, hn, ha, hb => by
    simp at ha hb
    subst hb
    exact absurd (List.mem_of_getElem? ha) (List.nodup_cons.1 hn).1
  | y :: x, a + 1, b + 1, v, hn, ha, hb => by
    simp at ha hb
    rw [nodup_at (List.nodup_cons.1 hn).2 ha hb]
theorem Ahead.at {i k a b : Nat} (hn : x.Nodup) (h : Ahead x i k) (ha : x[a]? = some i) (hb : x[b]? = some k) : a < b := by
  obtain ⟨l1, l2, e, hi⟩ := h
  obtain ⟨c, hc, hci⟩ := List.getElem_of_mem hi
  have h1 : x[c]? = some i := by rw [e, List.getElem?_append_left hc, List.getElem?_eq_getElem hc, hci]
  have h2 : x[l1.length]? = some k := by rw [e]; simp
  have e1 : a = c := nodup_at hn ha h1
  have e2 : b = l1.length := nodup_at hn hb h2
  omega
end

theorem lin_fit {n : Nat} {f : Nat → Nat → Bool} {x : List Nat} (h : x ∈ linF n f) : Fit n f x := by
  unfold linF at h
  split at h
  · obtain ⟨y, rfl, hl, hf⟩ := ext_mem h
    exact fits_iff.1 (by simp [fitsL, hl, hf])
  · simp at h
theorem ext_fit {n : Nat} {f : Nat → Nat → Bool} {x : List Nat} (h : x ∈ extF n f n []) : Fit n f x := by
  obtain ⟨y, rfl, hl, hf⟩ := ext_mem h
  exact fits_iff.1 (by simp [fitsL, hl, hf])
/-- All linear orders are those of all orders that fit. -/
theorem lin_filter {n : Nat} {f : Nat → Nat → Bool} (hw : Within n f) : (extF n noF n []).filter (fitsL n f) = linF n f := by
  have h1 := ext_filter (n := n) (f := f) n []
  have e : ∀ x ∈ extF n noF n [], fitsL n f x = fitsFrom n f [] (x.drop ([] : List Nat).length) := by
    intro x hx
    have := ext_len hx
    simp only [List.length_nil, Nat.zero_add] at this
    simp [fitsL, this]
  rw [List.filter_congr e, h1]
  unfold linF
  split
  · rfl
  · rename_i ha
    rw [List.eq_nil_iff_forall_not_mem]
    intro x hx
    exact ha ((ext_fit hx).acy hw)
/-- How many there are at most. -/
theorem ext_count {n : Nat} {f : Nat → Nat → Bool} : ∀ (m : Nat) (l : List Nat), (extF n f m l).length ≤ n ^ m
  | 0, l => by simp [extF]
  | m + 1, l => by
    simp only [extF, List.length_flatMap]
    have : ∀ (s : List Nat), (s.map fun k => (if stands n f l k = true then extF n f m (l ++ [k]) else []).length).sum ≤ s.length * n ^ m := by
      intro s
      induction s with
      | nil => simp
      | cons k s ih =>
        simp only [List.map_cons, List.sum_cons, List.length_cons, Nat.add_mul, Nat.one_mul]
        have : (if stands n f l k = true then extF n f m (l ++ [k]) else []).length ≤ n ^ m := by
          split
          · exact ext_count m _
          · simp
        omega
    have h := this (List.range n)
    simp only [List.length_range] at h
    rw [Nat.pow_succ, Nat.mul_comm]
    exact h
theorem no_acy (n : Nat) : acyF n noF = true := by
  rw [acy_iff (fun i k h => by simp [noF] at h)]
  intro i
  cases hp : plusF n noF i i with
  | false => rfl
  | true => exact (plus_least (T := fun _ _ => False) (fun i k h => by simp [noF] at h) (fun _ _ _ h _ => h) hp).elim
theorem lin_no (n : Nat) : linF n noF = extF n noF n [] := by unfold linF; rw [no_acy]; rfl
end Go.Proofs.Ytpgbedaonjfpnaa
