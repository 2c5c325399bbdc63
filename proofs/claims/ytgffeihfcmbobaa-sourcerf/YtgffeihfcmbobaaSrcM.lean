/- Layer 11, as plain data: whence events may read, and all ways to read. -/
import Derived.Test.YtgffeihfcmbobaaEvP
namespace Go.Proofs.Ytgffeihfcmbobaa

/-- The places at which something is true, from k on. -/
def wrsF (p : Ev → Bool) : List Ev → Nat → List Int
  | [], _ => []
  | x :: l, k => (if p x then [(k : Int)] else []) ++ wrsF p l (k + 1)
def isW (lc vl : Int) (x : Ev) : Bool := (x.kd == 2) && ((x.lc == lc) && (x.vl == vl))
/-- Was it there at first? -/
def initB (init : List Int) (lc vl : Int) : Bool := decide (0 ≤ lc) && (decide (lc < (init.length : Int)) && (init.getD lc.toNat 0 == vl))
def mayE (l : List Ev) (init : List Int) (x : Ev) : List Int := (if initB init x.lc x.vl then [-1] else []) ++ wrsF (isW x.lc x.vl) l 0
def mayZ (l : List Ev) (init : List Int) (r : Int) : List Int :=
  if 0 ≤ r then
    match l[r.toNat]? with
    | some x => if x.kd == 1 then mayE l init x else []
    | none => []
  else []
/-- What each event may choose of. -/
def choE (l : List Ev) (init : List Int) (x : Ev) : List Int := if x.kd == 1 then mayE l init x else [-2]
def choZ (l : List Ev) (init : List Int) : List (List Int) := l.map (choE l init)
def prodN {α : Type} : List (List α) → Nat
  | [] => 1
  | c :: cs => c.length * prodN cs
def waysL {α : Type} : List (List α) → List (List α)
  | [] => [[]]
  | c :: cs => c.flatMap fun x => (waysL cs).map (x :: ·)
def srcZ (l : List Ev) (init : List Int) : List (List Int) := if 20000 < prodN (choZ l init) then [] else waysL (choZ l init)
def fitsZ (l : List Ev) (init : List Int) (from_ : List Int) : Bool := decide (from_.length = l.length) && (List.zipWith (fun c x => c.contains x) (choZ l init) from_).all id

theorem wrsF_append (p : Ev → Bool) : ∀ (l m : List Ev) (k : Nat), wrsF p (l ++ m) k = wrsF p l k ++ wrsF p m (k + l.length)
  | [], m, k => by simp [wrsF]
  | x :: l, m, k => by
    rw [List.cons_append, wrsF, wrsF_append p l m (k + 1), wrsF, List.append_assoc, List.length_cons, show k + 1 + l.length = k + (l.length + 1) by omega]
theorem wrsF_next {p : Ev → Bool} {l : List Ev} {k : Nat} {x : Ev} (h : l[k]? = some x) : wrsF p (l.take (k + 1)) 0 = wrsF p (l.take k) 0 ++ (if p x then [(k : Int)] else []) := by
  have hk : k < l.length := by
    rcases Nat.lt_or_ge k l.length with h1 | h1
    · exact h1
    · rw [List.getElem?_eq_none h1] at h; cases h
  rw [List.take_add_one, h, Option.toList_some, wrsF_append, wrsF, wrsF, List.append_nil, List.length_take, Nat.min_eq_left (by omega), Nat.zero_add]
theorem mem_wrsF {p : Ev → Bool} {z : Int} : ∀ {l : List Ev} {k : Nat}, z ∈ wrsF p l k ↔ ∃ i x, l[i]? = some x ∧ p x = true ∧ z = ((k + i : Nat) : Int)
  | [], k => by simp [wrsF]
  | x :: l, k => by
    rw [wrsF, List.mem_append, mem_wrsF]
    constructor
    · rintro (h | ⟨i, y, h1, h2, rfl⟩)
      · by_cases hp : p x = true
        · rw [if_pos hp, List.mem_singleton] at h
          exact ⟨0, x, rfl, hp, by rw [h]; rfl⟩
        · rw [if_neg hp] at h; cases h
      · exact ⟨i + 1, y, by simpa using h1, h2, by congr 1; omega⟩
    · rintro ⟨i, y, h1, h2, rfl⟩
      cases i with
      | zero =>
        simp only [List.getElem?_cons_zero, Option.some.injEq] at h1
        subst h1
        exact .inl (by rw [if_pos h2]; simp)
      | succ i => exact .inr ⟨i, y, by simpa using h1, h2, by congr 1; omega⟩
theorem wrsF_len (p : Ev → Bool) : ∀ (l : List Ev) (k : Nat), (wrsF p l k).length ≤ l.length
  | [], _ => Nat.le_refl _
  | x :: l, k => by
    have := wrsF_len p l (k + 1)
    rw [wrsF, List.length_append, List.length_cons]
    split <;> simp <;> omega
theorem wrsF_rises (p : Ev → Bool) : ∀ (l : List Ev) (k : Nat), (wrsF p l k).Pairwise (· < ·)
  | [], _ => List.Pairwise.nil
  | x :: l, k => by
    rw [wrsF, List.pairwise_append]
    refine ⟨by split <;> simp, wrsF_rises p l (k + 1), fun a ha b hb => ?_⟩
    obtain ⟨i, y, _, _, rfl⟩ := mem_wrsF.1 hb
    split at ha
    · rw [List.mem_singleton] at ha; subst ha; omega
    · cases ha
theorem mayE_len (l : List Ev) (init : List Int) (x : Ev) : (mayE l init x).length ≤ l.length + 1 := by
  have := wrsF_len (isW x.lc x.vl) l 0
  unfold mayE
  rw [List.length_append]
  split <;> simp <;> omega
theorem mayE_rises (l : List Ev) (init : List Int) (x : Ev) : (mayE l init x).Pairwise (· < ·) := by
  unfold mayE
  rw [List.pairwise_append]
  refine ⟨by split <;> simp, wrsF_rises _ _ _, fun a ha b hb => ?_⟩
  obtain ⟨i, y, _, _, rfl⟩ := mem_wrsF.1 hb
  split at ha
  · rw [List.mem_singleton] at ha; subst ha; omega
  · cases ha
theorem mem_mayE {l : List Ev} {init : List Int} {x : Ev} {z : Int} : z ∈ mayE l init x ↔ (z = -1 ∧ initB init x.lc x.vl = true) ∨ ∃ (i : Nat) (y : Ev), l[i]? = some y ∧ isW x.lc x.vl y = true ∧ z = (i : Int) := by
  unfold mayE
  rw [List.mem_append, mem_wrsF]
  constructor
  · rintro (h | ⟨i, y, h1, h2, rfl⟩)
    · split at h
      · rename_i hb; exact .inl ⟨by simpa using h, hb⟩
      · cases h
    · exact .inr ⟨i, y, h1, h2, by simp⟩
  · rintro (⟨rfl, hb⟩ | ⟨i, y, h1, h2, rfl⟩)
    · exact .inl (by rw [if_pos hb]; simp)
    · exact .inr ⟨i, y, h1, h2, by simp⟩
theorem mayZ_at {l : List Ev} {init : List Int} {k : Nat} {x : Ev} (h : l[k]? = some x) : mayZ l init (k : Int) = if x.kd == 1 then mayE l init x else [] := by
  unfold mayZ
  rw [if_pos (by omega), Int.toNat_natCast, h]
theorem mayZ_none {l : List Ev} {init : List Int} {r : Int} (h : r < 0 ∨ (l.length : Int) ≤ r) : mayZ l init r = [] := by
  unfold mayZ
  split
  · rw [List.getElem?_eq_none (by omega)]
  · rfl
theorem choZ_len (l : List Ev) (init : List Int) : (choZ l init).length = l.length := by simp [choZ]
theorem choZ_at {l : List Ev} {init : List Int} {k : Nat} {x : Ev} (h : l[k]? = some x) : (choZ l init)[k]? = some (choE l init x) := by simp [choZ, h]
theorem choE_mem {l : List Ev} {init : List Int} {x : Ev} {z : Int} (h : z ∈ choE l init x) : (x.kd = 1 ∧ z ∈ mayE l init x) ∨ (x.kd ≠ 1 ∧ z = -2) := by
  unfold choE at h
  by_cases hk : x.kd = 1
  · rw [if_pos (by simp [hk])] at h; exact .inl ⟨hk, h⟩
  · rw [if_neg (by simp [hk])] at h; exact .inr ⟨hk, by simpa using h⟩

theorem prodN_append {α : Type} : ∀ (a b : List (List α)), prodN (a ++ b) = prodN a * prodN b
  | [], b => by simp [prodN]
  | c :: a, b => by rw [List.cons_append, prodN, prodN_append a b, prodN, Nat.mul_assoc]
theorem prodN_next {α : Type} {a : List (List α)} {k : Nat} {c : List α} (h : a[k]? = some c) : prodN (a.take (k + 1)) = prodN (a.take k) * c.length := by
  rw [List.take_add_one, h, Option.toList_some, prodN_append, prodN, prodN, Nat.mul_one]
theorem waysL_len {α : Type} : ∀ a : List (List α), (waysL a).length = prodN a
  | [] => rfl
  | c :: a => by
    rw [waysL, prodN, ← waysL_len a]
    induction c with
    | nil => simp
    | cons x c ih => rw [List.flatMap_cons, List.length_append, ih, List.length_map, List.length_cons, Nat.succ_mul, Nat.add_comm]
/-- A way has of each what it may choose of. -/
theorem mem_waysL {α : Type} : ∀ {a : List (List α)} {w : List α}, w ∈ waysL a ↔ w.length = a.length ∧ ∀ (i : Nat) (x : α), w[i]? = some x → ∃ c, a[i]? = some c ∧ x ∈ c
  | [], w => by
    rw [waysL, List.mem_singleton]
    constructor
    · rintro rfl; exact ⟨rfl, fun i x h => by simp at h⟩
    · rintro ⟨h, _⟩; exact List.length_eq_zero_iff.1 h
  | c :: a, w => by
    rw [waysL, List.mem_flatMap]
    constructor
    · rintro ⟨x, hx, h⟩
      obtain ⟨v, hv, rfl⟩ := List.mem_map.1 h
      obtain ⟨h1, h2⟩ := mem_waysL.1 hv
      refine ⟨by simp [h1], fun i y hy => ?_⟩
      cases i with
      | zero => simp only [List.getElem?_cons_zero, Option.some.injEq] at hy; subst hy; exact ⟨c, rfl, hx⟩
      | succ i => exact h2 i y (by simpa using hy)
    · rintro ⟨h1, h2⟩
      cases w with
      | nil => simp at h1
      | cons x v =>
        obtain ⟨c', hc, hx⟩ := h2 0 x rfl
        simp only [List.getElem?_cons_zero, Option.some.injEq] at hc
        subst hc
        exact ⟨x, hx, List.mem_map.2 ⟨v, mem_waysL.2 ⟨by simpa using h1, fun i y hy => h2 (i + 1) y (by simpa using hy)⟩, rfl⟩⟩
/-- The step of a list of ways: each of them, with each choice behind. -/
def stepL {α : Type} (W : List (List α)) (c : List α) : List (List α) := W.flatMap fun q => c.map fun x => q ++ [x]
theorem waysL_snoc {α : Type} : ∀ (a : List (List α)) (c : List α), waysL (a ++ [c]) = stepL (waysL a) c
  | [], c => by
    simp only [List.nil_append, waysL, stepL, List.flatMap_cons, List.flatMap_nil, List.append_nil, List.map_cons, List.map_nil]
    induction c with
    | nil => rfl
    | cons x c ih => rw [List.flatMap_cons, ih]; rfl
  | d :: a, c => by
    rw [List.cons_append, waysL, waysL_snoc a c, waysL]
    unfold stepL
    rw [List.flatMap_assoc]
    congr 1
    funext x
    rw [List.map_flatMap, List.flatMap_map]
    congr 1
    funext q
    rw [List.map_map]
    rfl
theorem waysL_next {α : Type} {a : List (List α)} {k : Nat} {c : List α} (h : a[k]? = some c) : waysL (a.take (k + 1)) = stepL (waysL (a.take k)) c := by
  rw [List.take_add_one, h, Option.toList_some, waysL_snoc]
theorem stepL_next {α : Type} {W : List (List α)} {c : List α} {m : Nat} {q : List α} (h : W[m]? = some q) : stepL (W.take (m + 1)) c = stepL (W.take m) c ++ c.map fun x => q ++ [x] := by
  unfold stepL
  rw [List.take_add_one, h, Option.toList_some, List.flatMap_append, List.flatMap_cons, List.flatMap_nil, List.append_nil]
end Go.Proofs.Ytgffeihfcmbobaa
