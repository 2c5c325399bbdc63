/- Lines, as lists of bytes: plain functions, and that what is written is read back. -/
import Derived.Test.YtjmcplbhjihepaaDoorInsPlain
import Derived.Lib.ItoaLen
import Derived.Lib.ParseIntBTie
import Derived.RowKit
namespace Go.Proofs.YtjmcplbhjihepaaDoor

/-- A text, cut at the first byte c. -/
def cutB (c : UInt8) : List UInt8 → List UInt8 × List UInt8 × Bool
  | [] => ([], [], false)
  | x :: r => if x = c then ([], r, true) else (x :: (cutB c r).1, (cutB c r).2.1, (cutB c r).2.2)

theorem cutB_app {c : UInt8} : ∀ {w : List UInt8} {r : List UInt8}, c ∉ w → cutB c (w ++ c :: r) = (w, r, true)
  | [], r, _ => by simp [cutB]
  | x :: w, r, h => by
    have hx : x ≠ c := fun e => h (by simp [e])
    have ih := cutB_app (c := c) (w := w) (r := r) (fun e => h (by simp [e]))
    simp [cutB, hx, ih]
theorem cutB_none {c : UInt8} : ∀ {w : List UInt8}, c ∉ w → cutB c w = (w, [], false)
  | [], _ => rfl
  | x :: w, h => by
    have hx : x ≠ c := fun e => h (by simp [e])
    have ih := cutB_none (c := c) (w := w) (fun e => h (by simp [e]))
    simp [cutB, hx, ih]
theorem cutB_len (c : UInt8) : ∀ l : List UInt8, (cutB c l).1.length ≤ l.length ∧ (cutB c l).2.1.length ≤ l.length
  | [] => by simp [cutB]
  | x :: r => by
    have ih := cutB_len c r
    by_cases h : x = c
    · simp [cutB, h]
    · simp [cutB, h]; omega

/-- The number of a text, as strconv.ParseInt gives it. -/
def numOf (l : List UInt8) : Int := match Lib.parseIntB 64 l with | .ok v => v | .syntax => 0 | .range => Lib.intSat 64 l
def in64 (n : Int) : Prop := -9223372036854775808 ≤ n ∧ n ≤ 9223372036854775807

theorem numOf_in (l : List UInt8) : in64 (numOf l) := by
  unfold numOf in64
  cases h : Lib.parseIntB 64 l with
  | ok v => have := Lib.parseIntB_bounds h; simp at this; simp; omega
  | «syntax» => simp
  | range => simp only [Lib.intSat_64]; exact Lib.atoiSat_bounds l

theorem digit_byte (k : Nat) (h : k < 10) : (UInt8.ofNat (48 + k)).toNat = 48 + k := by
  rw [UInt8.toNat_ofNat']; omega

theorem decDigits_small {u : Nat} (h : u < 10) : Lib.decDigits u = [UInt8.ofNat (48 + u)] := by rw [Lib.decDigits, dif_pos h]
theorem decDigits_big {u : Nat} (h : ¬ u < 10) : Lib.decDigits u = Lib.decDigits (u / 10) ++ [UInt8.ofNat (48 + u % 10)] := by rw [Lib.decDigits, dif_neg h]

/-- Each byte of a numeral is a figure. -/
theorem decDigits_mem (u : Nat) : ∀ b ∈ Lib.decDigits u, 48 ≤ b.toNat ∧ b.toNat ≤ 57 := by
  induction u using Nat.strongRecOn with
  | _ u ih =>
    intro b hb
    by_cases h : u < 10
    · rw [decDigits_small h] at hb
      have hb : b = UInt8.ofNat (48 + u) := by simpa only [List.mem_singleton] using hb
      subst hb
      have := digit_byte u h
      omega
    · rw [decDigits_big h] at hb
      simp only [List.mem_append, List.mem_singleton] at hb
      rcases hb with hb | hb
      · exact ih (u / 10) (by omega) b hb
      · subst hb
        have := digit_byte (u % 10) (by omega)
        omega
theorem itoa_no (n : Int) : (32 : UInt8) ∉ Lib.itoa n := by
  intro h
  unfold Lib.itoa at h
  split at h
  · simp only [List.mem_cons] at h
    rcases h with h | h
    · exact absurd h (by decide)
    · have := decDigits_mem _ _ h; exact absurd this.1 (by decide)
  · have := decDigits_mem _ _ h; exact absurd this.1 (by decide)
theorem decDigits_ne (u : Nat) : Lib.decDigits u ≠ [] := by
  by_cases h : u < 10
  · rw [decDigits_small h]; simp
  · rw [decDigits_big h]; simp
theorem itoa_ne (n : Int) : Lib.itoa n ≠ [] := by
  unfold Lib.itoa
  split
  · simp
  · exact decDigits_ne _

theorem parse_dec (u : Nat) : ∀ r, u ≤ 18446744073709551615 → Lib.parseUintM 18446744073709551615 0 (Lib.decDigits u ++ r) = Lib.parseUintM 18446744073709551615 u r := by
  induction u using Nat.strongRecOn with
  | _ u ih =>
    intro r hu
    by_cases h : u < 10
    · rw [decDigits_small h]
      simp only [List.cons_append, List.nil_append, Lib.parseUintM, digit_byte u h]
      rw [if_pos (by omega), if_neg (by omega), if_neg (by omega)]
      congr 1; omega
    · rw [decDigits_big h, List.append_assoc, ih (u / 10) (by omega) _ (by omega)]
      simp only [List.cons_append, List.nil_append, Lib.parseUintM, digit_byte (u % 10) (by omega)]
      rw [if_pos (by omega), if_neg (by omega), if_neg (by omega)]
      congr 1; omega
theorem parse_decB (u : Nat) (hu : u ≤ 18446744073709551615) : Lib.parseUintB 64 (Lib.decDigits u) = .ok u := by
  unfold Lib.parseUintB
  rw [if_neg (decDigits_ne u)]
  have := parse_dec u [] hu
  simp only [List.append_nil] at this
  rw [show 2 ^ 64 - 1 = 18446744073709551615 by decide, this]
  rfl
theorem numOf_itoa {n : Int} (h : in64 n) : numOf (Lib.itoa n) = n := by
  unfold in64 at h
  unfold numOf Lib.itoa
  by_cases hn : n < 0
  · rw [if_pos hn]
    have e : Lib.parseIntB 64 (45 :: Lib.decDigits n.natAbs) = .ok n := by
      unfold Lib.parseIntB
      simp only [show (45 : UInt8).toNat = 45 by decide, or_true, if_true, parse_decB n.natAbs (by omega)]
      rw [if_neg (by simp), if_neg (by intro h; have := h.2; omega)]
      congr 1; omega
    rw [e]
  · rw [if_neg hn]
    have e : Lib.parseIntB 64 (Lib.decDigits n.toNat) = .ok n := by
      cases hd : Lib.decDigits n.toNat with
      | nil => exact absurd hd (decDigits_ne _)
      | cons c r =>
        have hc := decDigits_mem n.toNat c (by rw [hd]; simp)
        unfold Lib.parseIntB
        have h1 : ¬ (c.toNat = 43 ∨ c.toNat = 45) := by omega
        have h2 : ¬ c.toNat = 45 := by omega
        simp only [if_neg h1]
        rw [← hd, parse_decB n.toNat (by omega)]
        simp only
        rw [if_neg (by intro h; have := h.2; omega), if_neg (by intro h; exact h2 h.1), if_neg h2]
        congr 1; omega
    rw [e]
theorem itoa_len {n : Int} (h : in64 n) : (Lib.itoa n).length ≤ 21 := Lib.itoa_length_le n h.1 h.2

/-- The number of a text, as the document's answer reckons it. -/
def digF (n : Int) (c : UInt8) : Int := if 48 ≤ c.toNat ∧ c.toNat ≤ 57 then IntKind.i64.wrap (IntKind.i64.wrap (10 * n) - (c.toNat - 48 : Nat)) else n
def numF : List UInt8 → Int → Int
  | [], n => n
  | c :: r, n => numF r (digF n c)
def negL : List UInt8 → Bool
  | [] => false
  | c :: _ => c.toNat == 45
def numR (l : List UInt8) : Int := bif negL l then numF l 0 else IntKind.i64.wrap (- numF l 0)

theorem numF_app : ∀ (a b : List UInt8) (n : Int), numF (a ++ b) n = numF b (numF a n)
  | [], _, _ => rfl
  | c :: a, b, n => numF_app a b (digF n c)
theorem numF_dec (u : Nat) : u ≤ 9223372036854775808 → numF (Lib.decDigits u) 0 = -(u : Int) := by
  induction u using Nat.strongRecOn with
  | _ u ih =>
    intro hu
    by_cases h : u < 10
    · rw [decDigits_small h]
      simp only [numF, digF, digit_byte u h]
      rw [if_pos (by omega)]
      simp only [IntKind.wrap_i64]
      omega
    · rw [decDigits_big h, numF_app, ih (u / 10) (by omega) (by omega)]
      simp only [numF, digF, digit_byte (u % 10) (by omega)]
      rw [if_pos (by omega)]
      simp only [IntKind.wrap_i64]
      omega
theorem numR_itoa {n : Int} (h : in64 n) : numR (Lib.itoa n) = n := by
  unfold in64 at h
  unfold numR Lib.itoa
  by_cases hn : n < 0
  · rw [if_pos hn]
    show numF (Lib.decDigits n.natAbs) (digF 0 45) = n
    rw [show digF 0 45 = 0 by decide, numF_dec _ (by omega)]
    omega
  · rw [if_neg hn]
    cases hd : Lib.decDigits n.toNat with
    | nil => exact absurd hd (decDigits_ne _)
    | cons c r =>
      have hc := decDigits_mem n.toNat c (by rw [hd]; simp)
      have hc45 : negL (c :: r) = false := by show (c.toNat == 45) = false; rw [beq_eq_false_iff_ne]; omega
      rw [hc45, cond_false, ← hd, numF_dec _ (by omega)]
      simp only [IntKind.wrap_i64]
      omega

/-- A line: the name, and those numbers that there are. -/
def nameL (op : Int) : List UInt8 := (nameS op).data.toList
def figs (n : Int) : List UInt8 := 32 :: Lib.itoa n
def hasF (op : Int) : Nat → Bool
  | 0 => hasDB op
  | 1 => hasAB op
  | 2 => hasBB op
  | 3 => hasLB op
  | _ => hasIB op
def pick5 (d a b l i : Int) : Nat → Int
  | 0 => d
  | 1 => a
  | 2 => b
  | 3 => l
  | _ => i
/-- Those of the first k. -/
def pres (op : Int) (v : Nat → Int) : Nat → List Int
  | 0 => []
  | k + 1 => pres op v k ++ (bif hasF op k then [v k] else [])
def body (ns : List Int) : List UInt8 := (ns.map figs).flatten
def lineL (op d a b l i : Int) : List UInt8 := if 1 ≤ op ∧ op ≤ 14 then nameL op ++ body (pres op (pick5 d a b l i) 5) else [63]

theorem body_app (a b : List Int) : body (a ++ b) = body a ++ body b := by simp [body]
theorem pres_len (op : Int) (v : Nat → Int) : ∀ k, (pres op v k).length ≤ k
  | 0 => by simp [pres]
  | k + 1 => by have := pres_len op v k; simp only [pres, List.length_append]; cases hasF op k <;> simp <;> omega
theorem pres_mem {op : Int} {v : Nat → Int} : ∀ {k n}, n ∈ pres op v k → ∃ j, j < k ∧ n = v j
  | 0, n, h => by simp [pres] at h
  | k + 1, n, h => by
    simp only [pres, List.mem_append] at h
    rcases h with h | h
    · obtain ⟨j, hj, e⟩ := pres_mem h; exact ⟨j, by omega, e⟩
    · cases hk : hasF op k <;> rw [hk] at h <;> simp at h
      exact ⟨k, by omega, h⟩
theorem body_len : ∀ (ns : List Int), (∀ n ∈ ns, in64 n) → (body ns).length ≤ 22 * ns.length
  | [], _ => by simp [body]
  | n :: ns, h => by
    have h1 := body_len ns (fun m hm => h m (by simp [hm]))
    have h2 := itoa_len (h n (by simp))
    simp only [body, List.map_cons, List.flatten_cons, List.length_append, List.length_cons, figs] at h1 ⊢
    omega
theorem name_in {op : Int} (h : 1 ≤ op ∧ op ≤ 14) : (32 : UInt8) ∉ nameL op ∧ nameL op ≠ [] ∧ (nameL op).length ≤ 4 := by
  rcases op_cases op with h' | h' | h' | h' | h' | h' | h' | h' | h' | h' | h' | h' | h' | h' | h'
  · omega
  all_goals subst h'; decide
theorem name_inj {p q : Int} (hp : 1 ≤ p ∧ p ≤ 14) (hq : 1 ≤ q ∧ q ≤ 14) (h : nameS p = nameS q) : p = q := by
  have h : nameL p = nameL q := by unfold nameL; rw [h]
  rcases op_cases p with h' | h' | h' | h' | h' | h' | h' | h' | h' | h' | h' | h' | h' | h' | h'
  · omega
  all_goals
    subst h'
    rcases op_cases q with h' | h' | h' | h' | h' | h' | h' | h' | h' | h' | h' | h' | h' | h' | h'
    · omega
    all_goals subst h'; first | rfl | exact absurd h (by decide)

/-- What is left of a line behind its name, or a number. -/
def restOf : List Int → List UInt8
  | [] => []
  | n :: ns => Lib.itoa n ++ body ns
theorem cut_line {w : List UInt8} (hw : (32 : UInt8) ∉ w) (ns : List Int) : (cutB 32 (w ++ body ns)).1 = w ∧ (cutB 32 (w ++ body ns)).2.1 = restOf ns := by
  cases ns with
  | nil => simp only [body, List.map_nil, List.flatten_nil, List.append_nil]; rw [cutB_none hw]; exact ⟨rfl, rfl⟩
  | cons n ns =>
    have : w ++ body (n :: ns) = w ++ 32 :: (Lib.itoa n ++ body ns) := by simp [body, figs]
    rw [this, cutB_app hw]
    exact ⟨rfl, rfl⟩
theorem cut_rest (n : Int) (ns : List Int) : (cutB 32 (restOf (n :: ns))).1 = Lib.itoa n ∧ (cutB 32 (restOf (n :: ns))).2.1 = restOf ns := cut_line (itoa_no n) ns

/-- What the program reads: what is left ahead of field k, and the field. -/
def restAt (op : Int) (r : List UInt8) : Nat → List UInt8
  | 0 => r
  | k + 1 => bif hasF op k then (cutB 32 (restAt op r k)).2.1 else restAt op r k
def valAt (op : Int) (r : List UInt8) (k : Nat) : Int := bif hasF op k then numOf (cutB 32 (restAt op r k)).1 else 0
theorem restAt_len (op : Int) (r : List UInt8) : ∀ k, (restAt op r k).length ≤ r.length
  | 0 => Nat.le_refl _
  | k + 1 => by
    have := restAt_len op r k
    have := (cutB_len 32 (restAt op r k)).2
    simp only [restAt]
    cases hasF op k <;> simp <;> omega
theorem valAt_in (op : Int) (r : List UInt8) (k : Nat) : in64 (valAt op r k) := by
  unfold valAt
  cases hasF op k
  · simp only [cond_false]; exact ⟨by decide, by decide⟩
  · exact numOf_in _
/-- Those behind k, of five. -/
def later (op : Int) (v : Nat → Int) (k : Nat) : Nat → List Int
  | 0 => []
  | m + 1 => (bif hasF op k then [v k] else []) ++ later op v (k + 1) m
theorem later_all (op : Int) (v : Nat → Int) : later op v 0 5 = pres op v 5 := by
  simp only [later, pres, List.nil_append, List.append_nil, List.append_assoc]
theorem read_back {op : Int} {v : Nat → Int} (hv : ∀ k, in64 (v k)) (h0 : ∀ k, hasF op k = false → v k = 0) {r : List UInt8} :
    ∀ (m k : Nat), restAt op r k = restOf (later op v k m) → ∀ j, k ≤ j → j < k + m → valAt op r j = v j
  | 0, k, _, j, h1, h2 => by omega
  | m + 1, k, h, j, h1, h2 => by
    have step : valAt op r k = v k ∧ restAt op r (k + 1) = restOf (later op v (k + 1) m) := by
      unfold valAt
      simp only [restAt]
      cases hh : hasF op k
      · rw [show later op v k (m + 1) = later op v (k + 1) m by simp [later, hh]] at h
        exact ⟨(h0 k hh).symm, h⟩
      · rw [show later op v k (m + 1) = v k :: later op v (k + 1) m by simp [later, hh]] at h
        rw [h]
        obtain ⟨c1, c2⟩ := cut_rest (v k) (later op v (k + 1) m)
        exact ⟨by simp only [cond_true]; rw [c1, numOf_itoa (hv k)], by simp only [cond_true]; exact c2⟩
    by_cases hj : j = k
    · subst hj; exact step.1
    · exact read_back hv h0 m (k + 1) step.2 j (by omega) (by omega)

/-- A text in parts, at each byte c. -/
def split (c : UInt8) : List UInt8 → List UInt8 → List (List UInt8)
  | cur, [] => [cur]
  | cur, x :: r => if x = c then cur :: split c [] r else split c (cur ++ [x]) r
theorem split_app {c : UInt8} : ∀ (w cur r : List UInt8), c ∉ w → split c cur (w ++ c :: r) = (cur ++ w) :: split c [] r
  | [], cur, r, _ => by simp [split]
  | x :: w, cur, r, h => by
    have hx : x ≠ c := fun e => h (by simp [e])
    simp only [List.cons_append, split, hx, if_false]
    rw [split_app w _ r (fun e => h (by simp [e]))]
    simp
theorem split_end {c : UInt8} : ∀ (w cur : List UInt8), c ∉ w → split c cur w = [cur ++ w]
  | [], cur, _ => by simp [split]
  | x :: w, cur, h => by
    have hx : x ≠ c := fun e => h (by simp [e])
    simp only [split, hx, if_false]
    rw [split_end w _ (fun e => h (by simp [e]))]
    simp
theorem split_line : ∀ (ns : List Int) (w : List UInt8), (32 : UInt8) ∉ w → split 32 [] (w ++ body ns) = w :: ns.map Lib.itoa
  | [], w, hw => by simp only [body, List.map_nil, List.flatten_nil, List.append_nil]; rw [split_end w [] hw]; rfl
  | n :: ns, w, hw => by
    have : w ++ body (n :: ns) = w ++ 32 :: (Lib.itoa n ++ body ns) := by simp [body, figs]
    rw [this, split_app w [] _ hw, split_line ns (Lib.itoa n) (itoa_no n)]
    rfl
theorem split_ne (c : UInt8) : ∀ (l cur : List UInt8), split c cur l ≠ []
  | [], cur => by simp [split]
  | x :: r, cur => by
    simp only [split]
    by_cases h : x = c
    · simp [h]
    · simp only [h, if_false]; exact split_ne c r _
theorem split_count (c : UInt8) : ∀ (l cur : List UInt8), (split c cur l).length ≤ l.length + 1
  | [], cur => by simp [split]
  | x :: r, cur => by
    simp only [split]
    by_cases h : x = c
    · have := split_count c r []; simp [h]; omega
    · have := split_count c r (cur ++ [x]); simp only [h, if_false, List.length_cons]; omega

/-- What the document's answer reads: the numbers out of a list of words, at place 'at'. -/
def atAt (op : Int) : Nat → Nat
  | 0 => 0
  | k + 1 => atAt op k + (bif hasF op k then 1 else 0)
def refVal (op : Int) (ws : List (List UInt8)) (k : Nat) : Int := bif hasF op k then numR (ws.getD (atAt op k) []) else 0
theorem pres_at (op : Int) (v : Nat → Int) : ∀ k, (pres op v k).length = atAt op k
  | 0 => rfl
  | k + 1 => by simp only [pres, atAt, List.length_append, pres_at op v k]; cases hasF op k <;> simp
theorem pres_more (op : Int) (v : Nat → Int) (k : Nat) : ∀ m, ∃ t, pres op v (k + m) = pres op v k ++ t
  | 0 => ⟨[], by simp⟩
  | m + 1 => by
    obtain ⟨t, ht⟩ := pres_more op v k m
    exact ⟨t ++ (bif hasF op (k + m) then [v (k + m)] else []), by rw [← Nat.add_assoc, pres, ht, List.append_assoc]⟩
theorem ref_back {op : Int} {v : Nat → Int} (hv : ∀ k, in64 (v k)) (h0 : ∀ k, hasF op k = false → v k = 0) (t : List (List UInt8)) (k : Nat) (hk : k < 5) :
    refVal op ((pres op v 5).map Lib.itoa ++ t) k = v k := by
  unfold refVal
  cases hh : hasF op k
  · exact (h0 k hh).symm
  · obtain ⟨u, hu⟩ := pres_more op v (k + 1) (4 - k)
    rw [show k + 1 + (4 - k) = 5 by omega] at hu
    have e : pres op v 5 = pres op v k ++ (v k :: u) := by
      rw [hu, pres, hh]; simp
    have : ((pres op v 5).map Lib.itoa ++ t).getD (atAt op k) [] = Lib.itoa (v k) := by
      rw [e, ← pres_at op v k]
      simp [List.getD]
    rw [this]
    exact numR_itoa (hv k)
end Go.Proofs.YtjmcplbhjihepaaDoor
