/- ExecM: ExecMath, ExecTurn, ExecWays, ExecLaws, ExecLaws2, ExecAllM, in one text. -/
import Derived.Test.YtcalinfdckklfaaGreatDoorPk6
import Derived.Test.YtcalinfdckklfaaGreatDoorPk7
import Derived.Test.YtcalinfdckklfaaGreatDoorPk9
import Derived.Test.YtcalinfdckklfaaGreatDoorPk10
namespace Go.Proofs.YtcalinfdckklfaaGreatDoor
open Go.RowKit

/-- A trace, any. -/
structure Tr where
  evs : List Ev
  ad : List Int
  da : List Int
  ct : List Int
  pa : List Int
  v : Nat → Int
  d : Nat → Int
  vs : Int
  ls : Int
  mo : Int
def St.tr (s : St) : Tr := ⟨s.evs, s.ad, s.da, s.ct, s.pa, s.v, s.d, (s.vals : Nat), (s.lucks : Nat), s.more⟩

def totN : List Tr → Nat
  | [] => 0
  | t :: l => t.evs.length + totN l
/-- Has a set of places none at or behind i? -/
def lowB (m : Int) (i : Nat) : Bool := decide (m.toNat < 2 ^ i)
theorem low_bits {x i : Nat} (hx : x < 4294967296) : x < 2 ^ i ↔ ∀ k, i ≤ k → k < 32 → x.testBit k = false := by
  refine ⟨fun h k hk _ => Nat.testBit_lt_two_pow (Nat.lt_of_lt_of_le h (Nat.pow_le_pow_right (by decide) hk)), fun h => ?_⟩
  refine Nat.lt_pow_two_of_testBit _ fun k hk => ?_
  by_cases h32 : k < 32
  · exact h k hk h32
  · exact Nat.testBit_lt_two_pow (Nat.lt_of_lt_of_le hx (by have := Nat.pow_le_pow_right (n := 2) (by decide) (show 32 ≤ k by omega); simpa using this))
/-- May an event's sets and pair be? -/
def okAt (t : Tr) (i : Nat) : Bool := lowB (t.ad.getD i 0) i && (lowB (t.da.getD i 0) i && (lowB (t.ct.getD i 0) i && decide (t.pa.getD i 0 < (i : Int))))
def lensB (t : Tr) : Bool := decide (t.ad.length = t.evs.length) && (decide (t.da.length = t.evs.length) && (decide (t.ct.length = t.evs.length) && decide (t.pa.length = t.evs.length)))
def fineT (t : Tr) : Bool := lensB t && (List.range t.evs.length).all (okAt t)

def thrEv (i : Nat) (e : Ev) : Ev := { e with th := (i : Int) }
def evsJ : List Tr → Nat → List Ev
  | [], _ => []
  | t :: l, i => t.evs.map (thrEv i) ++ evsJ l (i + 1)
theorem evsJ_len : ∀ (l : List Tr) (i : Nat), (evsJ l i).length = totN l
  | [], _ => rfl
  | t :: l, i => by rw [evsJ, List.length_append, List.length_map, evsJ_len l]; rfl
theorem evsJ_snoc : ∀ (l : List Tr) (i : Nat) (t : Tr), evsJ (l ++ [t]) i = evsJ l i ++ t.evs.map (thrEv (i + l.length))
  | [], i, t => by simp [evsJ]
  | x :: l, i, t => by
    rw [List.cons_append, evsJ, evsJ_snoc l, evsJ, List.append_assoc, List.length_cons, Nat.add_right_comm, Nat.add_assoc i]
theorem totN_snoc (l : List Tr) (t : Tr) : totN (l ++ [t]) = totN l + t.evs.length := by
  induction l with
  | nil => simp [totN]
  | cons x l ih => rw [List.cons_append, totN, totN, ih]; omega
theorem totN_take : ∀ (l : List Tr) (k : Nat), totN (l.take k) ≤ totN l
  | [], k => by simp
  | t :: l, 0 => by simp [totN]
  | t :: l, k + 1 => by rw [List.take_succ_cons, totN, totN]; have := totN_take l k; omega
/-- Which place of a trace is in relation with which later one. -/
def Sel := Tr → Nat → Nat → Bool
def poS : Sel := fun _ _ _ => true
def adS : Sel := fun t j k => (t.ad.getD k 0).toNat.testBit j
def daS : Sel := fun t j k => (t.da.getD k 0).toNat.testBit j
def ctS : Sel := fun t j k => (t.ct.getD k 0).toNat.testBit j
def rmS : Sel := fun t j k => t.pa.getD k (-1) == (j : Int)
/-- A relation of joined traces. -/
def relJ (S : Sel) : List Tr → Nat → Nat → Nat → Bool
  | [], _, _, _ => false
  | t :: l, from', a, b => (decide (from' ≤ a) && (decide (a < b) && (decide (b < from' + t.evs.length) && S t (a - from') (b - from')))) || relJ S l (from' + t.evs.length) a b
/-- Its pairs, in turn. -/
def prK (S : Sel) (t : Tr) (from' k m : Nat) : List (Nat × Nat) := ((List.range m).filter fun j => S t j k).map fun j => (from' + j, from' + k)
def prT (S : Sel) (t : Tr) (from' n : Nat) : List (Nat × Nat) := (List.range n).flatMap fun k => prK S t from' k k
def prJ (S : Sel) : List Tr → Nat → List (Nat × Nat)
  | [], _ => []
  | t :: l, from' => prT S t from' t.evs.length ++ prJ S l (from' + t.evs.length)
theorem prK_next {S : Sel} {t : Tr} {f k m : Nat} : prK S t f k (m + 1) = prK S t f k m ++ (if S t m k = true then [(f + m, f + k)] else []) := by
  unfold prK
  rw [List.range_succ, List.filter_append, List.map_append]
  congr 1
  by_cases h : S t m k = true
  · rw [if_pos h]; simp [h]
  · rw [if_neg h]; simp [h]
theorem prT_next {S : Sel} {t : Tr} {f n : Nat} : prT S t f (n + 1) = prT S t f n ++ prK S t f n n := by
  unfold prT
  rw [List.range_succ, List.flatMap_append, List.flatMap_singleton]
theorem prJ_snoc {S : Sel} : ∀ {l : List Tr} {f : Nat} {t : Tr}, prJ S (l ++ [t]) f = prJ S l f ++ prT S t (f + totN l) t.evs.length
  | [], f, t => by simp [prJ, totN]
  | x :: l, f, t => by
    rw [List.cons_append, prJ, prJ_snoc, prJ, List.append_assoc, totN, Nat.add_assoc]
theorem mem_prK {S : Sel} {t : Tr} {f k m a b : Nat} : (a, b) ∈ prK S t f k m ↔ f ≤ a ∧ a - f < m ∧ b = f + k ∧ S t (a - f) k = true := by
  unfold prK
  rw [List.mem_map]
  constructor
  · rintro ⟨j, h, e⟩
    rw [List.mem_filter, List.mem_range] at h
    simp only [Prod.mk.injEq] at e
    obtain ⟨rfl, rfl⟩ := e
    exact ⟨Nat.le_add_right _ _, by omega, rfl, by rw [Nat.add_sub_cancel_left]; exact h.2⟩
  · rintro ⟨h1, h2, rfl, h3⟩
    exact ⟨a - f, List.mem_filter.2 ⟨List.mem_range.2 h2, h3⟩, by rw [show f + (a - f) = a by omega]⟩
theorem mem_prT {S : Sel} {t : Tr} {f n a b : Nat} : (a, b) ∈ prT S t f n ↔ f ≤ a ∧ a < b ∧ b < f + n ∧ S t (a - f) (b - f) = true := by
  unfold prT
  rw [List.mem_flatMap]
  constructor
  · rintro ⟨k, hk, h⟩
    rw [mem_prK] at h
    rw [List.mem_range] at hk
    obtain ⟨h1, h2, rfl, h3⟩ := h
    exact ⟨h1, by omega, by omega, by rw [Nat.add_sub_cancel_left]; exact h3⟩
  · rintro ⟨h1, h2, h3, h4⟩
    refine ⟨b - f, List.mem_range.2 (by omega), mem_prK.2 ⟨h1, by omega, by omega, h4⟩⟩
theorem mem_prJ {S : Sel} {a b : Nat} : ∀ {l : List Tr} {f : Nat}, (a, b) ∈ prJ S l f ↔ relJ S l f a b = true
  | [], f => by simp [prJ, relJ]
  | t :: l, f => by
    rw [prJ, List.mem_append, mem_prT, mem_prJ, relJ]
    simp only [Bool.or_eq_true, Bool.and_eq_true, decide_eq_true_eq]
theorem relJ_in {S : Sel} {a b : Nat} : ∀ {l : List Tr} {f : Nat}, relJ S l f a b = true → f ≤ a ∧ a < b ∧ b < f + totN l
  | [], f, h => by simp [relJ] at h
  | t :: l, f, h => by
    rw [relJ] at h
    simp only [Bool.or_eq_true, Bool.and_eq_true, decide_eq_true_eq] at h
    rw [totN]
    rcases h with ⟨h1, h2, h3, _⟩ | h
    · exact ⟨h1, h2, by omega⟩
    · have := relJ_in h
      omega
theorem prK_len {S : Sel} {t : Tr} {f k m : Nat} : (prK S t f k m).length ≤ m := by
  unfold prK
  rw [List.length_map]
  exact Nat.le_trans (List.length_filter_le _ _) (by simp)
theorem prT_len {S : Sel} {t : Tr} {f : Nat} : ∀ n, (prT S t f n).length ≤ n * n
  | 0 => by simp [prT]
  | n + 1 => by
    rw [prT_next, List.length_append]
    have h1 := prT_len (S := S) (t := t) (f := f) n
    have h2 := prK_len (S := S) (t := t) (f := f) (k := n) (m := n)
    rw [Nat.succ_mul, Nat.mul_succ]
    omega
theorem prJ_len {S : Sel} : ∀ {l : List Tr} {f : Nat}, (prJ S l f).length ≤ totN l * totN l
  | [], f => by simp [prJ]
  | t :: l, f => by
    rw [prJ, List.length_append, totN, Nat.add_mul, Nat.mul_add, Nat.mul_add]
    have h1 := prT_len (S := S) (t := t) (f := f) t.evs.length
    have h2 := prJ_len (S := S) (l := l) (f := f + t.evs.length)
    have h3 : 0 ≤ t.evs.length * totN l := Nat.zero_le _
    have h4 : 0 ≤ totN l * t.evs.length := Nat.zero_le _
    omega
def regsJ (l : List Tr) : List (List Int) := l.map fun t => [t.v 0, t.v 1, t.v 2, t.v 3]
/-- What threads do, how that hangs together, and registers at the end. -/
structure Ex where
  evs : List Ev
  po : List Nat
  ad : List Nat
  da : List Nat
  ct : List Nat
  rm : List Nat
  regs : List (List Int)
def Ex.zero : Ex := ⟨[], [], [], [], [], [], []⟩
def joinE (l : List Tr) : Ex := ⟨evsJ l 0, mkR (totN l) (relJ poS l 0), mkR (totN l) (relJ adS l 0), mkR (totN l) (relJ daS l 0), mkR (totN l) (relJ ctS l 0), mkR (totN l) (relJ rmS l 0), regsJ l⟩
def joinZ (l : List Tr) : Ex × Int := if 24 < totN l then (.zero, 3) else if l.all fineT = true then (joinE l, 0) else (.zero, 2)
/-- Of the same place. -/
def memB (e : Ev) : Bool := (e.kd == 1) || (e.kd == 2)
def alikeF (l : List Ev) (i k : Nat) : Bool :=
  match l[i]?, l[k]? with
  | some x, some y => !(i == k) && (memB x && (memB y && (x.lc == y.lc)))
  | _, _ => false
def innerF (l : List Ev) (i k : Nat) : Bool :=
  match l[i]?, l[k]? with
  | some x, some y => !(i == k) && (x.th == y.th)
  | _, _ => false
end Go.Proofs.YtcalinfdckklfaaGreatDoor

namespace Go.Proofs.YtcalinfdckklfaaGreatDoor
open Go.RowKit

/-- The rows: of each event those places of its trace that are ahead, as bits. -/
def tuJ (ah : Tr → Nat → Nat) : List Tr → Nat → List Nat
  | [], _ => []
  | t :: l, f => (List.range t.evs.length).map (fun k => ah t k * 2 ^ f) ++ tuJ ah l (f + t.evs.length)
theorem tuJ_len {ah : Tr → Nat → Nat} : ∀ {l : List Tr} {f : Nat}, (tuJ ah l f).length = totN l
  | [], _ => rfl
  | t :: l, f => by rw [tuJ, List.length_append, List.length_map, List.length_range, tuJ_len]; rfl
theorem tuJ_snoc {ah : Tr → Nat → Nat} : ∀ {l : List Tr} {f : Nat} {t : Tr}, tuJ ah (l ++ [t]) f = tuJ ah l f ++ (List.range t.evs.length).map fun k => ah t k * 2 ^ (f + totN l)
  | [], f, t => by simp [tuJ, totN]
  | x :: l, f, t => by
    rw [List.cons_append, tuJ, tuJ_snoc, tuJ, List.append_assoc, totN]
    simp only [Nat.add_assoc]
/-- What 'ahead' tells of a trace's event: bits below its own place, as the relation has it. -/
def AhOk (S : Sel) (ah : Tr → Nat → Nat) (t : Tr) : Prop := ∀ k, k < t.evs.length → ∀ j, (ah t k).testBit j = (decide (j < k) && S t j k)
theorem ah_lt {S : Sel} {ah : Tr → Nat → Nat} {t : Tr} (h : AhOk S ah t) {k : Nat} (hk : k < t.evs.length) : ah t k < 2 ^ k := by
  refine Nat.lt_pow_two_of_testBit _ fun j hj => ?_
  rw [h k hk j, decide_eq_false (by omega), Bool.false_and]
theorem ah_shift {S : Sel} {ah : Tr → Nat → Nat} {t : Tr} (h : AhOk S ah t) {k f : Nat} (hk : k < t.evs.length) (hf : f + t.evs.length ≤ 32) : ah t k * 2 ^ f < 4294967296 := by
  have h1 := ah_lt h hk
  have h2 : ah t k * 2 ^ f < 2 ^ k * 2 ^ f := Nat.mul_lt_mul_of_pos_right h1 (Nat.two_pow_pos f)
  rw [← Nat.pow_add] at h2
  have h3 : (2 : Nat) ^ (k + f) ≤ 2 ^ 32 := Nat.pow_le_pow_right (by decide) (by omega)
  exact Nat.lt_of_lt_of_le h2 (by simpa using h3)
theorem tuJ_bit {S : Sel} {ah : Tr → Nat → Nat} {a b : Nat} : ∀ {l : List Tr} {f : Nat}, (∀ t ∈ l, AhOk S ah t) → f ≤ b → ((tuJ ah l f).getD (b - f) 0).testBit a = relJ S l f a b
  | [], f, _, _ => by simp [tuJ, relJ]
  | t :: l, f, h, hb => by
    rw [tuJ, relJ]
    by_cases hk : b - f < t.evs.length
    · have e : ((List.range t.evs.length).map (fun k => ah t k * 2 ^ f) ++ tuJ ah l (f + t.evs.length)).getD (b - f) 0 = ah t (b - f) * 2 ^ f := by
        rw [List.getD_eq_getElem?_getD, List.getElem?_append_left (by simpa using hk)]
        simp [hk]
      rw [e, Nat.mul_comm, Nat.testBit_two_pow_mul, h t List.mem_cons_self _ hk]
      have e2 : relJ S l (f + t.evs.length) a b = false := by
        cases hr : relJ S l (f + t.evs.length) a b with
        | false => rfl
        | true => have := relJ_in hr; omega
      rw [e2, Bool.or_false]
      by_cases ha : f ≤ a
      · have e3 : decide (a - f < b - f) = decide (a < b) := by rw [decide_eq_decide]; omega
        have e4 : decide (b < f + t.evs.length) = true := by rw [decide_eq_true_eq]; omega
        rw [e3, e4, Bool.true_and]
      · have e3 : decide (f ≤ a) = false := decide_eq_false ha
        rw [e3, Bool.false_and, Bool.false_and]
    · have e : ((List.range t.evs.length).map (fun k => ah t k * 2 ^ f) ++ tuJ ah l (f + t.evs.length)).getD (b - f) 0 = (tuJ ah l (f + t.evs.length)).getD (b - (f + t.evs.length)) 0 := by
        rw [List.getD_eq_getElem?_getD, List.getD_eq_getElem?_getD, List.getElem?_append_right (by simpa using hk)]
        simp only [List.length_map, List.length_range]
        rw [show b - f - t.evs.length = b - (f + t.evs.length) by omega]
      rw [e, tuJ_bit (fun t ht => h t (List.mem_cons_of_mem _ ht)) (by omega)]
      have e2 : decide (b < f + t.evs.length) = false := decide_eq_false (by omega)
      rw [e2, Bool.false_and, Bool.and_false, Bool.and_false, Bool.false_or]
theorem tuJ_lt {S : Sel} {ah : Tr → Nat → Nat} : ∀ {l : List Tr} {f : Nat}, (∀ t ∈ l, AhOk S ah t) → f + totN l ≤ 32 → ∀ x ∈ tuJ ah l f, x < 4294967296
  | [], f, _, _, x, hx => by simp [tuJ] at hx
  | t :: l, f, h, hf, x, hx => by
    rw [totN] at hf
    rw [tuJ, List.mem_append, List.mem_map] at hx
    rcases hx with ⟨k, hk, rfl⟩ | hx
    · exact ah_shift (h t List.mem_cons_self) (List.mem_range.1 hk) (by omega)
    · exact tuJ_lt (fun t ht => h t (List.mem_cons_of_mem _ ht)) (by omega) x hx
/-- Turned, it is the relation. -/
theorem tuJ_inv {S : Sel} {ah : Tr → Nat → Nat} {l : List Tr} (h : ∀ t ∈ l, AhOk S ah t) (h32 : totN l ≤ 32) : mkR (szR (tuJ ah l 0)) (invF (hasR (tuJ ah l 0))) = mkR (totN l) (relJ S l 0) := by
  have hs : szR (tuJ ah l 0) = totN l := by unfold szR; rw [tuJ_len, if_neg (by omega)]
  rw [hs]
  refine mkR_congr fun i k hi hk => ?_
  unfold invF hasR
  rw [hs, decide_eq_true hi, decide_eq_true hk, Bool.true_and, Bool.true_and]
  have := tuJ_bit (a := i) (b := k) (l := l) (f := 0) h (Nat.zero_le _)
  rw [Nat.sub_zero] at this
  exact this
end Go.Proofs.YtcalinfdckklfaaGreatDoor

namespace Go.Proofs.YtcalinfdckklfaaGreatDoor
open Go.RowKit

/-- A run's trace may be joined. -/
theorem msk_low {l : List Ev} {m : Int} {i : Nat} (h : Msk (l.take i) m) : lowB m i = true := by
  obtain ⟨n, rfl, hn, hb⟩ := h
  unfold lowB
  rw [decide_eq_true_eq, Int.toNat_natCast, low_bits hn]
  intro k hk _
  cases ht : n.testBit k
  · rfl
  · obtain ⟨e, he, _⟩ := hb k ht
    have := (List.getElem?_eq_some_iff.1 he).1
    rw [List.length_take] at this
    omega
theorem getD_of {α : Type} {l : List α} {i : Nat} (h : i < l.length) (d : α) : l[i]? = some (l.getD i d) := by
  rw [List.getD_eq_getElem?_getD, List.getElem?_eq_getElem h]
  rfl
theorem run_lens (th : List Ins) (locs : Int) (v : List Int) (b : List Bool) : (runT th locs v b).ad.length = (runT th locs v b).evs.length ∧ (runT th locs v b).da.length = (runT th locs v b).evs.length ∧ (runT th locs v b).ct.length = (runT th locs v b).evs.length ∧ (runT th locs v b).pa.length = (runT th locs v b).evs.length := by
  have h := (runT_ok th locs v b).1
  exact ⟨h.ad, h.da, h.ct, h.pa⟩
/-- What is known of the k-th event of a run. -/
theorem run_good (th : List Ins) (locs : Int) (v : List Int) (b : List Bool) {i : Nat} {e : Ev} (he : (runT th locs v b).evs[i]? = some e) :
    GoodE ((runT th locs v b).evs.take i) e ((runT th locs v b).ad.getD i 0) ((runT th locs v b).da.getD i 0) ((runT th locs v b).ct.getD i 0) ((runT th locs v b).pa.getD i (-1)) := by
  obtain ⟨h1, h2, h3, h4⟩ := run_lens th locs v b
  have hi := (List.getElem?_eq_some_iff.1 he).1
  exact (runT_hang th locs v b).ev i e _ _ _ _ he (getD_of (by omega) 0) (getD_of (by omega) 0) (getD_of (by omega) 0) (getD_of (by omega) (-1))
theorem fine_run (th : List Ins) (locs : Int) (v : List Int) (b : List Bool) : fineT (runT th locs v b).tr = true := by
  obtain ⟨h1, h2, h3, h4⟩ := run_lens th locs v b
  have hl : lensB (runT th locs v b).tr = true := by
    unfold lensB
    rw [Bool.and_eq_true, Bool.and_eq_true, Bool.and_eq_true, decide_eq_true_eq, decide_eq_true_eq, decide_eq_true_eq, decide_eq_true_eq]
    exact ⟨h1, h2, h3, h4⟩
  unfold fineT
  rw [hl, Bool.true_and, List.all_eq_true]
  intro i hi
  rw [List.mem_range] at hi
  have hi' : i < (runT th locs v b).evs.length := hi
  have g := run_good th locs v b (List.getElem?_eq_getElem hi')
  unfold okAt
  simp only [Bool.and_eq_true, decide_eq_true_eq]
  refine ⟨msk_low g.ma, msk_low g.md, msk_low g.mc, ?_⟩
  have h := g.p2
  rw [List.length_take, List.getD_eq_getElem?_getD] at h
  show (runT th locs v b).pa.getD i 0 < (i : Int)
  rw [List.getD_eq_getElem?_getD]
  have hp : i < (runT th locs v b).pa.length := by omega
  rw [List.getElem?_eq_getElem hp] at h ⊢
  simp only [Option.getD_some] at h ⊢
  omega

/-- One more thread. -/
def stepW (ways : List (List St)) (l : List St) : List (List St) := ways.flatMap fun w => l.map fun x => w ++ [x]
theorem stepW_len (ways : List (List St)) (l : List St) : (stepW ways l).length = ways.length * l.length := by
  unfold stepW
  induction ways with
  | nil => simp
  | cons w ways ih => rw [List.flatMap_cons, List.length_append, List.length_map, ih, List.length_cons, Nat.succ_mul, Nat.add_comm]
/-- All ways, or too many. -/
def waysZ (locs : Int) (v : List Int) : List (List Ins) → List (List St) → Option (List (List St))
  | [], ways => some ways
  | th :: ts, ways => if 20000 < ways.length * (tracesT th locs v).length then none else waysZ locs v ts (stepW ways (tracesT th locs v))
def manyZ (locs : Int) (v : List Int) : List (List Ins) → Nat
  | [] => 1
  | th :: ts => (tracesT th locs v).length * manyZ locs v ts
theorem waysZ_len {locs : Int} {v : List Int} : ∀ {ts : List (List Ins)} {ways W : List (List St)}, waysZ locs v ts ways = some W → W.length = ways.length * manyZ locs v ts
  | [], ways, W, h => by cases h; simp [manyZ]
  | th :: ts, ways, W, h => by
    unfold waysZ at h
    split at h
    · cases h
    · rw [waysZ_len h, stepW_len, manyZ, Nat.mul_assoc]
theorem manyZ_pos {locs : Int} {v : List Int} : ∀ {ts : List (List Ins)}, (∀ th ∈ ts, tracesT th locs v ≠ []) → 1 ≤ manyZ locs v ts
  | [], _ => Nat.le_refl _
  | th :: ts, h => by
    unfold manyZ
    exact Nat.mul_pos (List.length_pos_iff.2 (h th (by simp))) (manyZ_pos fun t ht => h t (by simp [ht]))
theorem waysZ_some {locs : Int} {v : List Int} : ∀ {ts : List (List Ins)} {ways : List (List St)}, (∀ th ∈ ts, tracesT th locs v ≠ []) → ways.length * manyZ locs v ts ≤ 20000 → ∃ W, waysZ locs v ts ways = some W
  | [], ways, _, _ => ⟨ways, rfl⟩
  | th :: ts, ways, hne, h => by
    have hp := manyZ_pos (locs := locs) (v := v) (ts := ts) fun t ht => hne t (by simp [ht])
    rw [manyZ, ← Nat.mul_assoc] at h
    have h1 : ways.length * (tracesT th locs v).length ≤ 20000 := Nat.le_trans (Nat.le_mul_of_pos_right _ hp) h
    unfold waysZ
    rw [if_neg (by omega)]
    exact waysZ_some (fun t ht => hne t (by simp [ht])) (by rw [stepW_len]; exact h)
theorem waysZ_none {locs : Int} {v : List Int} : ∀ {ts : List (List Ins)} {ways : List (List St)}, waysZ locs v ts ways = none → (∀ th ∈ ts, tracesT th locs v ≠ []) → 20000 < ways.length * manyZ locs v ts
  | [], ways, h, _ => by cases h
  | th :: ts, ways, h, hne => by
    have hp := manyZ_pos (locs := locs) (v := v) (ts := ts) fun t ht => hne t (by simp [ht])
    rw [manyZ, ← Nat.mul_assoc]
    unfold waysZ at h
    split at h
    · exact Nat.lt_of_lt_of_le (by assumption) (Nat.le_mul_of_pos_right _ hp)
    · have := waysZ_none h fun t ht => hne t (by simp [ht])
      rwa [stepW_len] at this
theorem waysZ_le {locs : Int} {v : List Int} : ∀ {ts : List (List Ins)} {ways W : List (List St)}, waysZ locs v ts ways = some W → ways.length ≤ 20000 → W.length ≤ 20000
  | [], ways, W, h, hl => by cases h; exact hl
  | th :: ts, ways, W, h, _ => by
    unfold waysZ at h
    split at h
    · cases h
    · exact waysZ_le h (by rw [stepW_len]; omega)
/-- Each way has one trace of each thread. -/
theorem waysZ_mem {locs : Int} {v : List Int} : ∀ {ts : List (List Ins)} {ways W : List (List St)} {w : List St}, waysZ locs v ts ways = some W → w ∈ W → ∃ u ∈ ways, ∃ r, w = u ++ r ∧ r.length = ts.length ∧ ∀ s ∈ r, ∃ th ∈ ts, s ∈ tracesT th locs v
  | [], ways, W, w, h, hw => by cases h; exact ⟨w, hw, [], by simp, rfl, fun _ h => by simp at h⟩
  | th :: ts, ways, W, w, h, hw => by
    unfold waysZ at h
    split at h
    · cases h
    · obtain ⟨u, hu, r, rfl, hr, hs⟩ := waysZ_mem h hw
      unfold stepW at hu
      rw [List.mem_flatMap] at hu
      obtain ⟨u0, hu0, hu⟩ := hu
      obtain ⟨x, hx, rfl⟩ := List.mem_map.1 hu
      refine ⟨u0, hu0, x :: r, by simp, by simp [hr], fun s hs' => ?_⟩
      rcases List.mem_cons.1 hs' with rfl | hs'
      · exact ⟨th, by simp, hx⟩
      · obtain ⟨t, ht, h2⟩ := hs s hs'
        exact ⟨t, by simp [ht], h2⟩
/-- A way of threads that may be. -/
structure WayOk (ts : List (List Ins)) (locs : Int) (v : List Int) (w : List St) : Prop where
  len : w.length = ts.length
  mem : ∀ s ∈ w, ∃ th ∈ ts, s ∈ tracesT th locs v
theorem waysZ_ok {ts : List (List Ins)} {locs : Int} {v : List Int} {W : List (List St)} {w : List St} (h : waysZ locs v ts [[]] = some W) (hw : w ∈ W) : WayOk ts locs v w := by
  obtain ⟨u, hu, r, rfl, hr, hs⟩ := waysZ_mem h hw
  rw [List.mem_singleton] at hu
  subst hu
  exact ⟨by simpa using hr, by simpa using hs⟩
theorem tot_le : ∀ {l : List Tr} {n : Nat}, (∀ t ∈ l, t.evs.length ≤ n) → totN l ≤ n * l.length
  | [], n, _ => by simp [totN]
  | t :: l, n, h => by
    rw [totN, List.length_cons, Nat.mul_succ]
    have h1 := h t (by simp)
    have h2 := tot_le (l := l) fun x hx => h x (by simp [hx])
    omega
theorem way_tot {ts : List (List Ins)} {locs : Int} {v : List Int} {w : List St} (h : WayOk ts locs v w) (h3 : ts.length ≤ 3) : totN (w.map St.tr) ≤ 24 := by
  have h1 := tot_le (l := w.map St.tr) (n := 8) fun t ht => by
    obtain ⟨s, hs, rfl⟩ := List.mem_map.1 ht
    obtain ⟨th, _, h2⟩ := h.mem s hs
    exact tracesT_evs h2
  rw [List.length_map, h.len] at h1
  omega
theorem way_fine {ts : List (List Ins)} {locs : Int} {v : List Int} {w : List St} (h : WayOk ts locs v w) : (w.map St.tr).all fineT = true := by
  rw [List.all_eq_true]
  intro t ht
  obtain ⟨s, hs, rfl⟩ := List.mem_map.1 ht
  obtain ⟨th, _, h2⟩ := h.mem s hs
  obtain ⟨a, b, rfl, _⟩ := tracesT_mem h2
  exact fine_run th locs a b
theorem way_join {ts : List (List Ins)} {locs : Int} {v : List Int} {w : List St} (h : WayOk ts locs v w) (h3 : ts.length ≤ 3) : joinZ (w.map St.tr) = (joinE (w.map St.tr), 0) := by
  unfold joinZ
  rw [if_neg (by have := way_tot h h3; omega), if_pos (way_fine h)]
/-- There is a trace, at least, if there is a value. -/
theorem onT_some {th : List Ins} {locs : Int} {l : List Int} (hl : l ≠ []) : ∀ (f : Nat) (v : List Int) (b : List Bool), onT th locs l f v b ≠ []
  | 0, v, b => by simp [onT]
  | f + 1, v, b => by
    unfold onT
    split
    · simp
    · split
      · intro h
        exact onT_some hl f v (b ++ [true]) (List.append_eq_nil_iff.1 h).1
      · intro h
        obtain ⟨x, l', rfl⟩ := List.exists_cons_of_ne_nil hl
        rw [List.flatMap_cons] at h
        exact onT_some hl f (v ++ [x]) b (List.append_eq_nil_iff.1 h).1
theorem tracesT_some {th : List Ins} {locs : Int} {l : List Int} (hl : l ≠ []) (h4 : loadsN th ≤ 4) : tracesT th locs l ≠ [] := by
  unfold tracesT
  rw [if_pos h4]
  exact onT_some hl _ _ _
/-- All that threads may do together, and the error. -/
def allZ (xs : List Int) (ts : List (List Ins)) : List Ex × Int :=
  if (ofZ xs ts).2 = 0 then
    match waysZ xs.length (ofZ xs ts).1 ts [[]] with
    | some W => (W.map fun w => (joinZ (w.map St.tr)).1, 0)
    | none => ([], 3)
  else ([], (ofZ xs ts).2)
theorem allZ_bad {xs : List Int} {ts : List (List Ins)} (h : (ofZ xs ts).2 ≠ 0) : allZ xs ts = ([], (ofZ xs ts).2) := if_neg h
theorem allZ_some {xs : List Int} {ts : List (List Ins)} {W : List (List St)} (h : (ofZ xs ts).2 = 0) (hW : waysZ xs.length (ofZ xs ts).1 ts [[]] = some W) : allZ xs ts = (W.map fun w => (joinZ (w.map St.tr)).1, 0) := by unfold allZ; rw [if_pos h, hW]
theorem allZ_none {xs : List Int} {ts : List (List Ins)} (h : (ofZ xs ts).2 = 0) (hW : waysZ xs.length (ofZ xs ts).1 ts [[]] = none) : allZ xs ts = ([], 3) := by unfold allZ; rw [if_pos h, hW]
/-- What is known of a test whose values may be read. -/
theorem of_check {xs : List Int} {ts : List (List Ins)} (h : (ofZ xs ts).2 = 0) : (checkZ xs ts).2.2 = 0 ∧ closeN ts xs.length (storesTs ts) (putsN [] xs) = some (ofZ xs ts).1 := by
  unfold ofZ at h ⊢
  by_cases h0 : (checkZ xs ts).2.2 = 0
  · rw [if_pos h0] at h ⊢
    refine ⟨h0, ?_⟩
    cases hc : closeN ts xs.length (storesTs ts) (putsN [] xs) with
    | none => rw [hc] at h; exact absurd h (by decide)
    | some l => rfl
  · rw [if_neg h0] at h
    exact absurd h h0
theorem of_vals {xs : List Int} {ts : List (List Ins)} (h : (ofZ xs ts).2 = 0) : (ofZ xs ts).1 ≠ [] ∧ ∀ th ∈ ts, tracesT th xs.length (ofZ xs ts).1 ≠ [] := by
  obtain ⟨h0, hc⟩ := of_check h
  obtain ⟨f1, _, _, _, f5, _⟩ := check_facts h0
  have hne : (ofZ xs ts).1 ≠ [] := by
    cases xs with
    | nil => exact absurd f1 (by decide)
    | cons x xs =>
      have := closeN_has (x := x) hc (mem_putsN.2 (.inl (by simp)))
      exact List.ne_nil_of_mem this
  exact ⟨hne, fun th ht => tracesT_some hne (by have := loadsTs_mem ht; omega)⟩
/-- Whatever is told is a way. -/
theorem allZ_mem {xs : List Int} {ts : List (List Ins)} {x : Ex} (h : x ∈ (allZ xs ts).1) : ts.length ≤ 3 ∧ ∃ w, WayOk ts xs.length (ofZ xs ts).1 w ∧ x = joinE (w.map St.tr) := by
  by_cases h0 : (ofZ xs ts).2 = 0
  · have h3 := (check_facts (of_check h0).1).2.2.2.1
    cases hW : waysZ xs.length (ofZ xs ts).1 ts [[]] with
    | none => rw [allZ_none h0 hW] at h; simp at h
    | some W =>
      rw [allZ_some h0 hW] at h
      obtain ⟨w, hw, rfl⟩ := List.mem_map.1 h
      have hk := waysZ_ok hW hw
      exact ⟨h3, w, hk, by rw [way_join hk h3]⟩
  · rw [allZ_bad h0] at h
    simp at h
theorem allZ_len {xs : List Int} {ts : List (List Ins)} (h0 : (ofZ xs ts).2 = 0) : (manyZ xs.length (ofZ xs ts).1 ts ≤ 20000 ∧ (allZ xs ts).2 = 0 ∧ (allZ xs ts).1.length = manyZ xs.length (ofZ xs ts).1 ts) ∨ (20000 < manyZ xs.length (ofZ xs ts).1 ts ∧ allZ xs ts = ([], 3)) := by
  obtain ⟨_, hne⟩ := of_vals h0
  cases hW : waysZ xs.length (ofZ xs ts).1 ts [[]] with
  | none =>
    have := waysZ_none hW hne
    rw [List.length_singleton, Nat.one_mul] at this
    exact .inr ⟨this, allZ_none h0 hW⟩
  | some W =>
    have hl := waysZ_len hW
    rw [List.length_singleton, Nat.one_mul] at hl
    have hm := waysZ_le hW (by simp)
    refine .inl ⟨by omega, ?_⟩
    rw [allZ_some h0 hW]
    exact ⟨rfl, by simp [hl]⟩
end Go.Proofs.YtcalinfdckklfaaGreatDoor

namespace Go.Proofs.YtcalinfdckklfaaGreatDoor
open Go.RowKit

end Go.Proofs.YtcalinfdckklfaaGreatDoor

namespace Go.Proofs.YtcalinfdckklfaaGreatDoor
open Go.RowKit

/-- A run's trace. -/
def RunTr (locs : Int) (t : Tr) : Prop := ∃ th v b, t = (runT th locs v b).tr
theorem way_runs {ts : List (List Ins)} {locs : Int} {v : List Int} {w : List St} (h : WayOk ts locs v w) : ∀ t ∈ w.map St.tr, RunTr locs t := by
  intro t ht
  obtain ⟨s, hs, rfl⟩ := List.mem_map.1 ht
  obtain ⟨th, _, h2⟩ := h.mem s hs
  obtain ⟨a, b, rfl, _⟩ := tracesT_mem h2
  exact ⟨th, a, b, rfl⟩
section
variable {l : List Tr} {locs : Int}
end
/-- Sets of a run's places are of 32 bits. -/
theorem run_sets (th : List Ins) (locs : Int) (v : List Int) (b : List Bool) : let s := runT th locs v b; (∀ m ∈ s.ad, 0 ≤ m ∧ m < 4294967296) ∧ (∀ m ∈ s.da, 0 ≤ m ∧ m < 4294967296) ∧ ∀ m ∈ s.ct, 0 ≤ m ∧ m < 4294967296 := by
  obtain ⟨h1, h2, h3, _⟩ := run_lens th locs v b
  have key : ∀ {l : List Ev} {m : Int}, Msk l m → 0 ≤ m ∧ m < 4294967296 := fun h => by obtain ⟨n, rfl, hn, _⟩ := h; omega
  have at0 : ∀ {l : List Int} {i : Nat} (h : i < l.length), l.getD i 0 = l[i] := fun h => by rw [List.getD_eq_getElem?_getD, List.getElem?_eq_getElem h]; rfl
  refine ⟨fun m hm => ?_, fun m hm => ?_, fun m hm => ?_⟩
  · obtain ⟨i, hi, rfl⟩ := List.getElem_of_mem hm
    have g := (run_good th locs v b (List.getElem?_eq_getElem (show i < (runT th locs v b).evs.length by omega))).ma
    rw [at0 hi] at g
    exact key g
  · obtain ⟨i, hi, rfl⟩ := List.getElem_of_mem hm
    have g := (run_good th locs v b (List.getElem?_eq_getElem (show i < (runT th locs v b).evs.length by omega))).md
    rw [at0 hi] at g
    exact key g
  · obtain ⟨i, hi, rfl⟩ := List.getElem_of_mem hm
    have g := (run_good th locs v b (List.getElem?_eq_getElem (show i < (runT th locs v b).evs.length by omega))).mc
    rw [at0 hi] at g
    exact key g
/-- The bits of events of which p is true. -/
def kdM (l : List Ev) (p : Ev → Bool) : Nat := rowN (fun k => (l[k]?.map p).getD false) l.length
theorem kdM_bit {l : List Ev} {p : Ev → Bool} {k : Nat} : (kdM l p).testBit k = true ↔ ∃ e, l[k]? = some e ∧ p e = true := by
  unfold kdM
  rw [rowN_bit, Bool.and_eq_true, decide_eq_true_eq]
  constructor
  · rintro ⟨h1, h2⟩
    rw [List.getElem?_eq_getElem h1] at h2 ⊢
    exact ⟨_, rfl, h2⟩
  · rintro ⟨e, h1, h2⟩
    refine ⟨(List.getElem?_eq_some_iff.1 h1).1, ?_⟩
    rw [h1]
    exact h2
end Go.Proofs.YtcalinfdckklfaaGreatDoor

namespace Go.Proofs.YtcalinfdckklfaaGreatDoor
open Go.RowKit
/-- One thing, its row anywhere. -/
theorem slO_single {α : Type} {R : Elem α} {A : Nat → Prop} {w : World} {b c : Nat} {x : α} {cs : List Value} (hx : R.cs A w x cs) (h : ∀ j u, cs[j]? = some u → w.cell? ⟨b, j, none⟩ = some u) (hc : 1 ≤ c) : SlO A R w (.slice (some ⟨b, 0, none⟩) 1 c) [x] := by
  refine ⟨_, c, rfl, ⟨(fun e => by cases e), hc⟩, fun _ => ⟨b, 0, rfl, fun i hi => ⟨cs, ?_, fun j u hu => ?_⟩⟩⟩
  · have : i = 0 := by simp at hi; omega
    subst this
    exact hx
  · have : i = 0 := by simp at hi; omega
    subst this
    simpa using h j u hu
theorem stepW_take {W : List (List St)} {L : List St} {m : Nat} {q : List St} (h : W[m]? = some q) : stepW (W.take (m + 1)) L = stepW (W.take m) L ++ L.map fun x => q ++ [x] := by
  unfold stepW
  rw [List.take_add_one, h, Option.toList_some, List.flatMap_append, List.flatMap_singleton]
theorem map_take {α β : Type} {L : List α} {f : α → β} {j : Nat} {x : α} (h : L[j]? = some x) : (L.take (j + 1)).map f = (L.take j).map f ++ [f x] := by
  rw [List.take_add_one, h, Option.toList_some, List.map_append]
  rfl

theorem cap_len {α : Type} {R : Elem α} {A : Nat → Prop} {w : World} {p : Option Addr} {n c : Nat} {xs : List α} (h : SlA A R w (.slice p n c) xs) : SlA A R w (.slice p n n) xs := by
  obtain ⟨q, cap, e, ⟨h0, h1⟩, h2⟩ := h
  simp only [Value.slice.injEq] at e
  obtain ⟨rfl, rfl, rfl⟩ := e
  exact ⟨p, xs.length, rfl, ⟨fun e => by have := h0 e; omega, Nat.le_refl _⟩, h2⟩
/-- How many ways there are to take one of each. -/
def prodL : List (List St) → Nat
  | [] => 1
  | L :: LL => L.length * prodL LL
theorem prodL_snoc (L : List St) : ∀ LL : List (List St), prodL (LL ++ [L]) = prodL LL * L.length
  | [] => by simp [prodL]
  | X :: LL => by rw [List.cons_append, prodL, prodL_snoc L LL, prodL, Nat.mul_assoc]
theorem prodL_next {LL : List (List St)} {k : Nat} {L : List St} (h : LL[k]? = some L) : prodL (LL.take (k + 1)) = prodL (LL.take k) * L.length := by
  rw [List.take_add_one, h, Option.toList_some, prodL_snoc]
/-- All ways to take one of each. -/
def wayL (LL : List (List St)) : List (List St) := LL.foldl stepW [[]]
theorem wayL_next {LL : List (List St)} {k : Nat} {L : List St} (h : LL[k]? = some L) : wayL (LL.take (k + 1)) = stepW (wayL (LL.take k)) L := by
  unfold wayL
  rw [List.take_add_one, h, Option.toList_some, List.foldl_append]
  rfl
theorem foldl_len : ∀ (LL W : List (List St)), (LL.foldl stepW W).length = W.length * prodL LL
  | [], W => by simp [prodL]
  | L :: LL, W => by rw [List.foldl_cons, foldl_len LL, stepW_len, prodL, Nat.mul_assoc]
theorem wayL_len (LL : List (List St)) : (wayL LL).length = prodL LL := by unfold wayL; rw [foldl_len]; simp
theorem waysZ_is {locs : Int} {v : List Int} : ∀ {ts : List (List Ins)} {W V : List (List St)}, waysZ locs v ts W = some V → V = (ts.map fun th => tracesT th locs v).foldl stepW W
  | [], W, V, h => by cases h; rfl
  | th :: ts, W, V, h => by
    rw [waysZ] at h
    split at h
    · cases h
    · rw [List.map_cons, List.foldl_cons]
      exact waysZ_is h
theorem prod_many {locs : Int} {v : List Int} : ∀ ts : List (List Ins), prodL (ts.map fun th => tracesT th locs v) = manyZ locs v ts
  | [] => rfl
  | th :: ts => by rw [List.map_cons, prodL, prod_many ts, manyZ]
theorem prod_loads {locs : Int} {v : List Int} (hv : v.length ≤ 8) : ∀ ts : List (List Ins), prodL (ts.map fun th => tracesT th locs v) ≤ 16 ^ loadsTs ts
  | [] => by simp [prodL, loadsTs]
  | th :: ts => by
    rw [List.map_cons, prodL, loadsTs, Nat.pow_add]
    exact Nat.mul_le_mul (tracesT_len hv) (prod_loads hv ts)
theorem loads_takeTs : ∀ (ts : List (List Ins)) (k : Nat), loadsTs (ts.take k) ≤ loadsTs ts
  | [], k => by simp
  | t :: ts, 0 => by simp [loadsTs]
  | t :: ts, k + 1 => by rw [List.take_succ_cons, loadsTs, loadsTs]; have := loads_takeTs ts k; omega
theorem prod_take {locs : Int} {v : List Int} (hv : v.length ≤ 8) {ts : List (List Ins)} (h4 : loadsTs ts ≤ 4) (k : Nat) : prodL ((ts.map fun th => tracesT th locs v).take k) ≤ 65536 := by
  rw [← List.map_take]
  refine Nat.le_trans (prod_loads hv _) ?_
  have := Nat.le_trans (loads_takeTs ts k) h4
  exact Nat.le_trans (Nat.pow_le_pow_right (by decide) this) (by decide)
end Go.Proofs.YtcalinfdckklfaaGreatDoor
