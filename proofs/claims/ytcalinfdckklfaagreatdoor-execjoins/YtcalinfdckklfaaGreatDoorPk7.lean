/- RelP: RelMath, RelMath2, RelRep, RelBits, RelClean, RelJoin, RelClose, RelTell, in one text. -/
import Derived.Test.YtcalinfdckklfaaGreatDoorPk1
import Derived.Test.YtcalinfdckklfaaGreatDoorPk6
import Derived.Test.YtcalinfdckklfaaGreatDoorProg
import Derived.RowKit
namespace Go.Proofs.YtcalinfdckklfaaGreatDoor

/-- The number whose bits below n are g's. -/
def rowN (g : Nat → Bool) : Nat → Nat
  | 0 => 0
  | n + 1 => rowN g n + bif g n then 2 ^ n else 0
theorem rowN_lt (g : Nat → Bool) : ∀ n, rowN g n < 2 ^ n
  | 0 => by simp [rowN]
  | n + 1 => by
    have := rowN_lt g n
    simp only [rowN, Nat.pow_succ]
    cases g n <;> simp <;> omega
theorem rowN_bit (g : Nat → Bool) : ∀ (n k : Nat), (rowN g n).testBit k = (decide (k < n) && g k)
  | 0, k => by simp [rowN]
  | n + 1, k => by
    have ih := rowN_bit g n k
    have hl := rowN_lt g n
    simp only [rowN]
    cases hg : g n with
    | false =>
      simp only [cond_false, Nat.add_zero]
      rw [ih]
      by_cases h1 : k < n
      · simp [h1, show k < n + 1 by omega]
      · by_cases h2 : k = n
        · subst h2; simp [hg]
        · simp [h1, show ¬ k < n + 1 by omega]
    | true =>
      simp only [cond_true]
      rw [Nat.add_comm]
      by_cases h1 : k < n
      · rw [Nat.testBit_two_pow_add_gt h1, ih]
        simp [h1, show k < n + 1 by omega]
      · by_cases h2 : k = n
        · subst h2
          rw [Nat.testBit_two_pow_add_eq, ih]
          simp [hg]
        · have h3 : 2 ^ n + rowN g n < 2 ^ k := by
            have : 2 ^ (n + 1) ≤ 2 ^ k := Nat.pow_le_pow_right (by decide) (by omega)
            rw [Nat.pow_succ] at this
            omega
          rw [Nat.testBit_lt_two_pow h3]
          simp [show ¬ k < n + 1 by omega]
theorem row_ext {x y n : Nat} (hx : x < 2 ^ n) (hy : y < 2 ^ n) (h : ∀ k, k < n → x.testBit k = y.testBit k) : x = y := by
  apply Nat.eq_of_testBit_eq
  intro k
  by_cases hk : k < n
  · exact h k hk
  · have hp : 2 ^ n ≤ 2 ^ k := Nat.pow_le_pow_right (by decide) (by omega)
    rw [Nat.testBit_lt_two_pow (by omega), Nat.testBit_lt_two_pow (by omega)]
theorem row_is {x n : Nat} {g : Nat → Bool} (hx : x < 2 ^ n) (h : ∀ k, k < n → x.testBit k = g k) : x = rowN g n :=
  row_ext hx (rowN_lt g n) fun k hk => by rw [h k hk, rowN_bit]; simp [hk]

/-- Of how many things a relation is. -/
def szR (r : List Nat) : Nat := if 32 < r.length then 0 else r.length
/-- Whether it has a pair. -/
def hasR (r : List Nat) (i k : Nat) : Bool := decide (i < szR r) && decide (k < szR r) && (r.getD i 0).testBit k
/-- The relation of n things with the pairs of f. -/
def mkR (n : Nat) (f : Nat → Nat → Bool) : List Nat := (List.range n).map fun i => rowN (f i) n
/-- Without bits that play no part. -/
def cleanR (r : List Nat) : List Nat := mkR (szR r) (hasR r)
theorem szR_le (r : List Nat) : szR r ≤ 32 := by unfold szR; split <;> omega
theorem szR_len (r : List Nat) : szR r ≤ r.length := by unfold szR; split <;> omega
theorem mkR_len (n : Nat) (f : Nat → Nat → Bool) : (mkR n f).length = n := by simp [mkR]
theorem mkR_sz {n : Nat} (f : Nat → Nat → Bool) (h : n ≤ 32) : szR (mkR n f) = n := by unfold szR; rw [mkR_len, if_neg (by omega)]
theorem mkR_at {n i : Nat} (f : Nat → Nat → Bool) (h : i < n) : (mkR n f).getD i 0 = rowN (f i) n := by simp [mkR, h]
theorem mkR_has {n : Nat} (f : Nat → Nat → Bool) (h : n ≤ 32) (i k : Nat) : hasR (mkR n f) i k = (decide (i < n) && decide (k < n) && f i k) := by
  unfold hasR
  rw [mkR_sz f h]
  by_cases hi : i < n
  · rw [mkR_at f hi, rowN_bit]
    by_cases hk : k < n <;> simp [hi, hk]
  · simp [hi]
theorem mkR_congr {n : Nat} {f g : Nat → Nat → Bool} (h : ∀ i k, i < n → k < n → f i k = g i k) : mkR n f = mkR n g := by
  unfold mkR
  apply List.map_congr_left
  intro i hi
  have hi' : i < n := by simpa using hi
  exact row_ext (rowN_lt _ _) (rowN_lt _ _) fun k hk => by rw [rowN_bit, rowN_bit, h i k hi' hk]
end Go.Proofs.YtcalinfdckklfaaGreatDoor

namespace Go.Proofs.YtcalinfdckklfaaGreatDoor

def invF (f : Nat → Nat → Bool) (i k : Nat) : Bool := f k i
/-- All pairs, rising. -/
def pairsF (n : Nat) (f : Nat → Nat → Bool) : List (Nat × Nat) := (List.range n).flatMap fun i => ((List.range n).filter (f i)).map fun k => (i, k)
theorem pairs_mem {n : Nat} {f : Nat → Nat → Bool} {i k : Nat} : (i, k) ∈ pairsF n f ↔ i < n ∧ k < n ∧ f i k = true := by
  simp [pairsF, List.mem_flatMap]
/-- The relation of some pairs. -/
def ofF (l : List (Nat × Nat)) (i k : Nat) : Bool := l.contains (i, k)
end Go.Proofs.YtcalinfdckklfaaGreatDoor

namespace Go.Proofs.YtcalinfdckklfaaGreatDoor
open Go.RowKit

/-- Numbers of 32 bits. -/
def U32E : Elem Nat where
  size := 1
  pos := Nat.one_pos
  cs := fun _ _ x c => c = [.int .u32 (x : Int)] ∧ x < 4294967296
  len := fun h => by rw [h.1]; rfl
  one := fun h u hu => by rw [h.1] at hu; simp at hu; subst hu; rfl
  keep := fun h _ => h
  mono := fun _ h => h
  lt := fun h => h
/-- Two numbers. -/
def PairE : Elem (Nat × Nat) where
  size := 2
  pos := by decide
  cs := fun _ _ x c => c = [.int .i64 (x.1 : Int), .int .i64 (x.2 : Int)]
  len := fun h => by subst h; rfl
  one := fun h u hu => by subst h; simp at hu; rcases hu with rfl | rfl <;> rfl
  keep := fun h _ => h
  mono := fun _ h => h
  lt := fun h => h

theorem u32_at {A : Nat → Prop} {w : World} {p : Option Addr} {n c : Nat} {xs : List Nat} (h : SlA A U32E w (.slice p n c) xs) : n = xs.length ∧ ∀ k (hk : k < xs.length), xs[k] < 4294967296 ∧ ∃ b o, p = some ⟨b, o, none⟩ ∧ w.cell? ⟨b, o + k, none⟩ = some (.int .u32 (xs[k] : Nat)) := by
  obtain ⟨h1, h2⟩ := h.at
  refine ⟨h1, fun k hk => ?_⟩
  obtain ⟨b, o, rfl, _, cs, ⟨h3, h5⟩, h4⟩ := h2 k hk
  have := h4 0 _ (by rw [h3]; rfl)
  exact ⟨h5, b, o, rfl, by simpa [U32E] using this⟩
theorem pair_at {A : Nat → Prop} {w : World} {p : Option Addr} {n c : Nat} {xs : List (Nat × Nat)} (h : SlA A PairE w (.slice p n c) xs) : n = xs.length ∧ ∀ k (hk : k < xs.length), ∃ b o, p = some ⟨b, o, none⟩ ∧ w.cell? ⟨b, o + k * 2, none⟩ = some (.int .i64 (xs[k].1 : Nat)) ∧ w.cell? ⟨b, o + k * 2 + 1, none⟩ = some (.int .i64 (xs[k].2 : Nat)) := by
  obtain ⟨h1, h2⟩ := h.at
  refine ⟨h1, fun k hk => ?_⟩
  obtain ⟨b, o, rfl, _, cs, h3, h4⟩ := h2 k hk
  have e : cs = [.int .i64 (xs[k].1 : Int), .int .i64 (xs[k].2 : Int)] := h3
  subst e
  exact ⟨b, o, rfl, by simpa [PairE] using h4 0 _ rfl, by simpa [PairE] using h4 1 _ rfl⟩

/-- A row of n numbers, g's, in a block of its own. -/
def rowsV (n : Nat) (g : Nat → Nat) : Array Value := ((List.range n).map fun i => Value.int .u32 (g i : Int)).toArray
def Row (w : World) (b : Nat) (t : TypeId) (n : Nat) (g : Nat → Nat) : Prop := Blk w b (rowsV n g) t
/-- One of them another. -/
def updN (g : Nat → Nat) (k x : Nat) (i : Nat) : Nat := if i = k then x else g i

section
variable {w w' : World} {b n i : Nat} {t : TypeId} {g g' : Nat → Nat}
theorem Row.lt (h : Row w b t n g) : b < w.heap.size := Blk.lt h
theorem Row.cell (h : Row w b t n g) (hi : i < n) : w.cell? ⟨b, i, none⟩ = some (.int .u32 (g i : Nat)) := by
  rw [Blk.cell h i]; simp [rowsV, hi]
theorem Row.frozen (h : Row w b t n g) (i : Nat) : w.frozen? ⟨b, i, none⟩ = false := Blk.frozen h i
theorem Row.keep (h : Row w b t n g) (hb : Below w.heap.size w w') : Row w' b t n g := Blk.keep h hb
theorem Row.drew (h : Row w b t n g) : Row w.drew b t n g := h
theorem Row.congr (h : Row w b t n g) (hg : ∀ i, i < n → g i = g' i) : Row w b t n g' := by
  have : rowsV n g' = rowsV n g := by
    unfold rowsV
    congr 1
    exact List.map_congr_left fun i hi => by rw [hg i (by simpa using hi)]
  unfold Row; rw [this]; exact h
theorem Row.set (h : Row w b t n g) (_hi : i < n) (x : Nat) : Row (w.setCell ⟨b, i, none⟩ (.int .u32 (x : Nat))) b t n (updN g i x) := by
  have h1 := Blk.set (i := i) h (.int .u32 (x : Int))
  have : (rowsV n g).setIfInBounds i (.int .u32 (x : Int)) = rowsV n (updN g i x) := by
    unfold rowsV
    rw [List.setIfInBounds_toArray]
    congr 1
    apply List.ext_getElem (by simp)
    intro j h1 h2
    simp only [List.getElem_set, List.getElem_map, List.getElem_range, updN]
    by_cases e : i = j
    · subst e; simp
    · rw [if_neg e, if_neg (fun h => e h.symm)]
  rw [this] at h1
  exact h1
theorem Row.setI (h : Row w b t n g) (hi : i < n) {z : Int} {x : Nat} (hz : z = (x : Int)) : Row (w.setCell ⟨b, i, none⟩ (.int .u32 z)) b t n (updN g i x) := by subst hz; exact h.set hi x
theorem Row.slA {A : Nat → Prop} (h : Row w b t n g) (hA : A b) (hg : ∀ i, i < n → g i < 4294967296) : SlA A U32E w (.slice (some ⟨b, 0, none⟩) n n) ((List.range n).map g) := by
  refine ⟨_, n, by simp, ⟨(fun e => by cases e), by simp⟩, fun _ => ⟨b, 0, rfl, hA, fun i hi => ?_⟩⟩
  have hi' : i < n := by simpa using hi
  refine ⟨_, ⟨rfl, by simpa using hg i hi'⟩, fun j u hu => ?_⟩
  match j, hu with
  | 0, hu => simp at hu; subst hu; simpa [U32E] using h.cell hi'
  | j + 1, hu => simp at hu
theorem below_set {B : Nat} {a : World} (h : Below B a w) (hB : B ≤ b) (v : Value) : Below B a (w.setCell ⟨b, i, none⟩ v) :=
  ⟨h.os, h.tape, h.output, Nat.le_trans h.size (by simp [World.setCell]), fun k hk => (Below.heap_setCell _ _ _ _ (by simp; omega)).trans (h.block k hk)⟩
end

/-- Bits of numbers of 32 bits. -/
theorem and_u32 {a b : Nat} (ha : a < 4294967296) (hb : b < 4294967296) : bits .and .u32 (a : Int) (b : Int) = ((a &&& b : Nat) : Int) := by
  have hx : a &&& b < 2 ^ 32 := Nat.and_lt_two_pow _ (by omega)
  have h1 : (BitVec.ofInt 32 (a : Int)).toNat = a := by
    rw [BitVec.ofInt_natCast, BitVec.toNat_ofNat]; exact Nat.mod_eq_of_lt (by omega)
  have h2 : (BitVec.ofInt 32 (b : Int)).toNat = b := by
    rw [BitVec.ofInt_natCast, BitVec.toNat_ofNat]; exact Nat.mod_eq_of_lt (by omega)
  show IntKind.u32.wrap ((BitVec.ofInt 32 (a : Int) &&& BitVec.ofInt 32 (b : Int)).toNat : Int) = _
  rw [BitVec.toNat_and, h1, h2, IntKind.wrap_u32]
  omega
theorem or_u32 {a b : Nat} (ha : a < 4294967296) (hb : b < 4294967296) : bits .or .u32 (a : Int) (b : Int) = ((a ||| b : Nat) : Int) := by
  have hx : a ||| b < 2 ^ 32 := Nat.or_lt_two_pow (by omega) (by omega)
  have h1 : (BitVec.ofInt 32 (a : Int)).toNat = a := by
    rw [BitVec.ofInt_natCast, BitVec.toNat_ofNat]; exact Nat.mod_eq_of_lt (by omega)
  have h2 : (BitVec.ofInt 32 (b : Int)).toNat = b := by
    rw [BitVec.ofInt_natCast, BitVec.toNat_ofNat]; exact Nat.mod_eq_of_lt (by omega)
  show IntKind.u32.wrap ((BitVec.ofInt 32 (a : Int) ||| BitVec.ofInt 32 (b : Int)).toNat : Int) = _
  rw [BitVec.toNat_or, h1, h2, IntKind.wrap_u32]
  omega
theorem shr_bit {x k : Nat} (hx : x < 4294967296) : (bits .and .u32 ((x : Int) / 2 ^ min k 32) 1 == 1) = x.testBit k := by
  have e : (x : Int) / 2 ^ min k 32 = ((x >>> k : Nat) : Int) := by
    rw [Nat.shiftRight_eq_div_pow]
    by_cases hk : k ≤ 32
    · rw [Nat.min_eq_left hk]; simp
    · have h1 : x / 2 ^ k = 0 := Nat.div_eq_of_lt (Nat.lt_of_lt_of_le hx (Nat.le_trans (show 4294967296 ≤ 2 ^ 32 by decide) (Nat.pow_le_pow_right (by decide) (by omega))))
      rw [Nat.min_eq_right (by omega), h1]
      omega
  have hs : x >>> k < 4294967296 := Nat.lt_of_le_of_lt (by rw [Nat.shiftRight_eq_div_pow]; exact Nat.div_le_self _ _) hx
  have h1 := and_u32 (a := x >>> k) (b := 1) hs (by decide)
  rw [e, show (1 : Int) = ((1 : Nat) : Int) from rfl, h1]
  unfold Nat.testBit
  rw [Nat.and_comm, Nat.one_and_eq_mod_two]
  rcases Nat.mod_two_eq_zero_or_one (x >>> k) with h | h <;> simp [h]
theorem pow_u32 {k : Nat} (h : k < 32) : ((2 : Int) ^ k % 4294967296) = ((2 ^ k : Nat) : Int) := by
  have : 2 ^ k < 4294967296 := Nat.lt_of_lt_of_le (Nat.pow_lt_pow_right (by decide) h) (by decide)
  rw [show ((2 : Int) ^ k) = ((2 ^ k : Nat) : Int) by simp]
  generalize 2 ^ k = z at *
  omega
theorem ones_u32 {n : Nat} (h : n ≤ 32) : (((2 : Int) ^ n % 4294967296 - 1) % 4294967296) = ((2 ^ n - 1 : Nat) : Int) := by
  by_cases hn : n = 32
  · subst hn; decide
  · have h1 : n < 32 := by omega
    rw [pow_u32 h1]
    have h2 : 2 ^ n < 4294967296 := Nat.lt_of_lt_of_le (Nat.pow_lt_pow_right (by decide) h1) (by decide)
    have h3 : 0 < 2 ^ n := Nat.two_pow_pos n
    generalize 2 ^ n = z at *
    omega

/-- Rows below 2^n. -/
theorem rowN_u32 {g : Nat → Bool} {n : Nat} (h : n ≤ 32) : rowN g n < 4294967296 := Nat.lt_of_lt_of_le (rowN_lt g n) (Nat.le_trans (Nat.pow_le_pow_right (by decide) h) (by decide))
theorem Row.mk {A : Nat → Prop} {w : World} {b n : Nat} {t : TypeId} {f : Nat → Nat → Bool} (h : Row w b t n fun i => rowN (f i) n) (hA : A b) (hn : n ≤ 32) : SlA A U32E w (.slice (some ⟨b, 0, none⟩) n n) (mkR n f) :=
  h.slA hA fun _ _ => rowN_u32 hn
end Go.Proofs.YtcalinfdckklfaaGreatDoor

namespace Go.Proofs.YtcalinfdckklfaaGreatDoor
open Go.RowKit

set_option maxHeartbeats 1000000 in
theorem hasBit_any (x k : Nat) (w : World) (hx : x < 4294967296) (_hk : k < 64) : Calls Tryz.prog 50 #[.int .u32 (x : Int), .int .i64 (k : Int)] w fun e w' => e = .returned (.bool (x.testBit k)) ∧ Below w.heap.size w w' := by
  go_enter Tryz.func50, Tryz.ntmps50
  go_wp2
  go_ret
  exact ⟨by rw [← shr_bit hx]; rfl, Below.refl _ _⟩
set_option maxHeartbeats 1000000 in
theorem things_any (p : Option Addr) (c : Nat) (xs : List Nat) (w : World) : Calls Tryz.prog 49 #[.slice p xs.length c] w fun e w' => e = .returned (.int .i64 (szR xs : Nat)) ∧ Below w.heap.size w w' := by
  unfold szR
  by_cases h : 32 < xs.length
  · have h' : (32 : Int) < (xs.length : Int) := by omega
    rw [if_pos h]
    go_enter Tryz.func49, Tryz.ntmps49
    go_wp2
    go_ret
    exact ⟨rfl, by go_grown⟩
  · have h' : ¬ (32 : Int) < (xs.length : Int) := by omega
    rw [if_neg h]
    go_enter Tryz.func49, Tryz.ntmps49
    go_wp2
    go_ret
    exact ⟨rfl, by go_grown⟩
theorem info_u32R : ((Tryz.prog.info? 29).map fun i => (i.zero, i.size, i.bytes)) = some (some (.int .u32 0), 1, 4) := by kernel_rfl
theorem get_info {P : Program} {t : TypeId} {z : Value} {b c : Nat} (h : ((P.info? t).map fun i => (i.zero, i.size, i.bytes)) = some (some z, b, c)) : ∃ i, P.info? t = some i ∧ i.zero = some z ∧ i.size = b ∧ i.bytes = c := by
  cases hi : P.info? t with
  | none => rw [hi] at h; simp at h
  | some i => rw [hi] at h; simp at h; exact ⟨i, rfl, h.1, h.2.1, h.2.2⟩
def newN (n : Int) : Nat := if n < 0 ∨ 32 < n then 0 else n.toNat
theorem made_zero (n : Nat) : madeCells (Value.int .u32 0).cells (n * 1) = rowsV n (fun _ => 0) := by
  unfold madeCells rowsV
  apply Array.ext (by simp)
  intro i h1 h2
  simp [Value.cells, Nat.mod_one]
theorem make_rel (n : Int) (w : World) (h0 : 0 ≤ n) (hn : n ≤ 100) : (Instr.makeSlice 39 (.int .i64 n) (.int .i64 n)).run Tryz.prog w = .ok (.slice (some ⟨w.heap.size, 0, none⟩) n.toNat n.toNat) (w.alloc (.cells (rowsV n.toNat (fun _ => 0)) 29)) := by
  obtain ⟨i, j1, j2, j3, j4⟩ := get_info info_u32R
  rw [run_makeSlice (P := Tryz.prog) w 39 29 _ _ Tryz.underlying39 j1 j2 .i64 .i64 n n h0 (Int.le_refl _) (by rw [j3]; omega) (by rw [j4]; omega) (by omega), j3, made_zero]
set_option maxHeartbeats 1000000 in
theorem New_any (n : Int) (w : World) : Calls Tryz.prog 51 #[.int .i64 n] w fun e w' => ∃ b, e = .returned (.slice (some ⟨b, 0, none⟩) (newN n) (newN n)) ∧ Row w' b 29 (newN n) (fun _ => 0) ∧ w.heap.size ≤ b ∧ Below w.heap.size w w' := by
  unfold newN
  by_cases h : n < 0 ∨ 32 < n
  · rw [if_pos h]
    rcases h with h | h
    · go_enter Tryz.func51, Tryz.ntmps51
      go_wp2
      go_ret
      exact ⟨_, rfl, Blk.new, Nat.le_refl _, by go_grown⟩
    · have h0 : ¬ n < 0 := by omega
      go_enter Tryz.func51, Tryz.ntmps51
      go_wp2
      go_ret
      exact ⟨_, rfl, Blk.new, Nat.le_refl _, by go_grown⟩
  · rw [if_neg h]
    have h0 : ¬ n < 0 := by omega
    have h32 : ¬ 32 < n := by omega
    have hmk := make_rel n w (by omega) (by omega)
    go_enter Tryz.func51, Tryz.ntmps51
    go_wp2
    go_ret
    exact ⟨_, rfl, Blk.new, Nat.le_refl _, by go_grown⟩
end Go.Proofs.YtcalinfdckklfaaGreatDoor

namespace Go.Proofs.YtcalinfdckklfaaGreatDoor
open Go.RowKit
attribute [local go_sem] Ext.cell Ext.frozen

theorem newN_len (xs : List Nat) : newN (xs.length : Int) = szR xs := by
  unfold newN szR
  by_cases h : 32 < xs.length
  · rw [if_pos (by omega), if_pos h]
  · rw [if_neg (by omega), if_neg h]; simp
def thing (xs : List Nat) (i : Int) : Bool := decide (0 ≤ i) && decide (i < (szR xs : Nat))
/-- Whether it has a pair of any numbers. -/
def hasI (xs : List Nat) (i k : Int) : Bool := thing xs i && thing xs k && hasR xs i.toNat k.toNat
theorem hasI_nat (xs : List Nat) (i k : Nat) : hasI xs i k = hasR xs i k := by
  unfold hasI thing hasR
  by_cases h1 : i < szR xs <;> by_cases h2 : k < szR xs <;> simp [h1, h2]

/-- The first k rows made. -/
def partN (F : Nat → Nat) (k i : Nat) : Nat := if i < k then F i else 0
theorem Row.step {w : World} {b n k : Nat} {t : TypeId} {F : Nat → Nat} (h : Row w b t n (partN F k)) (hk : k < n) {z : Int} (hz : z = (F k : Nat)) : Row (w.setCell ⟨b, k, none⟩ (.int .u32 z)) b t n (partN F (k + 1)) :=
  (h.setI hk hz).congr fun i _ => by
    unfold updN partN
    by_cases e : i = k
    · subst e; simp
    · by_cases e2 : i < k
      · rw [if_neg e, if_pos e2, if_pos (by omega)]
      · rw [if_neg e, if_neg e2, if_neg (by omega)]
theorem Row.done {w : World} {b n : Nat} {t : TypeId} {F : Nat → Nat} {f : Nat → Nat → Bool} (h : Row w b t n (partN F n)) (hF : ∀ i, i < n → F i = rowN (f i) n) : Row w b t n fun i => rowN (f i) n :=
  h.congr fun i hi => by unfold partN; rw [if_pos hi]; exact hF i hi
theorem has_at {xs : List Nat} {i k : Nat} (hi : i < szR xs) (hk : k < szR xs) (hl : i < xs.length) : xs[i].testBit k = hasR xs i k := by
  simp [hasR, hi, hk, hl]

end Go.Proofs.YtcalinfdckklfaaGreatDoor

namespace Go.Proofs.YtcalinfdckklfaaGreatDoor
open Go.RowKit
attribute [local go_sem] Ext.cell Ext.frozen

/-- What is told: a new row of n numbers, the pairs of f. -/
def Told (w : World) (n : Nat) (f : Nat → Nat → Bool) (e : Ending) (w' : World) : Prop := ∃ b, e = .returned (.slice (some ⟨b, 0, none⟩) n n) ∧ Row w' b 29 n (fun i => rowN (f i) n) ∧ w.heap.size ≤ b ∧ Below w.heap.size w w'
theorem Row.told {w : World} {b n : Nat} {t : TypeId} {f g : Nat → Nat → Bool} (h : Row w b t n fun i => rowN (f i) n) (hg : ∀ i k, i < n → k < n → f i k = g i k) : Row w b t n fun i => rowN (g i) n :=
  h.congr fun i hi => row_ext (rowN_lt _ _) (rowN_lt _ _) fun k hk => by rw [rowN_bit, rowN_bit, hg i k hi hk]

theorem or_pow {g : Nat → Bool} {n i : Nat} (hi : i < n) : rowN g n ||| 2 ^ i = rowN (fun x => g x || decide (x = i)) n := by
  refine row_is (Nat.or_lt_two_pow (rowN_lt _ _) (Nat.pow_lt_pow_right (by decide) hi)) fun k hk => ?_
  rw [Nat.testBit_or, rowN_bit, Nat.testBit_two_pow]
  by_cases e : i = k
  · subst e; simp
  · simp [hk, e, show ¬ k = i from fun h => e h.symm]
theorem pow_lt {k : Nat} (h : k < 32) : 2 ^ k < 4294967296 := Nat.lt_of_lt_of_le (Nat.pow_lt_pow_right (by decide) h) (by decide)
end Go.Proofs.YtcalinfdckklfaaGreatDoor

namespace Go.Proofs.YtcalinfdckklfaaGreatDoor
open Go.RowKit
attribute [local go_sem] Ext.cell Ext.frozen

theorem row_congr {f g : Nat → Bool} {n : Nat} (e : ∀ k, k < n → f k = g k) : rowN f n = rowN g n :=
  row_ext (rowN_lt _ _) (rowN_lt _ _) fun k hk => by rw [rowN_bit, rowN_bit, e k hk]

/-- Turned, as far as the things up to i, and of i those up to k. -/
def invTo (f : Nat → Nat → Bool) (i k y x : Nat) : Bool := (decide (x < i) || (decide (x = i) && decide (y < k))) && f x y
theorem invTo_zero (f : Nat → Nat → Bool) (y n : Nat) : rowN (invTo f 0 0 y) n = 0 := by
  refine row_ext (rowN_lt _ _) (Nat.two_pow_pos n) fun k _ => ?_
  rw [rowN_bit]; simp [invTo]
theorem invTo_next (f : Nat → Nat → Bool) {i n y : Nat} (hy : y < n) (x : Nat) : invTo f i n y x = invTo f (i + 1) 0 y x := by
  unfold invTo
  congr 1
  by_cases h1 : x < i
  · simp [h1, show x < i + 1 by omega]
  · by_cases h2 : x = i
    · subst h2; simp [hy]
    · simp [h1, h2, show ¬ x < i + 1 by omega]
theorem invTo_other (f : Nat → Nat → Bool) {i k y : Nat} (h : y ≠ k ∨ f i k = false) (x : Nat) : invTo f i (k + 1) y x = invTo f i k y x := by
  unfold invTo
  by_cases h1 : x = i
  · subst h1
    by_cases h2 : y = k
    · subst h2
      rcases h with h | h
      · exact absurd rfl h
      · rw [h, Bool.and_false, Bool.and_false]
    · have : (decide (y < k + 1)) = decide (y < k) := decide_eq_decide.2 (by omega)
      rw [this]
  · rw [decide_eq_false h1, Bool.false_and, Bool.false_and]
theorem invTo_put (f : Nat → Nat → Bool) {i k : Nat} (h : f i k = true) (x : Nat) : invTo f i (k + 1) k x = (invTo f i k k x || decide (x = i)) := by
  unfold invTo
  by_cases h1 : x = i
  · subst h1; simp [h]
  · simp [h1]

set_option maxHeartbeats 4000000 in
theorem Inv_any (p : Option Addr) (c : Nat) (xs : List Nat) (w : World) (hx : Sl U32E w (.slice p xs.length c) xs) : Calls Tryz.prog 52 #[.slice p xs.length c] w (Told w (szR xs) (invF (hasR xs))) := by
  have C := New_any (xs.length : Int) w
  rw [newN_len] at C
  have hl := szR_len xs
  have h32 := szR_le xs
  have hX : ∀ i k (h : i < xs.length), i < szR xs → k < szR xs → xs[i].testBit k = hasR xs i k := fun i k h hi hk => has_at hi hk h
  generalize hasR xs = f at *
  generalize szR xs = n at *
  have HX : Hid _ := hX
  clear hX
  go_enter Tryz.func52, Tryz.ntmps52
  go_wp2_with (go_at_call 51; refine C.mono ?_; rintro e w1 ⟨b, rfl, hR, hb, hB⟩)
  clear C
  go_loopw [11] (fun i wr => ∃ k : Nat, k ≤ n ∧ i = .int .i64 k ∧ Row wr b 29 n (fun y => rowN (invTo f k 0 y) n) ∧ Below w.heap.size w wr) (fun i _ => n - (intOf i).toNat)
  case atStart => exact ⟨0, Nat.zero_le _, rfl, hR.congr fun i _ => (invTo_zero f i n).symm, hB⟩
  case round =>
    obtain ⟨k, hk, rfl, hRr, hBr⟩ := hrel
    obtain ⟨w2, rfl⟩ : ∃ x : World, x = wr := ⟨_, rfl⟩
    by_cases hlt : k < n
    · have hlt' : (k : Int) < (n : Int) := by omega
      have hlt2 : (k : Int) < (xs.length : Int) := by omega
      go_wp2
      go_loopw [16] (fun i wr => ∃ j : Nat, j ≤ n ∧ i = .int .i64 j ∧ Row wr b 29 n (fun y => rowN (invTo f k j y) n) ∧ Below w.heap.size w wr) (fun i _ => n - (intOf i).toNat)
      case atStart => exact ⟨0, Nat.zero_le _, rfl, hRr, hBr⟩
      case round =>
        obtain ⟨j, hj, rfl, hRi, hBi⟩ := hrel
        by_cases hjn : j < n
        · have hjn' : (j : Int) < (n : Int) := by omega
          obtain ⟨hu, ab, ao, rfl, hc⟩ := (u32_at (hx.keep hBi)).2 k (by omega)
          have C1 := hasBit_any xs[k] j wr hu (by omega)
          rw [HX.out k j (by omega) hlt hjn] at C1
          generalize xs[k] = x at *
          cases hbit : f k j with
          | true =>
            rw [hbit] at C1
            have hrow : ∀ y, y < n → updN (fun y => rowN (invTo f k j y) n) j (rowN (invTo f k j j) n ||| 2 ^ k) y = rowN (invTo f k (j + 1) y) n := fun y _ => by
              unfold updN
              by_cases e : y = j
              · subst e
                rw [if_pos rfl, or_pow hlt]
                exact row_congr fun z _ => (invTo_put f hbit z).symm
              · rw [if_neg e]
                exact row_congr fun z _ => (invTo_other f (.inl e) z).symm
            have HROW : Hid _ := hrow
            clear hrow hbit
            go_wp2_with (go_at_call 50; refine C1.mono ?_; rintro e w3 ⟨rfl, hb3⟩; have hR3 := hRi.keep hb3; have hB3 := Below.thru hBi hb3 (Nat.le_refl _))
            have hcc := hR3.cell hjn
            have hz2 := hR3.lt
            have hf3 := hR3.frozen j
            have hne : ∀ w, Nonempty (Ext w) := ext_some
            have hne2 : Nonempty AnyW := anyW_some
            refine wp_region_mixL [([0, 1, 2, 3, 4, 5, 6, 7], 8, true)] [] [8] (by kernel_rfl) (by kernel_rfl) (fun _ _ d _ _ h => by cases d <;> exact h) ?_
            dsimp only [List.map, mapL, opAt]
            refine wpMixL_stage ?_
            repeat (go_big_quiet_step (fail))
            refine wpQuiet_nil ?_
            go_wp2
            refine ⟨.inl trivial, ?_⟩
            refine wpMixL_last ?_
            refine wpQuiet_nil ?_
            go_wp2
            go_roundw
            case rel => exact ⟨j + 1, by omega, by go_num, (hR3.drew.setI hjn (by rw [pow_u32 (by omega), or_u32 (rowN_u32 h32) (pow_lt (by omega))])).congr HROW.out, below_set hB3.drew hb _⟩
            case measure => simp [intOf]; omega
          | false =>
            rw [hbit] at C1
            have hrow : ∀ y, y < n → rowN (invTo f k j y) n = rowN (invTo f k (j + 1) y) n := fun y _ => row_congr fun z _ => by
              by_cases e : y = j
              · subst e; exact (invTo_other f (.inr hbit) z).symm
              · exact (invTo_other f (.inl e) z).symm
            have HROW : Hid _ := hrow
            clear hrow hbit
            go_wp2_with (go_at_call 50; refine C1.mono ?_; rintro e w3 ⟨rfl, hb3⟩)
            go_roundw
            case rel => exact ⟨j + 1, by omega, by go_num, (hRi.keep hb3).congr HROW.out, Below.thru hBi hb3 (Nat.le_refl _)⟩
            case measure => simp [intOf]; omega
        · have e : j = n := by omega
          have hjn' : ¬ (j : Int) < (n : Int) := by omega
          subst e
          go_wp2
          go_roundw
          case rel => exact ⟨k + 1, by omega, by go_num, hRi.congr fun y hy => row_congr fun z _ => invTo_next f hy z, hBi⟩
          case measure => simp [intOf]; omega
    · have e : k = n := by omega
      have hlt' : ¬ (k : Int) < (n : Int) := by omega
      subst e
      go_wp2
      go_ret
      exact ⟨b, rfl, hRr.told fun y x _ hx => by unfold invTo invF; simp [hx], hb, hBr⟩

end Go.Proofs.YtcalinfdckklfaaGreatDoor

namespace Go.Proofs.YtcalinfdckklfaaGreatDoor
open Go.RowKit
attribute [local go_sem] Ext.cell Ext.frozen

/-- The pairs of i, as far as k; and of all ahead of i. -/
def rowP (f : Nat → Nat → Bool) (i k : Nat) : List (Nat × Nat) := ((List.range k).filter (f i)).map fun y => (i, y)
def pairsTo (f : Nat → Nat → Bool) (n i : Nat) : List (Nat × Nat) := (List.range i).flatMap fun x => rowP f x n
theorem pairsTo_all (f : Nat → Nat → Bool) (n : Nat) : pairsTo f n n = pairsF n f := rfl
theorem pairsTo_succ (f : Nat → Nat → Bool) (n i : Nat) : pairsTo f n (i + 1) = pairsTo f n i ++ rowP f i n := by
  simp [pairsTo, List.range_succ, List.flatMap_append]
theorem rowP_yes {f : Nat → Nat → Bool} {i k : Nat} (h : f i k = true) : rowP f i (k + 1) = rowP f i k ++ [(i, k)] := by
  simp [rowP, List.range_succ, List.filter_append, h]
theorem rowP_no {f : Nat → Nat → Bool} {i k : Nat} (h : f i k = false) : rowP f i (k + 1) = rowP f i k := by
  simp [rowP, List.range_succ, List.filter_append, h]
theorem pair_one {w : World} {b c i k : Nat} (h0 : w.cell? ⟨b, 0, none⟩ = some (.int .i64 (i : Int))) (h1 : w.cell? ⟨b, 1, none⟩ = some (.int .i64 (k : Int))) (hc : 1 ≤ c := by decide) : Sl PairE w (.slice (some ⟨b, 0, none⟩) 1 c) [(i, k)] := by
  refine ⟨_, c, rfl, ⟨(fun e => by cases e), hc⟩, fun _ => ⟨b, 0, rfl, trivial, fun j hj => ?_⟩⟩
  have hj' : j = 0 := by simp at hj; omega
  subst hj'
  refine ⟨[.int .i64 (i : Int), .int .i64 (k : Int)], rfl, fun m u hu => ?_⟩
  match m, hu with
  | 0, hu => simp at hu; subst hu; simpa using h0
  | 1, hu => simp at hu; subst hu; simpa using h1
  | m + 2, hu => simp at hu
theorem info_pair : ((Tryz.prog.info? 83).map fun i => (i.zero, i.size, i.bytes)) = some (some (.agg #[.int .i64 0, .int .i64 0]), 2, 16) := by kernel_rfl

set_option maxHeartbeats 4000000 in
theorem Pairs_any (p : Option Addr) (c : Nat) (xs : List Nat) (w : World) (hx : Sl U32E w (.slice p xs.length c) xs) : Calls Tryz.prog 20 #[.slice p xs.length c] w fun e w' => ∃ v, e = .returned v ∧ Sl PairE w' v (pairsF (szR xs) (hasR xs)) ∧ Below w.heap.size w w' := by
  obtain ⟨i0, j1, j2, j3, j4⟩ := get_info info_pair
  have J1 : Hid _ := j1
  have J2 : Hid _ := j2
  have J3 : Hid _ := j3
  have J4 : Hid _ := j4
  clear j1 j2 j3 j4
  have C := things_any p c xs w
  have hl := szR_len xs
  have h32 := szR_le xs
  have hX : ∀ i k (h : i < xs.length), i < szR xs → k < szR xs → xs[i].testBit k = hasR xs i k := fun i k h hi hk => has_at hi hk h
  generalize hasR xs = f at *
  generalize szR xs = n at *
  have HX : Hid _ := hX
  clear hX
  go_enter Tryz.func20, Tryz.ntmps20
  go_wp2_with (go_at_call 49; refine C.mono ?_; rintro e w1 ⟨rfl, hB⟩)
  clear C
  go_loopw [3, 10] (fun a i wr => ∃ (k : Nat) (out : List (Nat × Nat)), k ≤ n ∧ i = .int .i64 k ∧ Own (fun _ => False) PairE wr w.heap.size 83 a out ∧ out = pairsTo f n k ∧ out.length ≤ k * 32 ∧ Below w.heap.size w wr) (fun _ i _ => n - (intOf i).toNat)
  case atStart => exact ⟨0, [], Nat.zero_le _, rfl, Own.nil, rfl, by simp, hB⟩
  case round =>
    obtain ⟨k, out, hk, rfl, hO, hout, hlen, hBr⟩ := hrel
    obtain ⟨w2, rfl⟩ : ∃ x : World, x = wr := ⟨_, rfl⟩
    obtain ⟨pa, ca, rfl⟩ := hO.len
    have HOUT : Hid _ := hout
    clear hout
    by_cases hlt : k < n
    · have hlt' : (k : Int) < (n : Int) := by omega
      have hlt2 : (k : Int) < (xs.length : Int) := by omega
      go_wp2
      go_loopw [3, 14] (fun a i wr => ∃ (j : Nat) (out' : List (Nat × Nat)), j ≤ n ∧ i = .int .i64 j ∧ Own (fun _ => False) PairE wr w.heap.size 83 a out' ∧ out' = pairsTo f n k ++ rowP f k j ∧ out'.length ≤ k * 32 + j ∧ Below w.heap.size w wr) (fun _ i _ => n - (intOf i).toNat)
      case atStart => exact ⟨0, out, Nat.zero_le _, rfl, hO, by rw [HOUT.out]; simp [rowP], by omega, hBr⟩
      case round =>
        obtain ⟨j, out', hj, rfl, hO', hout', hlen', hBi⟩ := hrel
        obtain ⟨pa', ca', rfl⟩ := hO'.len
        have HOUT' : Hid _ := hout'
        clear hout'
        by_cases hjn : j < n
        · have hjn' : (j : Int) < (n : Int) := by omega
          obtain ⟨hu, ab, ao, rfl, hc⟩ := (u32_at (hx.keep hBi)).2 k (by omega)
          have C1 := hasBit_any xs[k] j wr hu (by omega)
          rw [HX.out k j (by omega) hlt hjn] at C1
          generalize xs[k] = x at *
          cases hbit : f k j with
          | true =>
            rw [hbit] at C1
            have HB : Hid _ := hbit
            clear hbit
            go_wp2_with (first
              | (go_at_call 50; refine C1.mono ?_; rintro e w3 ⟨rfl, hb3⟩; have hO3 := hO'.keep hb3; have hB3 := Below.thru hBi hb3 (Nat.le_refl _))
              | (at_builtin; have hA3 := (Below.refl w3.heap.size w3).alloc (Nat.le_refl _) (.cells #[.int .i64 (k : Int), .int .i64 (j : Int)] 83); have hB4 := Below.thru hB3 hA3 (Nat.le_refl _); refine wpList_app (R := PairE) (A := fun _ => False) (xs := out') (ys := [(k, j)]) (by rfl) (.tmp 23) (.tmp 27) 74 83 i0 _ 16 (by rfl) Tryz.underlying74 J1.out J2.out J3.out J4.out (by rfl) w.heap.size (.slice pa' out'.length ca') (.slice (some ⟨w3.heap.size, 0, none⟩) 1 1) (by rfl) (by rfl) (hO3.keep hA3) (pair_one (by simp) (by simp)) (fun _ _ _ h => h) (by simp only [List.length_cons, List.length_nil]; omega) (by decide) hB4.size ?_; intro p5 c5 w5 hO5 hg5 hat5))
            go_roundw
            case rel => exact ⟨j + 1, out' ++ [(k, j)], by omega, by go_num, by simpa using hO5, by rw [HOUT'.out, rowP_yes HB.out, List.append_assoc], by simp only [List.length_append, List.length_cons, List.length_nil]; omega, hB4.grown hg5 hB4.size (fun q hq => ((hO3.keep hA3).lt q hq).1)⟩
            case measure => simp [intOf]; omega
          | false =>
            rw [hbit] at C1
            have HB : Hid _ := hbit
            clear hbit
            go_wp2_with (go_at_call 50; refine C1.mono ?_; rintro e w3 ⟨rfl, hb3⟩)
            go_roundw
            case rel => exact ⟨j + 1, out', by omega, by go_num, hO'.keep hb3, by rw [HOUT'.out, rowP_no HB.out], by omega, Below.thru hBi hb3 (Nat.le_refl _)⟩
            case measure => simp [intOf]; omega
        · have e : j = n := by omega
          have hjn' : ¬ (j : Int) < (n : Int) := by omega
          subst e
          go_wp2
          go_roundw
          case rel => exact ⟨k + 1, out', by omega, by go_num, hO', by rw [HOUT'.out, pairsTo_succ], by omega, hBi⟩
          case measure => simp [intOf]; omega
    · have e : k = n := by omega
      have hlt' : ¬ (k : Int) < (n : Int) := by omega
      subst e
      go_wp2
      go_ret
      exact ⟨_, rfl, by rw [← pairsTo_all, ← HOUT.out]; exact hO.sl.any, hBr⟩
end Go.Proofs.YtcalinfdckklfaaGreatDoor
