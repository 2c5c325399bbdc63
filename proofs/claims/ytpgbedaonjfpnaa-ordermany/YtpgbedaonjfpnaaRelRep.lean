/- Laws of no program: numbers of 32 bits and pairs in slices; a row of numbers that a call has made, and writes into. -/
import Derived.Test.YtpgbedaonjfpnaaRepN
import Derived.Test.YtpgbedaonjfpnaaRepOpen
import Derived.Test.YtpgbedaonjfpnaaRelMath2
namespace Go.Proofs.Ytpgbedaonjfpnaa
open Go.RowKit

/-- Numbers of 32 bits. -/
def U32E : Elem Nat where
  size := 1
  pos := Nat.one_pos
  cs := fun _ _ x c => c = [.int .u32 (x : Int)] ∧ x < 4294967296
  len := fun h => by rw [h.1]; rfl
  one := fun h u hu => by rw [h.1] at hu; simp at hu; subst hu; rfl
  keep := fun h _ => h
  mono := fun _ h => h
  lt := fun h => h
/-- Two numbers. -/
def PairE : Elem (Nat × Nat) where
  size := 2
  pos := by decide
  cs := fun _ _ x c => c = [.int .i64 (x.1 : Int), .int .i64 (x.2 : Int)]
  len := fun h => by subst h; rfl
  one := fun h u hu => by subst h; simp at hu; rcases hu with rfl | rfl <;> rfl
  keep := fun h _ => h
  mono := fun _ h => h
  lt := fun h => h

theorem u32_at {A : Nat → Prop} {w : World} {p : Option Addr} {n c : Nat} {xs : List Nat} (h : SlA A U32E w (.slice p n c) xs) : n = xs.length ∧ ∀ k (hk : k < xs.length), xs[k] < 4294967296 ∧ ∃ b o, p = some ⟨b, o, none⟩ ∧ w.cell? ⟨b, o + k, none⟩ = some (.int .u32 (xs[k] : Nat)) := by
  obtain ⟨h1, h2⟩ := h.at
  refine ⟨h1, fun k hk => ?_⟩
  obtain ⟨b, o, rfl, _, cs, ⟨h3, h5⟩, h4⟩ := h2 k hk
  have := h4 0 _ (by rw [h3]; rfl)
  exact ⟨h5, b, o, rfl, by simpa [U32E] using this⟩
theorem u32_lt {A : Nat → Prop} {w : World} {v : Value} {xs : List Nat} (h : SlA A U32E w v xs) : ∀ x ∈ xs, x < 4294967296 := by
  intro x hx
  obtain ⟨i, hi, rfl⟩ := List.getElem_of_mem hx
  obtain ⟨p, c, rfl⟩ := h.len
  exact ((u32_at h).2 i hi).1
theorem pair_at {A : Nat → Prop} {w : World} {p : Option Addr} {n c : Nat} {xs : List (Nat × Nat)} (h : SlA A PairE w (.slice p n c) xs) : n = xs.length ∧ ∀ k (hk : k < xs.length), ∃ b o, p = some ⟨b, o, none⟩ ∧ w.cell? ⟨b, o + k * 2, none⟩ = some (.int .i64 (xs[k].1 : Nat)) ∧ w.cell? ⟨b, o + k * 2 + 1, none⟩ = some (.int .i64 (xs[k].2 : Nat)) := by
  obtain ⟨h1, h2⟩ := h.at
  refine ⟨h1, fun k hk => ?_⟩
  obtain ⟨b, o, rfl, _, cs, h3, h4⟩ := h2 k hk
  have e : cs = [.int .i64 (xs[k].1 : Int), .int .i64 (xs[k].2 : Int)] := h3
  subst e
  exact ⟨b, o, rfl, by simpa [PairE] using h4 0 _ rfl, by simpa [PairE] using h4 1 _ rfl⟩

/-- A row of n numbers, g's, in a block of its own. -/
def rowsV (n : Nat) (g : Nat → Nat) : Array Value := ((List.range n).map fun i => Value.int .u32 (g i : Int)).toArray
def Row (w : World) (b : Nat) (t : TypeId) (n : Nat) (g : Nat → Nat) : Prop := Blk w b (rowsV n g) t
/-- One of them another. -/
def updN (g : Nat → Nat) (k x : Nat) (i : Nat) : Nat := if i = k then x else g i

section
variable {w w' : World} {b n i : Nat} {t : TypeId} {g g' : Nat → Nat}
theorem Row.lt (h : Row w b t n g) : b < w.heap.size := Blk.lt h
theorem Row.cell (h : Row w b t n g) (hi : i < n) : w.cell? ⟨b, i, none⟩ = some (.int .u32 (g i : Nat)) := by
  rw [Blk.cell h i]; simp [rowsV, hi]
theorem Row.frozen (h : Row w b t n g) (i : Nat) : w.frozen? ⟨b, i, none⟩ = false := Blk.frozen h i
theorem Row.keep (h : Row w b t n g) (hb : Below w.heap.size w w') : Row w' b t n g := Blk.keep h hb
theorem Row.drew (h : Row w b t n g) : Row w.drew b t n g := h
theorem Row.keepAt {B : Nat} (h : Row w b t n g) (hb : Below B w w') (hB : b < B) : Row w' b t n g := by
  unfold Row Blk at *; rw [hb.block b hB]; exact h
theorem Row.congr (h : Row w b t n g) (hg : ∀ i, i < n → g i = g' i) : Row w b t n g' := by
  have : rowsV n g' = rowsV n g := by
    unfold rowsV
    congr 1
    exact List.map_congr_left fun i hi => by rw [hg i (by simpa using hi)]
  unfold Row; rw [this]; exact h
theorem Row.set (h : Row w b t n g) (_hi : i < n) (x : Nat) : Row (w.setCell ⟨b, i, none⟩ (.int .u32 (x : Nat))) b t n (updN g i x) := by
  have h1 := Blk.set (i := i) h (.int .u32 (x : Int))
  have : (rowsV n g).setIfInBounds i (.int .u32 (x : Int)) = rowsV n (updN g i x) := by
    unfold rowsV
    rw [List.setIfInBounds_toArray]
    congr 1
    apply List.ext_getElem (by simp)
    intro j h1 h2
    simp only [List.getElem_set, List.getElem_map, List.getElem_range, updN]
    by_cases e : i = j
    · subst e; simp
    · rw [if_neg e, if_neg (fun h => e h.symm)]
  rw [this] at h1
  exact h1
theorem Row.setI (h : Row w b t n g) (hi : i < n) {z : Int} {x : Nat} (hz : z = (x : Int)) : Row (w.setCell ⟨b, i, none⟩ (.int .u32 z)) b t n (updN g i x) := by subst hz; exact h.set hi x
theorem Row.slA {A : Nat → Prop} (h : Row w b t n g) (hA : A b) (hg : ∀ i, i < n → g i < 4294967296) : SlA A U32E w (.slice (some ⟨b, 0, none⟩) n n) ((List.range n).map g) := by
  refine ⟨_, n, by simp, ⟨(fun e => by cases e), by simp⟩, fun _ => ⟨b, 0, rfl, hA, fun i hi => ?_⟩⟩
  have hi' : i < n := by simpa using hi
  refine ⟨_, ⟨rfl, by simpa using hg i hi'⟩, fun j u hu => ?_⟩
  match j, hu with
  | 0, hu => simp at hu; subst hu; simpa [U32E] using h.cell hi'
  | j + 1, hu => simp at hu
theorem below_set {B : Nat} {a : World} (h : Below B a w) (hB : B ≤ b) (v : Value) : Below B a (w.setCell ⟨b, i, none⟩ v) :=
  ⟨h.os, h.tape, h.output, Nat.le_trans h.size (by simp [World.setCell]), fun k hk => (Below.heap_setCell _ _ _ _ (by simp; omega)).trans (h.block k hk)⟩
end

/-- Bits of numbers of 32 bits. -/
theorem and_u32 {a b : Nat} (ha : a < 4294967296) (hb : b < 4294967296) : bits .and .u32 (a : Int) (b : Int) = ((a &&& b : Nat) : Int) := by
  have hx : a &&& b < 2 ^ 32 := Nat.and_lt_two_pow _ (by omega)
  have h1 : (BitVec.ofInt 32 (a : Int)).toNat = a := by
    rw [BitVec.ofInt_natCast, BitVec.toNat_ofNat]; exact Nat.mod_eq_of_lt (by omega)
  have h2 : (BitVec.ofInt 32 (b : Int)).toNat = b := by
    rw [BitVec.ofInt_natCast, BitVec.toNat_ofNat]; exact Nat.mod_eq_of_lt (by omega)
  show IntKind.u32.wrap ((BitVec.ofInt 32 (a : Int) &&& BitVec.ofInt 32 (b : Int)).toNat : Int) = _
  rw [BitVec.toNat_and, h1, h2, IntKind.wrap_u32]
  omega
theorem or_u32 {a b : Nat} (ha : a < 4294967296) (hb : b < 4294967296) : bits .or .u32 (a : Int) (b : Int) = ((a ||| b : Nat) : Int) := by
  have hx : a ||| b < 2 ^ 32 := Nat.or_lt_two_pow (by omega) (by omega)
  have h1 : (BitVec.ofInt 32 (a : Int)).toNat = a := by
    rw [BitVec.ofInt_natCast, BitVec.toNat_ofNat]; exact Nat.mod_eq_of_lt (by omega)
  have h2 : (BitVec.ofInt 32 (b : Int)).toNat = b := by
    rw [BitVec.ofInt_natCast, BitVec.toNat_ofNat]; exact Nat.mod_eq_of_lt (by omega)
  show IntKind.u32.wrap ((BitVec.ofInt 32 (a : Int) ||| BitVec.ofInt 32 (b : Int)).toNat : Int) = _
  rw [BitVec.toNat_or, h1, h2, IntKind.wrap_u32]
  omega
theorem shr_bit {x k : Nat} (hx : x < 4294967296) : (bits .and .u32 ((x : Int) / 2 ^ min k 32) 1 == 1) = x.testBit k := by
  have e : (x : Int) / 2 ^ min k 32 = ((x >>> k : Nat) : Int) := by
    rw [Nat.shiftRight_eq_div_pow]
    by_cases hk : k ≤ 32
    · rw [Nat.min_eq_left hk]; simp
    · have h1 : x / 2 ^ k = 0 := Nat.div_eq_of_lt (Nat.lt_of_lt_of_le hx (Nat.le_trans (show 4294967296 ≤ 2 ^ 32 by decide) (Nat.pow_le_pow_right (by decide) (by omega))))
      rw [Nat.min_eq_right (by omega), h1]
      omega
  have hs : x >>> k < 4294967296 := Nat.lt_of_le_of_lt (by rw [Nat.shiftRight_eq_div_pow]; exact Nat.div_le_self _ _) hx
  have h1 := and_u32 (a := x >>> k) (b := 1) hs (by decide)
  rw [e, show (1 : Int) = ((1 : Nat) : Int) from rfl, h1]
  unfold Nat.testBit
  rw [Nat.and_comm, Nat.one_and_eq_mod_two]
  rcases Nat.mod_two_eq_zero_or_one (x >>> k) with h | h <;> simp [h]
theorem pow_u32 {k : Nat} (h : k < 32) : ((2 : Int) ^ k % 4294967296) = ((2 ^ k : Nat) : Int) := by
  have : 2 ^ k < 4294967296 := Nat.lt_of_lt_of_le (Nat.pow_lt_pow_right (by decide) h) (by decide)
  rw [show ((2 : Int) ^ k) = ((2 ^ k : Nat) : Int) by simp]
  generalize 2 ^ k = z at *
  omega
theorem ones_u32 {n : Nat} (h : n ≤ 32) : (((2 : Int) ^ n % 4294967296 - 1) % 4294967296) = ((2 ^ n - 1 : Nat) : Int) := by
  by_cases hn : n = 32
  · subst hn; decide
  · have h1 : n < 32 := by omega
    rw [pow_u32 h1]
    have h2 : 2 ^ n < 4294967296 := Nat.lt_of_lt_of_le (Nat.pow_lt_pow_right (by decide) h1) (by decide)
    have h3 : 0 < 2 ^ n := Nat.two_pow_pos n
    generalize 2 ^ n = z at *
    omega

/-- Rows below 2^n. -/
theorem rowN_u32 {g : Nat → Bool} {n : Nat} (h : n ≤ 32) : rowN g n < 4294967296 := Nat.lt_of_lt_of_le (rowN_lt g n) (Nat.le_trans (Nat.pow_le_pow_right (by decide) h) (by decide))
theorem Row.mk {A : Nat → Prop} {w : World} {b n : Nat} {t : TypeId} {f : Nat → Nat → Bool} (h : Row w b t n fun i => rowN (f i) n) (hA : A b) (hn : n ≤ 32) : SlA A U32E w (.slice (some ⟨b, 0, none⟩) n n) (mkR n f) :=
  h.slA hA fun _ _ => rowN_u32 hn
end Go.Proofs.Ytpgbedaonjfpnaa
