/- What is told, as lists: the program's and the document's answers are the same lists; their pairs. -/
import Derived.Test.YtpgbedaonjfpnaaRelRef4
namespace Go.Proofs.Ytpgbedaonjfpnaa
open Go.RowKit

/-- A list of numbers is told. -/
def Tl (w : World) (r : List Nat) (e : Ending) (w' : World) : Prop := ∃ p c, e = .returned (.slice p r.length c) ∧ Sl U32E w' (.slice p r.length c) r ∧ Below w.heap.size w w'
theorem Told.l {w : World} {n : Nat} {f : Nat → Nat → Bool} {r : List Nat} (hr : mkR n f = r) (hn : n ≤ 32) (e : Ending) (w' : World) (h : Told w n f e w') : Tl w r e w' := by
  obtain ⟨b, rfl, hR, _, hB⟩ := h
  subst hr
  have hS := hR.mk (A := fun _ => True) trivial hn
  refine ⟨some ⟨b, 0, none⟩, n, by rw [mkR_len], by rw [mkR_len]; exact hS, hB⟩
theorem Tells.l {w : World} {n : Nat} {f : Nat → Nat → Bool} {r : List Nat} (hr : mkR n f = r) (e : Ending) (w' : World) (h : Tells w n f e w') : Tl w r e w' := by
  obtain ⟨v, rfl, hS, hB⟩ := h
  subst hr
  obtain ⟨p, c, rfl⟩ := hS.len
  exact ⟨p, c, rfl, hS, hB⟩

def newL (n : Int) : List Nat := mkR (newN n) fun _ _ => false
def putL (xs : List Nat) (i k : Int) : List Nat := mkR (szR xs) (putF (hasR xs) i k)
def orL (xs ys : List Nat) : List Nat := mkR (bothN xs ys) (orF (hasR xs) (hasR ys))
def andL (xs ys : List Nat) : List Nat := mkR (bothN xs ys) (andF (hasR xs) (hasR ys))
def seqL (xs ys : List Nat) : List Nat := mkR (bothN xs ys) (seqF (bothN xs ys) (hasR xs) (hasR ys))
def invL (xs : List Nat) : List Nat := mkR (szR xs) (invF (hasR xs))
def plusL (xs : List Nat) : List Nat := mkR (szR xs) (plusF (szR xs) (hasR xs))
def onlyL (xs : List Nat) (s t : Nat) : List Nat := mkR (szR xs) (andF (hasR xs) (crossF s t))
def crossL (m : Int) (s t : Nat) : List Nat := mkR (newN m) (crossF s t)
def acyL (xs : List Nat) : Bool := acyF (szR xs) (hasR xs)
def pairsL (xs : List Nat) : List (Nat × Nat) := pairsF (szR xs) (hasR xs)
theorem newN_le (m : Int) : newN m ≤ 32 := by unfold newN; split <;> omega

section
variable (p q : Option Addr) (c d : Nat) (xs ys : List Nat) (w : World)
theorem New_l (n : Int) : Calls Try.prog 14 #[.int .i64 n] w (Tl w (newL n)) :=
  (New_any n w).mono fun e w' ⟨b, he, hR, hb, hB⟩ => Told.l (f := fun _ _ => false) rfl (newN_le n) e w' ⟨b, he, hR.congr fun i _ => by
    refine row_ext (Nat.two_pow_pos _) (rowN_lt _ _) fun k _ => ?_
    rw [rowN_bit]; simp, hb, hB⟩
theorem Put_l (hx : Sl U32E w (.slice p xs.length c) xs) (i k : Int) : Calls Try.prog 21 #[.slice p xs.length c, .int .i64 i, .int .i64 k] w (Tl w (putL xs i k)) := (Put_any p c xs i k w hx).mono (Told.l rfl (szR_le xs))
theorem Inv_l (hx : Sl U32E w (.slice p xs.length c) xs) : Calls Try.prog 20 #[.slice p xs.length c] w (Tl w (invL xs)) := (Inv_any p c xs w hx).mono (Told.l rfl (szR_le xs))
theorem Plus_l (hx : Sl U32E w (.slice p xs.length c) xs) : Calls Try.prog 19 #[.slice p xs.length c] w (Tl w (plusL xs)) := (Plus_any p c xs w hx).mono (Told.l rfl (szR_le xs))
theorem Only_l (hx : Sl U32E w (.slice p xs.length c) xs) (s t : Nat) (hs : s < 4294967296) (ht : t < 4294967296) : Calls Try.prog 17 #[.slice p xs.length c, .int .u32 (s : Int), .int .u32 (t : Int)] w (Tl w (onlyL xs s t)) := (Only_any p c xs s t w hx hs ht).mono (Told.l rfl (szR_le xs))
theorem Acyclic_l (hx : Sl U32E w (.slice p xs.length c) xs) : Calls Try.prog 16 #[.slice p xs.length c] w fun e w' => e = .returned (.bool (acyL xs)) ∧ Below w.heap.size w w' := Acyclic_any p c xs w hx
theorem Pairs_l (hx : Sl U32E w (.slice p xs.length c) xs) : Calls Try.prog 18 #[.slice p xs.length c] w fun e w' => ∃ p' c', e = .returned (.slice p' (pairsL xs).length c') ∧ Sl PairE w' (.slice p' (pairsL xs).length c') (pairsL xs) ∧ Below w.heap.size w w' :=
  (Pairs_any p c xs w hx).mono fun e w' ⟨v, he, hS, hB⟩ => by
    obtain ⟨p', c', rfl⟩ := hS.len
    exact ⟨p', c', he, hS, hB⟩
theorem And_l (hx : Sl U32E w (.slice p xs.length c) xs) (hy : Sl U32E w (.slice q ys.length d) ys) : Calls Try.prog 30 #[.slice p xs.length c, .slice q ys.length d] w (Tl w (andL xs ys)) := (And_any p q c d xs ys w hx hy).mono (Told.l rfl (bothN_le xs ys))
end
section
variable (w : World)
theorem Cross_l (m : Int) (s t : Nat) (hs : s < 4294967296) (ht : t < 4294967296) : Calls Try.prog 31 #[.int .i64 m, .int .u32 (s : Int), .int .u32 (t : Int)] w (Tl w (crossL m s t)) := (Cross_any m s t w hs ht).mono (Told.l rfl (newN_le m))
end

/-- The pairs of what is told. -/
theorem mkR_fun {n : Nat} {F : Nat → Nat → Bool} (hn : n ≤ 32) (hF : Within n F) : hasR (mkR n F) = F := by
  funext i k
  rw [mkR_has F hn]
  cases h : F i k with
  | false => simp
  | true => obtain ⟨h1, h2⟩ := hF i k h; simp [h1, h2]
section
variable {xs ys : List Nat}
theorem inv_sz : szR (invL xs) = szR xs := mkR_sz _ (szR_le xs)
theorem inv_has : hasR (invL xs) = invF (hasR xs) := mkR_fun (szR_le xs) (within_inv (has_within xs))
theorem plus_sz : szR (plusL xs) = szR xs := mkR_sz _ (szR_le xs)
theorem plus_hasL : hasR (plusL xs) = plusF (szR xs) (hasR xs) := mkR_fun (szR_le xs) (within_plus (has_within xs))
theorem only_sz {s t : Nat} : szR (onlyL xs s t) = szR xs := mkR_sz _ (szR_le xs)
theorem only_has {s t : Nat} : hasR (onlyL xs s t) = andF (hasR xs) (crossF s t) := mkR_fun (szR_le xs) (within_and (has_within xs))
theorem put_sz {i k : Int} : szR (putL xs i k) = szR xs := mkR_sz _ (szR_le xs)
theorem or_sz (h : szR xs = szR ys) : szR (orL xs ys) = szR xs := by unfold orL; rw [bothN_eq h]; exact mkR_sz _ (szR_le xs)
theorem or_has (h : szR xs = szR ys) : hasR (orL xs ys) = orF (hasR xs) (hasR ys) := by
  unfold orL; rw [bothN_eq h]
  exact mkR_fun (szR_le xs) (within_or (has_within xs) (by rw [h]; exact has_within ys))
theorem and_sz (h : szR xs = szR ys) : szR (andL xs ys) = szR xs := by unfold andL; rw [bothN_eq h]; exact mkR_sz _ (szR_le xs)
theorem and_has (h : szR xs = szR ys) : hasR (andL xs ys) = andF (hasR xs) (hasR ys) := by
  unfold andL; rw [bothN_eq h]
  exact mkR_fun (szR_le xs) (within_and (has_within xs))
theorem seq_sz (h : szR xs = szR ys) : szR (seqL xs ys) = szR xs := by unfold seqL; rw [bothN_eq h]; exact mkR_sz _ (szR_le xs)
theorem seq_has (h : szR xs = szR ys) : hasR (seqL xs ys) = seqF (szR xs) (hasR xs) (hasR ys) := by
  unfold seqL; rw [bothN_eq h]
  exact mkR_fun (szR_le xs) (within_seq (has_within xs) (by rw [h]; exact has_within ys))
theorem same_of (h1 : szR xs = szR ys) (h2 : hasR xs = hasR ys) : cleanR xs = cleanR ys := clean_eq.2 ⟨h1, fun i k => by rw [h2]⟩
theorem or_len (h : szR xs = szR ys) (h32 : xs.length ≤ 32) : (orL xs ys).length = xs.length := by
  unfold orL; rw [mkR_len, bothN_eq h]; unfold szR; rw [if_neg (by omega)]
theorem pairsL_len (xs : List Nat) : (pairsL xs).length ≤ 1024 := pairsF_len _ (szR_le xs)
end
end Go.Proofs.Ytpgbedaonjfpnaa
