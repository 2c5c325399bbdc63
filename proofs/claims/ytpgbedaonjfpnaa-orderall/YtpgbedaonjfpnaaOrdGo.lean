/- The contract of order.linear's closure that calls itself. -/
import Derived.Test.YtpgbedaonjfpnaaOrdCall
import Derived.Test.YtpgbedaonjfpnaaOrdMath2
import Derived.Test.YtpgbedaonjfpnaaMix
import Derived.Test.YtpgbedaonjfpnaaMixL
namespace Go.Proofs.Ytpgbedaonjfpnaa
open Go.RowKit Go.Shelf

theorem inv_len (xs : List Nat) : (invL xs).length = szR xs := mkR_len _ _
theorem may_stands {xs l : List Nat} (hl : ∀ a ∈ l, a < szR xs) (k : Nat) : mayB (invL xs) (mask l) k = (decide (k < szR xs) && stands (szR xs) (hasR xs) l k) := by
  have h32 := szR_le xs
  unfold mayB
  rw [inv_len]
  by_cases hk : k < szR xs
  · have e1 : (invL xs).getD k 0 = rowN (invF (hasR xs) k) (szR xs) := mkR_at _ hk
    rw [e1, decide_eq_true hk, Bool.true_and, Bool.true_and, mask_bit]
    unfold stands
    congr 1
    rw [Bool.eq_iff_iff, andNot_iff (rowN_u32 h32) (mask_lt fun a ha => by have := hl a ha; omega)]
    simp only [rowN_bit, Bool.and_eq_true, decide_eq_true_eq, List.all_eq_true, List.mem_range, Bool.or_eq_true, Bool.not_eq_true']
    constructor
    · intro h i hi
      cases hf : hasR xs i k with
      | false => exact .inl rfl
      | true => exact .inr (by rw [← mask_bit]; exact h i ⟨hi, hf⟩)
    · rintro h i ⟨hi, hf⟩
      rcases h i hi with h1 | h1
      · rw [show hasR xs i k = true from hf] at h1; cases h1
      · rw [mask_bit]; exact h1
  · rw [decide_eq_false hk, Bool.false_and, Bool.false_and]

section
variable (J Jx : (Nat → Prop) → List (List Nat × Nat) → World → Prop) (lp N : Nat) (xs : List Nat) (bb ba by' bg base : Nat) (pa : Option Addr) (ca : Nat) (C : Nat → Prop)

/-- What the closure comes to. -/
def GoAt (W : World) (A : Nat → Prop) (vb : Value) (l : List Nat) (pre : List (List Nat × Nat)) (ls : List (List Nat)) (b : Bool) (W' : World) : Prop :=
  ∃ A' vb' items, ItRun 24 3 base bb W A vb W' A' vb' l ∧ ((b = true ∧ items.map Prod.fst = ls ∧ J A' (pre ++ items) W') ∨ (b = false ∧ items.map Prod.fst <+: ls ∧ Jx A' (pre ++ items) W'))
def GoEnds (W : World) (A : Nat → Prop) (vb : Value) (l : List Nat) (pre : List (List Nat × Nat)) (ls : List (List Nat)) (e : Ending) (W' : World) : Prop :=
  ∃ b, e = .returned (.bool b) ∧ GoAt J Jx bb base W A vb l pre ls b W'

theorem go_yield (hJ : Stays J) (hY : Yields Try.prog 3 lp N J Jx) (l : List Nat) (W : World) (A : Nat → Prop) (vb : Value) (pre : List (List Nat × Nat))
    (I : ItInv 24 3 base bb C W A vb l) (hj : J A pre W) (hN : pre.length + 1 ≤ N) (v : Value) (w1 : World) (hv : OwnN w1 W.heap.size 3 v l) (hn : v.ownBlock = none → v = .slice none 0 0) (hb : Below W.heap.size W w1) :
    YieldAt Fence.wide 0 Try.prog lp #[v] w1 (GoEnds J Jx bb base W A vb l pre [l]) := by
  have hs := hb.size
  have hx2 : ∀ z, v.ownBlock.getD w1.heap.size = z → W.heap.size ≤ z := by
    intro z hz
    cases h : v.ownBlock with
    | none => rw [h] at hz; simp at hz; omega
    | some k => rw [h] at hz; simp at hz; subst hz; exact (hv.lt k h).1
  obtain ⟨z, hz⟩ : ∃ z, v.ownBlock.getD w1.heap.size = z := ⟨_, rfl⟩
  have hzW := hx2 z hz
  have hrow : RowV 3 w1 v (l, z) := by
    refine ⟨hv.rebase (fun _ _ => Nat.zero_le _), ?_⟩
    cases h : v.ownBlock with
    | none =>
      have e := hn h
      subst e
      obtain ⟨p, c, e⟩ := hv.len
      simp only [Value.slice.injEq] at e
      exact .inr ⟨rfl, List.length_eq_zero_iff.1 e.2.1.symm⟩
    | some k => rw [h] at hz; simp at hz; exact .inl (by rw [hz])
  refine (hY A pre (l, z) v w1 (hJ A pre W w1 hj (Below.only hb)) (fun b ha => by have := I.alt b ha; omega) hrow (fun ha => by have := I.alt _ ha; simp at this; omega) (by omega)).mono ?_
  rintro e W' ⟨A', h1, h2, h3, h4⟩
  have hs2 := h3.size
  have hv1 := I.own.keepG (Below.grownBy hb) (fun _ _ => by simp)
  have hrun : ItRun 24 3 base bb W A vb W' A' vb l := by
    refine ⟨h1, fun b ha => ?_, ?_, ?_, ?_, fun b hb => .inl hb, fun b hb ha => ?_⟩
    · rcases h2 b ha with h | h | h
      · exact .inl h
      · subst h; exact .inr hzW
      · exact .inr (by omega)
    · exact (Below.only hb).trans h3 fun b ha => .inl (.inl ha)
    · exact (I.blk.keep hb).only h3 fun ha => (I.dA bb ha).2.1 rfl
    · exact hv1.only h3 fun b hb ha => (I.dA b ha).2.2 hb
    · have := (I.own.lt b hb).2
      rcases h2 b ha with h | h | h
      · exact (I.dA b h).2.2 hb
      · simp at h; omega
      · omega
  rcases h4 with ⟨rfl, h4⟩ | ⟨rfl, h4⟩
  · exact ⟨true, rfl, A', vb, [(l, z)], hrun, .inl ⟨rfl, rfl, h4⟩⟩
  · exact ⟨false, rfl, A', vb, [(l, z)], hrun, .inr ⟨rfl, ⟨[], by simp⟩, h4⟩⟩

set_option maxRecDepth 100000 in
set_option maxHeartbeats 2000000 in
theorem goEnd_any (hJ : Stays J) (hY : Yields Try.prog 3 lp N J Jx) (l : List Nat) (W : World) (A : Nat → Prop) (vb : Value) (pre : List (List Nat × Nat)) (hl : l.length = szR xs)
    (F : ItFix 37 33 61 62 W (invL xs) bb ba by' bg lp pa ca C) (I : ItInv 24 3 base bb C W A vb l) (hj : J A pre W) (hN : pre.length + 1 ≤ N) :
    Calls Try.prog 37 #[.int .u32 (mask l : Nat), .pointer (some ⟨bb, 0, none⟩), .pointer (some ⟨ba, 0, none⟩), .pointer (some ⟨by', 0, none⟩), .pointer (some ⟨bg, 0, none⟩)] W (GoEnds J Jx bb base W A vb l pre [l]) := by
  have hl32 : l.length ≤ 32 := by have := szR_le xs; omega
  have hYY := go_yield J Jx lp N bb base C hJ hY l W A vb pre I hj hN
  have hsl := I.own.sl
  have c1 := I.blk.cell 0
  have c2 := F.ahead.cell 0
  have c3 := F.yld.cell 0
  have t1 : ((l.length : Int) == ((invL xs).length : Int)) = true := by rw [inv_len xs, hl]; simp
  obtain ⟨pb, cb, rfl⟩ := I.own.len
  generalize invL xs = rs at *
  simp only [List.getElem?_toArray, List.getElem?_cons_zero] at c1 c2 c3
  clear hl I F hj hN hY hJ
  have hm : Try.prog.follows .mixedOrders = true := by kernel_rfl
  have HY : Hid _ := hYY
  clear hYY
  have HS : Hid _ := hsl.any
  clear hsl
  go_enter Try.func37, Try.ntmps37
  go_wp2
  refine (wpIn_wide (n := 3)).1 ?_
  gi_region_with_o (first
    | (refine (RoundIn.wideAny hR).mono ?_; clear hR; rintro e W' ⟨bo, rfl, hG⟩)
    | ((try refine ⟨trivial, ?_⟩); gi_at_call 38; refine (callsIn_wide.2 (Clone_nat _ _ _ _ (Sl.keep HS.out (Below.refl _ _).drew) (by omega))).mono ?_; rintro e w1 ⟨v, rfl, hv, hn, hb⟩; obtain ⟨fn, tmps, assign, body, hy, hR⟩ := HY.out v w1 hv hn ⟨hb.os, hb.tape, hb.output, hb.size, hb.block⟩; have c3' := cell_keep (w := World.drew W) c3 hb))
  all_goals (go_wp2; go_ret; exact ⟨bo, rfl, hG⟩)
end
end Go.Proofs.Ytpgbedaonjfpnaa
