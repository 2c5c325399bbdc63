/- On which loads hangs what an instruction makes. -/
import Derived.Test.YtkiefbldkidobaaDoorRegsRep
import Derived.Test.YtkiefbldkidobaaDoorInsUses
import Derived.Test.YtkiefbldkidobaaDoorInts
import Derived.Test.YtkiefbldkidobaaDoorRep
namespace Go.Proofs.YtkiefbldkidobaaDoor
open Go.RowKit

/-- The sets of some registers, together. -/
def hangF (d : Nat → Int) : List Int → Int → Int
  | [], acc => acc
  | n :: l, acc => hangF d l (bits .or .u32 acc (atR d n))

theorem drop_cons {l : List Int} {k : Nat} (h : k < l.length) : l.drop k = l.getD k 0 :: l.drop (k + 1) := by
  rw [List.drop_eq_getElem_cons h]
  simp [h]

set_option maxHeartbeats 2000000 in
theorem hangs_any (v d : Nat → Int) (op xd a b l i : Int) (w : World) (T : Tab w) : Calls Tryd.prog 61 #[fileV v d, .agg #[.int .i64 op, .int .i64 xd, .int .i64 a, .int .i64 b, .int .i64 l, .int .i64 i]] w fun e w' =>
    e = .returned (.int .u32 (hangF d (usesL op a b) 0)) ∧ Below w.heap.size w w' := by
  generalize hG : hangF d (usesL op a b) 0 = G
  obtain ⟨xs, hxs⟩ : ∃ xs, usesL op a b = xs := ⟨_, rfl⟩
  rw [hxs] at hG
  have hn : xs.length ≤ 2 := by
    rw [← hxs]
    unfold usesL
    rw [List.length_append]
    split <;> split <;> simp
  have HX : Hid _ := hxs
  have HG : Hid _ := hG
  clear hG hxs
  have hGet := fun n w => Get_any v d n w
  unfold fileV at hGet ⊢
  have HGet : Hid _ := hGet
  clear hGet
  go_enter Tryd.func61, Tryd.ntmps61
  go_wp2_with fail
  refine (Uses_any _ _ _ _ _ _ _ ((T.alloc _).alloc _)).mono ?_
  rintro e w1 ⟨v1, rfl, hown, hb⟩
  rw [HX.out] at hown
  obtain ⟨hc, hf⟩ := bcell hb
  have B1 : Below w.heap.size w w1 := (((Below.refl _ _).alloc (Nat.le_refl _) _).alloc (by simp) _).trans (hb.mono (by simp; omega))
  have hz1 : w.heap.size + 1 < w1.heap.size := by have := hb.size; simp at this; omega
  have HS : Hid (IntSl w1 _ _) := ints_own hown
  clear hown
  have kF : Blk w1 w.heap.size #[.int .i64 (v 0), .int .i64 (v 1), .int .i64 (v 2), .int .i64 (v 3), .int .u32 (d 0), .int .u32 (d 1), .int .u32 (d 2), .int .u32 (d 3)] 38 := (Blk.new.alloc _).keep hb
  obtain ⟨p, cap, hv⟩ := intsl_len HS.out
  subst hv
  go_wp2
  go_loopw [5, 13] (fun r i wr => ∃ (k : Nat) (z : Int), k ≤ xs.length ∧ i = .int .i64 k ∧ r = .int .u32 z ∧ hangF d (xs.drop k) z = G ∧ Below w1.heap.size w1 wr) (fun _ i _ => xs.length - (intOf i).toNat)
  case atStart => exact ⟨0, 0, Nat.zero_le _, rfl, rfl, HG.out, Below.refl _ _⟩
  case round =>
    obtain ⟨k, z, hk, rfl, rfl, hg, hB⟩ := hrel
    have HGk : Hid _ := hg
    clear hg
    have kR := kF.keep hB
    have c0 := kR.cell 0
    have c1 := kR.cell 1
    have c2 := kR.cell 2
    have c3 := kR.cell 3
    have c4 := kR.cell 4
    have c5 := kR.cell 5
    have c6 := kR.cell 6
    have c7 := kR.cell 7
    simp only [List.getElem?_toArray, List.getElem?_cons_zero, List.getElem?_cons_succ] at c0 c1 c2 c3 c4 c5 c6 c7
    have hzr : w.heap.size + 1 < wr.heap.size := Nat.lt_of_lt_of_le hz1 hB.size
    by_cases hlt : k < xs.length
    · obtain ⟨b', o', cap', hv, hcell⟩ := intsl_at (IntSl.below HS.out hB) hlt
      simp only [Value.slice.injEq, true_and] at hv
      obtain ⟨rfl, rfl⟩ := hv
      generalize hx : xs.getD k 0 = x at hcell
      have HL : Hid (xs.drop k = x :: xs.drop (k + 1)) := by rw [← hx]; exact drop_cons hlt
      clear hx
      have hlt' : (k : Int) < (xs.length : Int) := by omega
      have hbl := cell_lt hcell
      have hgo : hangF d (xs.drop (k + 1)) (bits .or .u32 z (atR d x)) = G := by
        have := HGk.out
        rw [HL.out] at this
        exact this
      have HGo : Hid _ := hgo
      clear hgo
      go_wp2_with (go_at_call 54; refine (HGet.out _ _).mono ?_; rintro e w3 ⟨rfl, hb3⟩)
      go_roundw
      case rel => exact ⟨k + 1, _, by omega, by go_num, rfl, HGo.out, Below.thru hB hb3 (Nat.le_refl _)⟩
      case measure => simp [intOf]; omega
    · have h := HGk.out
      rw [List.drop_of_length_le (by omega)] at h
      have hz : z = G := h
      subst hz
      clear HGk h
      go_wp2
      go_ret
      exact ⟨rfl, B1.trans (hB.mono B1.size)⟩
end Go.Proofs.YtkiefbldkidobaaDoor
