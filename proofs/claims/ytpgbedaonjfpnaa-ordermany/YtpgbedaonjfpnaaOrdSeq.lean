/- The contract of order.linear's iterator. -/
import Derived.Test.YtpgbedaonjfpnaaOrdGo2
import Derived.Test.YtpgbedaonjfpnaaOrdRange
import Derived.Laws.EntriesVeiled
namespace Go.Proofs.Ytpgbedaonjfpnaa
open Go.RowKit Go.Shelf

/-- The closure as it is made. -/
def goV (W w3 : World) : Value := .func (.func 37) #[] #[.pointer (some ⟨w3.heap.size + 1, 0, none⟩), .pointer (some ⟨w3.heap.size, 0, none⟩), .pointer (some ⟨W.heap.size, 0, none⟩), .pointer (some ⟨w3.heap.size + 1 + 1, 0, none⟩)]
/-- What the iterator lays. -/
def laid7 (W w3 : World) (bi n : Nat) : World := ((w3.alloc (.cells #[.slice (some ⟨bi, 0, none⟩) n n] 33)).alloc (.cells #[.slice none 0 0] 24)).alloc (.cells #[goV W w3] 62)
theorem laid7_below (W w3 : World) (bi n : Nat) : Below w3.heap.size w3 (laid7 W w3 bi n) := (((Below.refl _ _).alloc (Nat.le_refl _) _).alloc (by simp) _).alloc (by simp; omega) _
theorem laid7_go (W w3 : World) (bi n : Nat) : Blk (laid7 W w3 bi n) (w3.heap.size + 1 + 1) #[goV W w3] 62 := Blk.newAt (by simp)
theorem laid7_size (W w3 : World) (bi n : Nat) : (laid7 W w3 bi n).heap.size = w3.heap.size + 3 := by simp [laid7]
theorem laid7_ahead (W w3 : World) (bi n : Nat) : Blk (laid7 W w3 bi n) w3.heap.size #[.slice (some ⟨bi, 0, none⟩) n n] 33 :=
  (Blk.new.alloc _).alloc _
theorem laid7_begun (W w3 : World) (bi n : Nat) : Blk (laid7 W w3 bi n) (w3.heap.size + 1) #[.slice none 0 0] 24 :=
  (Blk.newAt (by simp)).alloc _

theorem seq_goOn {J Jx : RowsOf} {lp N : Nat} {xs : List Nat} {W w3 : World} {A : Nat → Prop} {bi : Nat} (hJ : Stays J) (hJx : Stays Jx) (hY : Yields Try.prog 3 lp N J Jx) (hj : J A [] W) (hA : ∀ b, A b → b < W.heap.size) (hb : Below W.heap.size W w3)
    (by3 : Blk w3 W.heap.size #[.func (.yield lp) #[] #[]] 61) (hR : Row w3 bi 37 (szR xs) (fun i => rowN (invF (hasR xs) i) (szR xs))) (hbi : W.heap.size < bi) (hN : (extF (szR xs) (hasR xs) (szR xs) []).length ≤ N) :
    Calls Try.prog 37 #[.int .u32 0, .pointer (some ⟨w3.heap.size + 1, 0, none⟩), .pointer (some ⟨w3.heap.size, 0, none⟩), .pointer (some ⟨W.heap.size, 0, none⟩), .pointer (some ⟨w3.heap.size + 1 + 1, 0, none⟩)] (laid7 W w3 bi (szR xs))
      (GoEnds J Jx (w3.heap.size + 1) w3.heap.size (laid7 W w3 bi (szR xs)) A (.slice none 0 0) [] [] (extF (szR xs) (hasR xs) (szR xs) [])) := by
  have hb7 := laid7_below W w3 bi (szR xs)
  have hz7 := laid7_size W w3 bi (szR xs)
  have hbl := hR.lt
  have hbz := hb.size
  have hyl := by3.lt
  refine goOn_any J Jx lp N xs (w3.heap.size + 1) w3.heap.size W.heap.size (w3.heap.size + 1 + 1) w3.heap.size (some ⟨bi, 0, none⟩) (szR xs) (fun b => W.heap.size ≤ b ∧ b < w3.heap.size + 3 ∧ b ≠ w3.heap.size + 1) hJ hJx hY (szR xs) [] (laid7 W w3 bi (szR xs)) A (.slice none 0 0) [] (by simp) (by simp) ?_ ?_ (hJ _ _ _ _ hj (Below.only (Below.thru hb hb7 (Nat.le_refl _)))) (by simpa using hN)
  · have hl : (invL xs).length = szR xs := inv_len xs
    refine ⟨by rw [hl]; exact laid7_ahead W w3 bi (szR xs), by3.keep hb7, laid7_go W w3 bi (szR xs), ?_, ?_, ?_, ?_⟩
    · rw [hl]; exact (hR.keep hb7).mk (A := fun b => W.heap.size ≤ b ∧ b < w3.heap.size + 3 ∧ b ≠ w3.heap.size + 1) ⟨by omega, by omega, by omega⟩ (szR_le xs)
    · exact ⟨by omega, by omega, by omega⟩
    · exact ⟨by omega, by omega, by omega⟩
    · exact ⟨by omega, by omega, by omega⟩
  · refine ⟨laid7_begun W w3 bi (szR xs), (Own.nil (A := fun _ => False)).n, fun b h => by rw [hz7]; exact h.2.1, fun b h => by have := hA b h; omega, fun b h => ?_, fun b h => by simp [Value.ownBlock] at h, fun h => h.2.2 rfl, by omega⟩
    have := hA b h
    exact ⟨fun h => by omega, by omega, by simp [Value.ownBlock]⟩

set_option maxRecDepth 100000 in
set_option maxHeartbeats 4000000 in
theorem linear1_any (p : Option Addr) (c br N lo : Nat) (xs : List Nat) (w0 : World) (hlo : lo ≤ w0.heap.size) (hr : Blk w0 br #[.slice p xs.length c] 33) (hx : Sl U32E w0 (.slice p xs.length c) xs) (hN : (linF (szR xs) (hasR xs)).length ≤ N) :
    SeqRows Try.prog 3 36 #[.pointer (some ⟨br, 0, none⟩)] (linF (szR xs) (hasR xs)) N lo w0 := by
  intro lp J Jx A W hB hJ hJx hY hj hA
  have hB1 := hB.alloc hB.size (.cells #[.func (.yield lp) #[] #[]] 61)
  have hb1 : Below W.heap.size W (W.alloc (.cells #[.func (.yield lp) #[] #[]] 61)) := (Below.refl _ _).alloc (Nat.le_refl _) _
  have by1 : Blk (W.alloc (.cells #[.func (.yield lp) #[] #[]] 61)) W.heap.size #[.func (.yield lp) #[] #[]] 61 := Blk.new
  have hx1 := hx.keep hB1
  have hr1 := hr.keep hB1
  have c1 := hr1.cell 0
  simp only [List.getElem?_toArray, List.getElem?_cons_zero] at c1
  have HJ : Hid _ := hJ
  have HJx : Hid _ := hJx
  have HY : Hid _ := hY
  clear hJ hJx hY
  have C1 := Acyclic_l p c xs _ hx1
  cases ha : acyL xs with
  | false =>
    rw [ha] at C1
    have el : Hid _ := (show linF (szR xs) (hasR xs) = [] by unfold linF; rw [show acyF (szR xs) (hasR xs) = false from ha]; rfl)
    clear ha hN
    go_enter Try.func36, Try.ntmps36
    go_wp2_with (go_at_call 16; refine C1.mono ?_; clear C1; rintro e w2 ⟨rfl, hb2⟩)
    have hb := Below.thru hb1 hb2 (Nat.le_refl _)
    have hz := hb.size
    refine bodyPost_ret (results_none rfl _ _ _) rfl ?_
    exact ⟨⟨_, rfl⟩, A, [], fun b h => by have := hA b h; omega, (Below.thru hB1 hb2 (Nat.le_refl _)).mono hlo, .inl ⟨el.out.symm, HJ.out _ _ _ _ hj (Below.only hb)⟩⟩
  | true =>
    rw [ha] at C1
    have el : Hid _ := (show linF (szR xs) (hasR xs) = extF (szR xs) (hasR xs) (szR xs) [] by unfold linF; rw [show acyF (szR xs) (hasR xs) = true from ha]; rfl)
    clear ha
    have HN : Hid _ := hN
    clear hN
    go_enter Try.func36, Try.ntmps36
    go_wp2_with (first
      | (go_at_call 16; refine C1.mono ?_; clear C1; rintro e w2 ⟨rfl, hb2⟩; have C2 := Inv_any p c xs w2 (hx1.keep hb2); have c2 := cell_keep c1 hb2; have by2 := by1.keep hb2; have hy2 := by2.lt; have hB2 := Below.thru hB1 hb2 (Nat.le_refl _); have hb12 := Below.thru hb1 hb2 (Nat.le_refl _); have hsz1 := hb2.size; clear hb1 hb2 hB1 by1 c1 hx1 hr1)
      | (go_at_call 20; refine C2.mono ?_; clear C2; rintro e w3 ⟨bi, rfl, hR, hbi, hb3⟩; have by3 := by2.keep hb3; have hB3 := Below.thru hB2 hb3 (Nat.le_refl _); have hb13 := Below.thru hb12 hb3 (Nat.le_refl _); have hsz3 := hb3.size; have hbl := hR.lt; clear hb12 hB2 by2 c2))
    have CC := seq_goOn HJ.out HJx.out HY.out hj (fun b h => (hA b h).2) hb13 by3 hR (by omega) (by rw [← el.out]; exact HN.out)
    have hb7 := laid7_below W w3 bi (szR xs)
    have hz7 := laid7_size W w3 bi (szR xs)
    have hzW := hb13.size
    have hz0 := hB.size
    go_at_call 37
    refine CC.mono ?_
    clear CC
    rintro e w8 ⟨b8, rfl, A8, vb8, items, R8, ho8⟩
    generalize laid7 W w3 bi (szR xs) = w7 at *
    have hW8 : Below lo w0 w8 := ((Below.thru hB3 hb7 (Nat.le_refl _)).mono hlo).trans (Only.below R8.only (by omega) fun b h => by
      rcases h with h | h | h
      · exact (hA b h).1
      · omega
      · simp [Value.ownBlock] at h)
    have hA8 : ∀ b, A8 b → lo ≤ b ∧ b < w8.heap.size := fun b h => by
      refine ⟨?_, R8.alt b h⟩
      rcases R8.asub b h with h | h
      · exact (hA b h).1
      · omega
    have hfin : (items.map Prod.fst = linF (szR xs) (hasR xs) ∧ J A8 items w8) ∨ (items.map Prod.fst <+: linF (szR xs) (hasR xs) ∧ Jx A8 items w8) := by
      rw [el.out]
      rcases ho8 with ⟨_, h⟩ | ⟨_, h⟩
      · exact .inl h
      · exact .inr h
    clear ho8 R8
    go_wp2
    refine bodyPost_end (results_none rfl _ _ _) rfl ?_
    exact ⟨⟨_, rfl⟩, A8, items, hA8, hW8, hfin⟩
end Go.Proofs.Ytpgbedaonjfpnaa
