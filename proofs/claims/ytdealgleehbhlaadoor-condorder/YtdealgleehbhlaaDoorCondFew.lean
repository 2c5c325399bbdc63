/- Contracts of the law's helpers: few, and the document's example. -/
import Derived.Test.YtdealgleehbhlaaDoorCondMade
import Derived.Test.YtdealgleehbhlaaDoorCondText2
namespace Go.Proofs.YtdealgleehbhlaaDoor
open Go.RowKit

def fewB (ls : List (List Atm)) : Bool := decide (ls.length ≤ 20) && ls.all fun l => decide (l.length ≤ 20)
theorem few_yes {ls : List (List Atm)} (h : fewB ls = true) : ls.length ≤ 20 ∧ ∀ l ∈ ls, l.length ≤ 20 := by
  unfold fewB at h
  simp only [Bool.and_eq_true, decide_eq_true_eq, List.all_eq_true] at h
  exact h

set_option maxHeartbeats 1000000 in
theorem few_any (all : Bool) (p : Option Addr) (c : Nat) (ls : List (List Atm)) (w : World) (hl : Sl (SlE AtmE) w (.slice p ls.length c) ls) :
    Calls Tryd.prog 10 #[.agg #[.bool all, .slice p ls.length c]] w fun e w' => e = .returned (.bool (fewB ls)) ∧ Below w.heap.size w w' := by
  have hb1 := (Below.refl w.heap.size w).alloc (Nat.le_refl _) (.cells #[.bool all, .slice p ls.length c] 24)
  have k1 : Blk (w.alloc (.cells #[.bool all, .slice p ls.length c] 24)) w.heap.size #[.bool all, .slice p ls.length c] 24 := Blk.new
  have hl1 := hl.keep hb1
  go_enter Tryd.func10, Tryd.ntmps10
  go_wp2
  generalize w.alloc (.cells #[.bool all, .slice p ls.length c] 24) = w1 at *
  have e1 : w1.cell? ⟨w.heap.size, 1, none⟩ = some (.slice p ls.length c) := k1.cell 1
  go_loopw [3] (fun i wr => ∃ k : Nat, (k ≤ ls.length ∧ k ≤ 21) ∧ i = .int .i64 k ∧ fewB ls = (decide (ls.length ≤ 20) && (ls.drop k).all fun l => decide (l.length ≤ 20)) ∧ wr = w1) (fun i _ => 21 - (intOf i).toNat)
  case atStart => exact ⟨0, ⟨Nat.zero_le _, by omega⟩, rfl, rfl, rfl⟩
  case round =>
    obtain ⟨k, hk, rfl, hF, rfl⟩ := hrel
    have HF : Hid _ := hF
    clear hF
    by_cases hlt : k < ls.length ∧ k < 21
    · obtain ⟨hlt, h21⟩ := hlt
      obtain ⟨b, oo, rfl, u, hu, hU⟩ := (sl_at hl1).2 k hlt
      generalize hx : ls[k] = x at hU
      have HX : Hid (ls.drop k = x :: ls.drop (k + 1)) := by rw [← hx]; exact drop_at hlt
      clear hx
      obtain ⟨pu, cu, rfl⟩ := hU.len
      have hlt' : (k : Int) < (ls.length : Int) := by omega
      have h21' : (k : Int) < 21 := by omega
      have HG := HF.out
      rw [HX.out, List.all_cons] at HG
      by_cases hx20 : x.length ≤ 20
      · have hx20' : ¬ (20 : Int) < (x.length : Int) := by omega
        rw [decide_eq_true hx20, Bool.true_and] at HG
        have HG : Hid _ := HG
        go_wp2
        go_roundw
        case rel => exact ⟨k + 1, ⟨by omega, by omega⟩, by go_num, HG.out, by simp⟩
        case measure => simp [intOf]; omega
      · have hx20' : (20 : Int) < (x.length : Int) := by omega
        rw [decide_eq_false hx20, Bool.false_and, Bool.and_false] at HG
        have HG : Hid _ := HG
        go_wp2
        go_ret
        exact ⟨by rw [HG.out]; rfl, hb1⟩
    · have HG : Hid (fewB ls = decide (ls.length ≤ 20)) := by
        have h0 := HF.out
        by_cases h9 : ls.length ≤ k
        · rw [List.drop_of_length_le h9, List.all_nil, Bool.and_true] at h0; exact h0
        · rw [decide_eq_false (show ¬ ls.length ≤ 20 by omega), Bool.false_and] at h0
          rw [decide_eq_false (show ¬ ls.length ≤ 20 by omega)]; exact h0
      have hmm : (¬ ((k : Int) < (ls.length : Int))) ∨ ((k : Int) < (ls.length : Int) ∧ ¬ ((k : Int) < 21)) := by omega
      clear hlt
      by_cases h20 : ls.length ≤ 20
      · have h20' : (ls.length : Int) ≤ 20 := by omega
        have HG' : Hid _ := HG.out.trans (decide_eq_true h20)
        rcases hmm with hm | ⟨hm, hm2⟩
        · go_wp2
          go_ret
          exact ⟨by rw [HG'.out]; rfl, hb1⟩
        · exfalso; omega
      · have h20' : ¬ (ls.length : Int) ≤ 20 := by omega
        have HG' : Hid _ := HG.out.trans (decide_eq_false h20)
        rcases hmm with hm | ⟨hm, hm2⟩
        all_goals
          go_wp2
          go_ret
          exact ⟨by rw [HG'.out]; rfl, hb1⟩

def exAtoms : List Atm := [⟨0, 1, 5, false⟩, ⟨-1, 0, 2, true⟩]
theorem ex_text : condL false [exAtoms] = [101, 120, 105, 115, 116, 115, 32, 48, 58, 49, 61, 53, 38, 120, 48, 33, 61, 50] := by
  have e0 : Lib.itoa 0 = [48] := by rw [itoa_p 0 (by omega) (by omega)]; rfl
  have e1 : Lib.itoa 1 = [49] := by rw [itoa_p 1 (by omega) (by omega)]; rfl
  have e2 : Lib.itoa 2 = [50] := by rw [itoa_p 2 (by omega) (by omega)]; rfl
  have e5 : Lib.itoa 5 = [53] := by rw [itoa_p 5 (by omega) (by omega)]; rfl
  simp [condL, orL, listL, andL, exAtoms, wordL, e0, e1, e2, e5]
theorem ex_ok : ∀ a ∈ exAtoms, Asz a := by
  intro a ha
  simp [exAtoms] at ha
  rcases ha with rfl | rfl <;> (unfold Asz in64; simp)

theorem ex_sl {w : World} {b c : Nat} (h : ∀ j u, (exAtoms.flatMap Atm.cells)[j]? = some u → w.cell? ⟨b, j, none⟩ = some u) (hc : 2 ≤ c) : Sl AtmE w (.slice (some ⟨b, 0, none⟩) 2 c) exAtoms := by
  refine ⟨_, c, rfl, ⟨(fun e => by cases e), hc⟩, fun _ => ⟨b, 0, rfl, trivial, fun i hi => ?_⟩⟩
  have hi2 : i = 0 ∨ i = 1 := by have : exAtoms.length = 2 := rfl; omega
  rcases hi2 with rfl | rfl
  · refine ⟨_, rfl, fun j u hu => ?_⟩
    have := h j u (by
      match j, hu with
      | 0, hu => exact hu
      | 1, hu => exact hu
      | 2, hu => exact hu
      | 3, hu => exact hu
      | j + 4, hu => simp [exAtoms, Atm.cells] at hu)
    simpa [AtmE] using this
  · refine ⟨_, rfl, fun j u hu => ?_⟩
    have := h (4 + j) u (by
      match j, hu with
      | 0, hu => exact hu
      | 1, hu => exact hu
      | 2, hu => exact hu
      | 3, hu => exact hu
      | j + 4, hu => simp [exAtoms, Atm.cells] at hu)
    simpa [AtmE] using this

set_option maxHeartbeats 1000000 in
theorem shown_any (w : World) (E : Pow w) : Calls Tryd.prog 9 #[] w fun e w' => e = .returned (.bool true) ∧ Below w.heap.size w w' := by
  have HT := ex_text
  obtain ⟨T, hT⟩ : ∃ T, condL false [exAtoms] = T := ⟨_, rfl⟩
  rw [hT] at HT
  have HC : Hid (∀ (p : Option Addr) (c : Nat) (w' : World), Pow w' → Sl (SlE AtmE) w' (.slice p 1 c) [exAtoms] → Calls Tryd.prog 16 #[.agg #[.bool false, .slice p 1 c]] w' fun e w'' => e = .returned (.string ⟨T.toArray⟩) ∧ Below w'.heap.size w' w'') := fun p c w' h1 h2 => by
    rw [← hT]
    exact Text_any false p c [exAtoms] w' h1 h2 (fun l hl a ha => by simp at hl; subst hl; exact ex_ok a ha) (by decide) (fun l hl => by simp at hl; subst hl; decide)
  clear hT
  subst HT
  have hb1 := (((Below.refl w.heap.size w).alloc (Nat.le_refl _) (.cells #[.int .i64 0, .int .i64 1, .int .i64 5, .bool false, .int .i64 (-1), .int .i64 0, .int .i64 2, .bool true] 49)).alloc (by simp) (.cells #[.slice (some ⟨w.heap.size, 0, none⟩) 2 2] 50))
  have k1 : Blk ((w.alloc (.cells #[.int .i64 0, .int .i64 1, .int .i64 5, .bool false, .int .i64 (-1), .int .i64 0, .int .i64 2, .bool true] 49)).alloc (.cells #[.slice (some ⟨w.heap.size, 0, none⟩) 2 2] 50)) w.heap.size #[.int .i64 0, .int .i64 1, .int .i64 5, .bool false, .int .i64 (-1), .int .i64 0, .int .i64 2, .bool true] 49 := Blk.new.alloc _
  have hS : Sl (SlE AtmE) ((w.alloc (.cells #[.int .i64 0, .int .i64 1, .int .i64 5, .bool false, .int .i64 (-1), .int .i64 0, .int .i64 2, .bool true] 49)).alloc (.cells #[.slice (some ⟨w.heap.size, 0, none⟩) 2 2] 50)) (.slice (some ⟨w.heap.size + 1, 0, none⟩) 1 1) [exAtoms] :=
    sl_one (v := .slice (some ⟨w.heap.size, 0, none⟩) 2 2) trivial (by simp) (ex_sl (fun j u hu => by
      rw [k1.cell j, ← hu]
      match j with
      | 0 => rfl
      | 1 => rfl
      | 2 => rfl
      | 3 => rfl
      | 4 => rfl
      | 5 => rfl
      | 6 => rfl
      | 7 => rfl
      | j + 8 => simp [exAtoms, Atm.cells]) (Nat.le_refl _)) (Nat.le_refl _)
  have C := HC.out _ _ _ (E.below hb1) hS
  clear HC hS k1
  go_enter Tryd.func9, Tryd.ntmps9
  go_wp2_with (go_at_call 16; refine Calls.mono C ?_; rintro e w3 ⟨rfl, hb3⟩)
  go_ret
  exact ⟨rfl, Below.thru hb1 hb3 (Nat.le_refl _)⟩
end Go.Proofs.YtdealgleehbhlaaDoor
