/- Contract of source.Rf. -/
import Derived.Test.YtgffeihfcmbobaaSrcMay
import Derived.Test.YtgffeihfcmbobaaSrcM3
import Derived.Test.YtgffeihfcmbobaaRelR
namespace Go.Proofs.Ytgffeihfcmbobaa
open Go.RowKit
attribute [local go_sem] Ext.cell Ext.frozen

def rfTo (n : Nat) (from_ : List Int) (k : Nat) : List Nat := mkR n fun i j => decide (j < k) && rfF n from_ i j
theorem rfTo_len (n : Nat) (from_ : List Int) (k : Nat) : (rfTo n from_ k).length = n := mkR_len _ _
theorem rfTo_zero (n : Nat) (from_ : List Int) : mkR n (fun _ _ => false) = rfTo n from_ 0 := mkR_congr fun i k _ _ => by simp
theorem rfTo_new {n : Nat} (from_ : List Int) (hn : n ≤ 32) : newL (n : Int) = rfTo n from_ 0 := by unfold newL; rw [newN_nat hn]; exact rfTo_zero n from_
theorem rfTo_put {n : Nat} {from_ : List Int} {k : Nat} {z : Int} (hn : n ≤ 32) (hk : k < n) (hz : from_[k]? = some z) (_ : (decide (0 ≤ z) && decide (z < (n : Int))) = true) : putL (rfTo n from_ k) z (k : Int) = rfTo n from_ (k + 1) := by
  unfold putL rfTo
  rw [mkR_sz _ hn]
  refine mkR_congr fun i j hi hj => ?_
  unfold putF
  rw [hasR_mk _ hn hi hj]
  have hi' : ((i : Int) = z) ↔ (from_[k]? = some (i : Int)) := by rw [hz]; simp [eq_comm]
  by_cases hjk : j = k
  · subst hjk
    unfold rfF
    rw [decide_eq_false (Nat.lt_irrefl _), decide_eq_true (Nat.lt_succ_self _), decide_eq_true hj, decide_eq_true hi]
    simp only [Bool.false_and, Bool.false_or, Bool.true_and, decide_true, Bool.and_true, hz]
    by_cases e : (i : Int) = z
    · rw [decide_eq_true e, e]; simp
    · rw [decide_eq_false e]
      simp only [Option.some.injEq, Bool.false_eq, beq_eq_false_iff_ne, ne_eq]
      first | exact fun h => e h.symm | (intro h; exact e (by simpa using h.symm))
  · rw [decide_eq_false (show ¬ (j : Int) = (k : Int) by omega), Bool.and_false, Bool.or_false]
    by_cases hlt : j < k
    · rw [decide_eq_true hlt, decide_eq_true (by omega)]
    · rw [decide_eq_false hlt, decide_eq_false (by omega)]
theorem rfTo_skip {n : Nat} {from_ : List Int} {k : Nat} {z : Int} (hz : from_[k]? = some z) (h : (decide (0 ≤ z) && decide (z < (n : Int))) = false) : rfTo n from_ (k + 1) = rfTo n from_ k := by
  refine mkR_congr fun i j hi hj => ?_
  by_cases hjk : j = k
  · subst hjk
    have : rfF n from_ i j = false := by
      unfold rfF
      rw [hz]
      rw [Bool.eq_false_iff]
      intro h2
      simp only [Bool.and_eq_true, decide_eq_true_eq, beq_iff_eq, Option.some.injEq] at h2
      rw [decide_eq_true (by omega), decide_eq_true (by omega)] at h
      cases h
    rw [this, Bool.and_false, Bool.and_false]
  · by_cases hlt : j < k
    · rw [decide_eq_true hlt, decide_eq_true (by omega)]
    · rw [decide_eq_false hlt, decide_eq_false (by omega)]
theorem rfTo_all {n : Nat} {from_ : List Int} {k : Nat} (hk : k = n ∨ k = from_.length) : rfTo n from_ k = mkR n (rfF n from_) := by
  refine mkR_congr fun i j hi hj => ?_
  by_cases hlt : j < k
  · rw [decide_eq_true hlt, Bool.true_and]
  · rw [decide_eq_false hlt, Bool.false_and]
    symm
    have : from_[j]? = none := List.getElem?_eq_none (by rcases hk with h | h <;> omega)
    unfold rfF
    rw [this]
    simp

set_option maxRecDepth 20000 in
set_option maxHeartbeats 8000000 in
theorem Rf_any (v : Value) (r : Nat → Value) (q pf : Option Addr) (c cf : Nat) (l : List Ev) (from_ : List Int) (w : World) (hv : v = .slice q l.length c) (hf : Sl IntE w (.slice pf from_.length cf) from_) (hn : l.length ≤ 32) (hfn : from_.length ≤ 1000000) :
    Calls Try.prog 21 #[exV v r, .slice pf from_.length cf] w (Tl w (mkR l.length (rfF l.length from_))) := by
  subst hv
  obtain ⟨w1, hw1⟩ : ∃ w1, w.alloc (.cells #[.slice q l.length c, r 1, r 2, r 3, r 4, r 5, r 6] 30) = w1 := ⟨_, rfl⟩
  have k1 : Blk w1 w.heap.size #[.slice q l.length c, r 1, r 2, r 3, r 4, r 5, r 6] 30 := by rw [← hw1]; exact Blk.new
  have b1 : Below w.heap.size w w1 := by rw [← hw1]; exact below_new _ _
  have c0 := (ex_cells k1).1
  have lc := k1.lt
  have hNew : Calls Try.prog 32 #[.int .i64 (l.length : Int)] w1 (Tl w1 (newL (l.length : Int))) := New_l w1 _
  rw [rfTo_new from_ hn] at hNew
  have HNEW : Hid (Calls _ _ _ _ _) := hNew
  clear hNew
  obtain ⟨m, hm⟩ : ∃ m, (if l.length < from_.length then l.length else from_.length) = m := ⟨_, rfl⟩
  have hmn : m ≤ l.length ∧ m ≤ from_.length ∧ (m = l.length ∨ m = from_.length) := by
    rw [← hm]
    split <;> omega
  have hmin : (if (l.length : Int) < (from_.length : Int) then (l.length : Int) else (from_.length : Int)) = (m : Int) := by
    rw [← hm]
    split <;> split <;> omega
  have hrl := fun k => rfTo_len l.length from_ k
  have hrm : ∀ w, (Builtin.min_ #[3, 3] 3 #[.int .i64 (from_.length : Int), .int .i64 (l.length : Int)]).run Try.prog w = .ok (.int .i64 (m : Int)) w := fun w => by rw [run_min_int2, hmin]
  have HRL : Hid _ := hrl
  clear hmin
  have HM : Hid _ := hmn
  clear hrl hm
  unfold exV
  have F1 := trivial
  go_enter Try.func21, Try.ntmps21
  go_wp2_with (go_at_call 32; clear F1; refine HNEW.out.mono ?_; rintro e w2 ⟨p2, c2, rfl, hS2, hb2⟩; rw [HRL.out] at hS2; rw [HRL.out]; have x0 := cell_keep c0 hb2; have lx := cell_lt x0; have F2 := trivial)
  clear hrm
  go_loopw [5, 17] (fun a i wr => ∃ (k : Nat) (p' : Option Addr) (c' : Nat), k ≤ m ∧ a = .slice p' l.length c' ∧ i = .int .i64 k ∧ Sl U32E wr (.slice p' l.length c') (rfTo l.length from_ k) ∧ Below w1.heap.size w1 wr) (fun _ i _ => m - (Go.RowKit.intOf i).toNat)
  case atStart => exact ⟨0, p2, c2, Nat.zero_le _, rfl, rfl, hS2, hb2⟩
  case round =>
    obtain ⟨k, p', c', hk, rfl, rfl, hS, hbr⟩ := hrel
    obtain ⟨hm1, hm2, hm3⟩ := HM.out
    have Br := Below.thru b1 hbr (Nat.le_refl _)
    by_cases hlt : k < m
    · have hlt' : (k : Int) < (m : Int) := by omega
      have hlf' : (k : Int) < (from_.length : Int) := by omega
      obtain ⟨fb, fo, rfl, f0⟩ := (ints_at (hf.keep Br)).2 k (by omega)
      have hput := rfTo_put (z := from_[k]'(by omega)) hn (by omega) (List.getElem?_eq_getElem (by omega : k < from_.length))
      have hskip := rfTo_skip (n := l.length) (z := from_[k]'(by omega)) (List.getElem?_eq_getElem (by omega : k < from_.length))
      have hlf : k < from_.length := by omega
      generalize from_[k] = z at *
      have lf := cell_lt f0
      obtain ⟨q0, q1, q2, q3, q4, q5, q6⟩ := ex_cells (k1.keep hbr)
      have lq := cell_lt q0
      have hS' : Sl U32E wr (.slice p' (rfTo l.length from_ k).length c') (rfTo l.length from_ k) := by rw [HRL.out k]; exact hS
      have hPut := fun W (hB : Below wr.heap.size wr W) => Put_l p' c' (rfTo l.length from_ k) W (hS'.keep hB) z (k : Int)
      rw [HRL.out] at hPut
      have HPUT : Hid _ := hPut
      have HSK : Hid _ := hskip
      have HPU : Hid _ := hput
      clear hPut hskip hput hS'
      have CC : ∀ p : Ext wr, Calls Try.prog 24 #[exV (.slice q l.length c) r, .int .i64 z] p.wd fun e w'' => e = .returned (.bool (isEvB l z)) ∧ ∃ q' : Ext wr, w'' = q'.wd := fun p => calls_ext (isEvent_any _ r q c l z p.wd rfl)
      have hne : ∀ w, Nonempty (Ext w) := ext_some
      unfold exV at CC
      cases hb : isEvB l z
      · rw [hb] at CC
        have HCC : Hid _ := CC
        have H2 : Hid _ := HSK.out hb
        clear CC
        go_wp2
        refine wp_region_ext (by kernel_rfl) (by kernel_rfl) ?_
        repeat (go_big_quiet_step (first | (with_reducible exact HCC.out _)))
        refine wpQuiet_nil ?_
        rintro _ ⟨rr, rfl⟩
        have b6 := rr.ok
        generalize rr.wd = w6 at *
        go_wp2
        go_roundw
        case rel => exact ⟨k + 1, p', c', by omega, rfl, by go_num, by rw [H2.out]; exact hS.keep b6, Below.thru hbr b6 (Nat.le_refl _)⟩
        case measure => simp [Go.RowKit.intOf]; omega
      · rw [hb] at CC
        have HCC : Hid _ := CC
        have H2 : Hid _ := HPU.out hb
        clear CC
        go_wp2
        refine wp_region_ext (by kernel_rfl) (by kernel_rfl) ?_
        repeat (go_big_quiet_step (first | (with_reducible exact HCC.out _)))
        refine wpQuiet_nil ?_
        rintro _ ⟨rr, rfl⟩
        have b6 := rr.ok
        generalize rr.wd = w6 at *
        have f6 := cell_keep f0 b6
        have lf6 := cell_lt f6
        go_wp2_with (go_at_call 33; refine (HPUT.out _ b6).mono ?_; rintro e w7 ⟨p7, c7, rfl, hS7, hb7⟩; rw [H2.out, HRL.out] at hS7; rw [H2.out, HRL.out])
        go_roundw
        case rel => exact ⟨k + 1, p7, c7, by omega, rfl, by go_num, hS7, Below.thru (Below.thru hbr b6 (Nat.le_refl _)) hb7 (Nat.le_refl _)⟩
        case measure => simp [Go.RowKit.intOf]; omega
    · have e : k = m := by omega
      subst e
      have h2 := rfTo_all (n := l.length) (from_ := from_) hm3
      rw [h2] at hS
      clear h2
      go_wp2
      go_ret
      exact ⟨p', c', by rw [mkR_len]; rfl, by rw [mkR_len]; exact hS, Br⟩
end Go.Proofs.Ytgffeihfcmbobaa
