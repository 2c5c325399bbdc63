/- TestChecks: for every test the law answers true. -/
import Derived.Test.YtpmecgagbjphdaaDoorTestShown
import Derived.Test.YtpmecgagbjphdaaDoorTestRefCheck
namespace Go.Proofs.YtpmecgagbjphdaaDoor
open Go.RowKit

theorem few_parts {xs : List Int} {ts : List (List Ins)} (h : fewB xs ts = true) : xs.length ≤ 10 ∧ ts.length ≤ 10 ∧ (∀ l ∈ ts, l.length ≤ 40) := by
  unfold fewB at h
  simp only [Bool.and_eq_true, decide_eq_true_eq, List.all_eq_true] at h
  exact ⟨h.1.1, h.1.2, h.2⟩
theorem size_few {ts : List (List Ins)} {n : Nat} (h : ∀ l ∈ ts, l.length ≤ n) : sizeTs ts ≤ n * ts.length := by
  induction ts with
  | nil => simp [sizeTs]
  | cons t ts ih =>
    rw [sizeTs, List.length_cons, Nat.mul_add]
    have h1 := h t (by simp)
    have h2 := ih (fun l hl => h l (by simp [hl]))
    omega
theorem size_few' {xs : List Int} {ts : List (List Ins)} (h : fewB xs ts = true) : sizeTs ts ≤ 400 := by
  obtain ⟨_, h2, h3⟩ := few_parts h
  have := size_few h3
  omega

set_option maxHeartbeats 2000000 in
theorem TestChecks_true (pi pt : Option Addr) (ci ct : Nat) (xs : List Int) (ts : List (List Ins)) (w : World) (T : Tab w) (hi : Sl IntE w (.slice pi xs.length ci) xs) (ht : Sl ThrE w (.slice pt ts.length ct) ts) :
    Calls Tryd.prog 3 #[.agg #[.slice pi xs.length ci, .slice pt ts.length ct]] w fun e w' => e = .returned (.bool true) ∧ Below w.heap.size w w' := by
  have hb1 := ((Below.refl w.heap.size w).alloc (Nat.le_refl _) (.cells #[.slice pi xs.length ci, .slice pt ts.length ct] 25))
  have hK : Blk (w.alloc (.cells #[.slice pi xs.length ci, .slice pt ts.length ct] 25)) w.heap.size #[.slice pi xs.length ci, .slice pt ts.length ct] 25 := Blk.new
  go_enter Tryd.func3, Tryd.ntmps3
  go_wp2_with fail
  refine (shown2_any _ (T.below hb1)).mono ?_
  rintro e w1 ⟨rfl, hb1'⟩
  have hB1 := hb1.trans (hb1'.mono hb1.size)
  have hK1 := hK.keep hb1'
  have k0 := hK1.cell 0
  have k1 := hK1.cell 1
  simp at k0 k1
  go_wp2_with fail
  refine (Few_any _ _ _ _ xs ts _ (ht.keep hB1)).mono ?_
  rintro e w2 ⟨rfl, hb2⟩
  have hB2 := hB1.trans (hb2.mono hB1.size)
  have hK2 := hK1.keep hb2
  cases hfew : fewB xs ts
  · go_wp2
    go_ret
    exact ⟨rfl, hB2⟩
  · have hS : sizeTs ts ≤ 400 := size_few' hfew
    have hT : ts.length ≤ 10 := (few_parts hfew).2.1
    clear hfew k0 k1
    have k0 := hK2.cell 0
    have k1 := hK2.cell 1
    simp at k0 k1
    go_wp2_with fail
    refine (Check_any _ _ _ _ xs ts _ (T.below hB2) (hi.keep hB2) (ht.keep hB2) (by omega)).mono ?_
    rintro e w3 ⟨rfl, hb3⟩
    have hB3 := hB2.trans (hb3.mono hB2.size)
    have hK3 := hK2.keep hb3
    clear k0 k1
    have k0 := hK3.cell 0
    have k1 := hK3.cell 1
    simp at k0 k1
    go_wp2_with fail
    refine (refCheck_any _ _ _ _ xs ts _ (hi.keep hB3) (ht.keep hB3) (by omega)).mono ?_
    rintro e w4 ⟨rfl, hb4⟩
    have hB4 := hB3.trans (hb4.mono hB3.size)
    have hK4 := hK3.keep hb4
    clear k0 k1
    have k0 := hK4.cell 0
    have k1 := hK4.cell 1
    simp at k0 k1
    go_wp2_with fail
    refine (Count_any _ _ _ _ _ ts _ (T.below hB4) (ht.keep hB4) (by omega) (by omega)).mono ?_
    rintro e w5 ⟨rfl, hb5⟩
    have hB5 := hB4.trans (hb5.mono hB4.size)
    have hK5 := hK4.keep hb5
    clear k0 k1
    have k0 := hK5.cell 0
    have k1 := hK5.cell 1
    simp at k0 k1
    go_wp2_with fail
    refine (refCount_any _ _ _ _ _ ts _ (ht.keep hB5) (by omega) (by omega)).mono ?_
    rintro e w6 ⟨rfl, hb6⟩
    have hB6 := hB5.trans (hb6.mono hB5.size)
    generalize (checkZ xs ts).1 = c1
    generalize (checkZ xs ts).2.1 = c2
    generalize (checkZ xs ts).2.2 = c3
    generalize (cntTs ts 0 0).1 = c4
    generalize (cntTs ts 0 0).2 = c5
    go_wp2
    go_ret
    exact ⟨rfl, hB6⟩
end Go.Proofs.YtpmecgagbjphdaaDoor
