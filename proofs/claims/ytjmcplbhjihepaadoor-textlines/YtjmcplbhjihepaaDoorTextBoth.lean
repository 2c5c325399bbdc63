/- What the program reads of a text is what the document reads. -/
import Derived.Test.YtjmcplbhjihepaaDoorTextBack
import Derived.Test.YtjmcplbhjihepaaDoorTextRefRead2
import Derived.Test.YtjmcplbhjihepaaDoorTextRefRead3
namespace Go.Proofs.YtjmcplbhjihepaaDoor
open Go.RowKit

theorem split_head (c : UInt8) : ∀ (l cur : List UInt8), ∃ t, split c cur l = (cur ++ (cutB c l).1) :: t
  | [], cur => ⟨[], by simp [split, cutB]⟩
  | x :: r, cur => by
    by_cases h : x = c
    · exact ⟨split c [] r, by simp [split, cutB, h]⟩
    · obtain ⟨t, ht⟩ := split_head c r (cur ++ [x])
      exact ⟨t, by simp [split, cutB, h, ht]⟩
/-- What the document reads of a line. -/
theorem ref_reads {op : Int} (hop : 1 ≤ op ∧ op ≤ 14) {v : Nat → Int} (hv : ∀ k, in64 (v k)) (h0 : ∀ k, hasF op k = false → v k = 0) {s h : List UInt8} {t : List (List UInt8)} (hs : lineL op (v 0) (v 1) (v 2) (v 3) (v 4) = s) (hw : split 32 [] s = h :: t) :
    ∀ j, j < 5 → refVal op (t ++ five) j = v j := by
  intro j hj
  have hl := split_line (pres op v 5) (nameL op) (name_in hop).1
  rw [← lineL_v op hop, hs, hw] at hl
  rw [(List.cons.inj hl).2]
  exact ref_back hv h0 five j hj

theorem both_read (s : List UInt8) (hs : s.length ≤ 300) : ∃ (op d a b l i : Int) (ok : Bool),
    (∀ w, Env w → Calls Tryd.prog 5 #[.string ⟨s.toArray⟩] w fun e w' => e = .returned (readV op d a b l i ok) ∧ Below w.heap.size w w') ∧
    (∀ w, Calls Tryd.prog 6 #[.string ⟨s.toArray⟩] w fun e w' => e = .returned (readV op d a b l i ok) ∧ Below w.heap.size w w') := by
  obtain ⟨t, hw⟩ := split_head 32 s []
  rw [List.nil_append] at hw
  by_cases hn : ∀ k : Int, 1 ≤ k → k ≤ 14 → nameS k ≠ ⟨(cutB 32 s).1.toArray⟩
  · exact ⟨0, 0, 0, 0, 0, 0, false, fun w E => Read_none s (by omega) hn w E, fun w => refRead_none s _ t hs hw hn w⟩
  · obtain ⟨op, h1, h2, hnn⟩ : ∃ op : Int, 1 ≤ op ∧ op ≤ 14 ∧ nameS op = ⟨(cutB 32 s).1.toArray⟩ := by
      refine Classical.byContradiction fun hc => hn fun k h1 h2 he => hc ⟨k, h1, h2, he⟩
    have hop : 1 ≤ op ∧ op ≤ 14 := ⟨h1, h2⟩
    have hgl : ∀ j, ((t ++ five).getD j []).length ≤ 1000000 := fun j => by
      by_cases hj : j < t.length
      · have e : (t ++ five).getD j [] = t[j] := by simp [List.getD, List.getElem?_append_left hj, List.getElem?_eq_getElem hj]
        rw [e]
        have := split_len 32 s [] t[j] (by rw [hw]; exact List.mem_cons_of_mem _ (List.getElem_mem hj))
        simp at this; omega
      · have e : (t ++ five).getD j [] = [] := by
          rw [List.getD, List.getElem?_append_right (by omega)]
          match j - t.length with
          | 0 => rfl
          | 1 => rfl
          | 2 => rfl
          | 3 => rfl
          | 4 => rfl
          | n + 5 => rfl
        rw [e]; simp
    have P := fun ok hok w E => Read_some s (by omega) op hop hnn (valAt op (cutB 32 s).2.1) (fun _ => rfl) ok hok w E
    have R := fun ok hok w => refRead_some s _ t hs hw op hop hnn (fun j => (t ++ five).getD j []) (fun _ => rfl) hgl (fun j => numR ((t ++ five).getD j [])) (fun _ => rfl) ok hok w
    have ev : ∀ k, in64 (valAt op (cutB 32 s).2.1 k) := valAt_in _ _
    have er : ∀ k, in64 (refV op (fun j => numR ((t ++ five).getD j [])) k) := fun k => by
      unfold refV
      cases hasF op k
      · simp only [cond_false]; exact ⟨by decide, by decide⟩
      · exact numR_in _
    have zv : ∀ k, hasF op k = false → valAt op (cutB 32 s).2.1 k = 0 := fun k h => by unfold valAt; rw [h]; rfl
    have zr : ∀ k, hasF op k = false → refV op (fun j => numR ((t ++ five).getD j [])) k = 0 := fun k h => by unfold refV; rw [h]; rfl
    by_cases hp : lineL op (valAt op (cutB 32 s).2.1 0) (valAt op (cutB 32 s).2.1 1) (valAt op (cutB 32 s).2.1 2) (valAt op (cutB 32 s).2.1 3) (valAt op (cutB 32 s).2.1 4) = s
    · have hr := ref_reads hop ev zv hp hw
      have r0 := hr 0 (by omega)
      have r1 := hr 1 (by omega)
      have r2 := hr 2 (by omega)
      have r3 := hr 3 (by omega)
      have r4 := hr 4 (by omega)
      rw [refV_is] at r0 r1 r2 r3 r4
      have R' := R true (by rw [r0, r1, r2, r3, r4, hp]; simp)
      rw [r0, r1, r2, r3, r4] at R'
      exact ⟨_, _, _, _, _, _, true, fun w E => P true (decide_eq_true hp) w E, R'⟩
    · by_cases hq : lineL op (refV op (fun j => numR ((t ++ five).getD j [])) 0) (refV op (fun j => numR ((t ++ five).getD j [])) 1) (refV op (fun j => numR ((t ++ five).getD j [])) 2) (refV op (fun j => numR ((t ++ five).getD j [])) 3) (refV op (fun j => numR ((t ++ five).getD j [])) 4) = s
      · have hv := prog_reads hop er zr hq
        refine absurd ?_ hp
        rw [hv 0 (by omega), hv 1 (by omega), hv 2 (by omega), hv 3 (by omega), hv 4 (by omega)]
        exact hq
      · exact ⟨0, 0, 0, 0, 0, 0, false, fun w E => P false (decide_eq_false hp) w E, fun w => R false (by rw [beq_eq_false_iff_ne]; exact hq) w⟩
end Go.Proofs.YtjmcplbhjihepaaDoor
