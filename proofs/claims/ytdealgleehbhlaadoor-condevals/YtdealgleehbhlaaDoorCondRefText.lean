/- Contracts of the document's word and Text. -/
import Derived.Test.YtdealgleehbhlaaDoorCondText2
import Derived.Test.YtdealgleehbhlaaDoorFigRef
namespace Go.Proofs.YtdealgleehbhlaaDoor
open Go.RowKit

set_option maxHeartbeats 2000000 in
theorem word_any (a : Atm) (w : World) (ha : Asz a) :
    Calls Tryd.prog 30 #[a.v] w fun e w' => e = .returned (.string ⟨(wordL a).toArray⟩) ∧ Below w.heap.size w w' := by
  obtain ⟨t, p, v, n⟩ := a
  obtain ⟨h1, h2, h3⟩ : in64 t ∧ in64 p ∧ in64 v := ha
  have l1 := itoa_len h1
  have l2 := itoa_len h2
  have l3 := itoa_len h3
  have hb0 := (Below.refl w.heap.size w).alloc (Nat.le_refl _) (.cells #[.int .i64 t, .int .i64 p, .int .i64 v, .bool n] 48)
  have K0 : Blk (w.alloc (.cells #[.int .i64 t, .int .i64 p, .int .i64 v, .bool n] 48)) w.heap.size #[.int .i64 t, .int .i64 p, .int .i64 v, .bool n] 48 := Blk.new
  have E9 : wordL ⟨t, p, v, n⟩ = (if t = -1 then [120] else Lib.itoa t ++ [58]) ++ Lib.itoa p ++ (bif n then [33] else []) ++ [61] ++ Lib.itoa v := rfl
  obtain ⟨T, hT⟩ : ∃ T, wordL ⟨t, p, v, n⟩ = T := ⟨_, rfl⟩
  rw [hT] at E9 ⊢
  unfold Atm.v
  dsimp only
  clear hT
  by_cases ht : t = -1
  · rw [if_pos ht] at E9
    have hh : (t == -1) = true := by simpa using ht
    cases n
    all_goals
      have E9 : Hid _ := E9
      clear ht
      go_enter Tryd.func30, Tryd.ntmps30
      go_wp2_with (go_at_call 42; refine (Figures_any _ _ rfl (by assumption) _).mono ?_; rintro e w1 ⟨rfl, hb1⟩; have hbn := Below.thru hb0 hb1 (Nat.le_refl _); have Kn := K0.keep hb1; clear hb0 K0 hb1; have hb0 := hbn; have K0 := Kn; clear hbn Kn; have f0 := K0.cell 0; have f1 := K0.cell 1; have f2 := K0.cell 2; have f3 := K0.cell 3; simp only [List.getElem?_toArray, List.getElem?_cons_zero, List.getElem?_cons_succ] at f0 f1 f2 f3)
      go_ret
      refine ⟨?_, hb0⟩
      rw [E9.out]
      simp [app_l]
  · rw [if_neg ht] at E9
    have hh : (t == -1) = false := by simpa using ht
    cases n
    all_goals
      have E9 : Hid _ := E9
      clear ht
      go_enter Tryd.func30, Tryd.ntmps30
      go_wp2_with (go_at_call 42; refine (Figures_any _ _ rfl (by assumption) _).mono ?_; rintro e w1 ⟨rfl, hb1⟩; have hbn := Below.thru hb0 hb1 (Nat.le_refl _); have Kn := K0.keep hb1; clear hb0 K0 hb1; have hb0 := hbn; have K0 := Kn; clear hbn Kn; have f0 := K0.cell 0; have f1 := K0.cell 1; have f2 := K0.cell 2; have f3 := K0.cell 3; simp only [List.getElem?_toArray, List.getElem?_cons_zero, List.getElem?_cons_succ] at f0 f1 f2 f3)
      go_ret
      refine ⟨?_, hb0⟩
      rw [E9.out]
      simp [app_l]

end Go.Proofs.YtdealgleehbhlaaDoor
