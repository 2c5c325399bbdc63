/- What the program reads of a line is what was written. -/
import Derived.Test.YtjmcplbhjihepaaDoorTextRead2
import Derived.Test.YtjmcplbhjihepaaDoorTextInit
namespace Go.Proofs.YtjmcplbhjihepaaDoor
open Go.RowKit

theorem pres_congr {op : Int} {v v' : Nat → Int} : ∀ k, (∀ j, j < k → v j = v' j) → pres op v k = pres op v' k
  | 0, _ => rfl
  | k + 1, h => by simp only [pres, pres_congr k (fun j hj => h j (by omega)), h k (by omega)]
theorem lineL_v (op : Int) (hop : 1 ≤ op ∧ op ≤ 14) (v : Nat → Int) : lineL op (v 0) (v 1) (v 2) (v 3) (v 4) = nameL op ++ body (pres op v 5) := by
  unfold lineL
  rw [if_pos hop, pres_congr 5]
  intro j hj
  have hk' : j = 0 ∨ j = 1 ∨ j = 2 ∨ j = 3 ∨ j = 4 := by omega
  rcases hk' with rfl | rfl | rfl | rfl | rfl <;> rfl
/-- What the program reads of a line. -/
theorem prog_reads {op : Int} (hop : 1 ≤ op ∧ op ≤ 14) {v : Nat → Int} (hv : ∀ k, in64 (v k)) (h0 : ∀ k, hasF op k = false → v k = 0) {s : List UInt8} (hs : lineL op (v 0) (v 1) (v 2) (v 3) (v 4) = s) :
    ∀ j, j < 5 → valAt op (cutB 32 s).2.1 j = v j := by
  intro j hj
  have hc := (cut_line (name_in hop).1 (pres op v 5)).2
  rw [← lineL_v op hop, hs] at hc
  exact read_back hv h0 5 0 (by show (cutB 32 s).2.1 = _; rw [hc, later_all]) j (by omega) (by omega)

def line2 : List UInt8 := [108, 100, 114, 32, 49, 32, 45, 49, 32, 48]
theorem line2_is : lineL 5 1 (-1) 0 0 0 = line2 := by
  unfold lineL
  rw [if_pos (by decide)]
  have h : pres 5 (pick5 1 (-1) 0 0 0) 5 = [1, -1, 0] := by decide
  rw [h]
  simp [body, figs, itoa_0, itoa_1, itoa_n1]
  decide
theorem Read_line2 (w : World) (E : Env w) :
    Calls Tryd.prog 5 #[.string ⟨line2.toArray⟩] w fun e w' => e = .returned (readV 5 1 (-1) 0 0 0 true) ∧ Below w.heap.size w w' := by
  have hv := prog_reads (op := 5) (by decide) (v := pick5 1 (-1) 0 0 0) (fun k => by unfold pick5; split <;> exact ⟨by decide, by decide⟩) (fun k h => by
    match k, h with
    | 0, h => exact absurd h (by decide)
    | 1, h => exact absurd h (by decide)
    | 2, h => rfl
    | 3, h => rfl
    | k + 4, h => rfl) line2_is
  have C := Read_some line2 (by decide) 5 (by decide) (by decide +kernel) (valAt 5 (cutB 32 line2).2.1) (fun _ => rfl) true (by
    rw [hv 0 (by omega), hv 1 (by omega), hv 2 (by omega), hv 3 (by omega), hv 4 (by omega)]
    exact decide_eq_true line2_is) w E
  rw [hv 0 (by omega), hv 1 (by omega), hv 2 (by omega), hv 3 (by omega), hv 4 (by omega)] at C
  exact C
end Go.Proofs.YtjmcplbhjihepaaDoor
