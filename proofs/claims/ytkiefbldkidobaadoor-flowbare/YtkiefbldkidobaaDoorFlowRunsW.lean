/- FlowRuns, walked: it answers true. -/
import Derived.Test.YtkiefbldkidobaaDoorFlowShown
import Derived.Test.YtkiefbldkidobaaDoorFlowRefRun2
import Derived.Test.YtkiefbldkidobaaDoorFlowMath3
namespace Go.Proofs.YtkiefbldkidobaaDoor
open Go.RowKit
attribute [local go_sem] Ext.cell Ext.frozen

set_option maxHeartbeats 4000000 in
theorem FlowRuns_true (p pv pl : Option Addr) (c cv cl : Nat) (th : List Ins) (locs : Int) (vals : List Int) (lucks : List Bool) (w : World) (T : FEnv w) (ht : Sl InsE w (.slice p th.length c) th) (hv : Sl IntE w (.slice pv vals.length cv) vals) (hl : Sl BoolE w (.slice pl lucks.length cl) lucks) :
    Calls Tryd.prog 3 #[.slice p th.length c, .int .i64 locs, .slice pv vals.length cv, .slice pl lucks.length cl] w fun e w' => e = .returned (.bool true) ∧ Below w.heap.size w w' := by
  by_cases hn : th.length ≤ 40 ∧ vals.length ≤ 40 ∧ lucks.length ≤ 40
  · obtain ⟨n1, n2, n3⟩ := hn
    have n1' : (th.length : Int) ≤ 40 := by omega
    have n2' : (vals.length : Int) ≤ 40 := by omega
    have n3' : (lucks.length : Int) ≤ 40 := by omega
    have hlen := runT_lens th locs vals lucks
    have hA := fun W (hb : Below w.heap.size w W) => Run_any p pv pl c cv cl th locs vals lucks W (T.below hb).tab (T.below hb).bar (ht.keep hb) (hv.keep hb) (hl.keep hb) (by omega) (by omega)
    have hB := fun W (hb : Below w.heap.size w W) => rRun_any p pv pl c cv cl th locs vals lucks W (ht.keep hb) (hv.keep hb) (hl.keep hb) (by omega) (by omega)
    generalize runT th locs vals lucks = D at *
    have HA : Hid _ := hA
    have HB : Hid _ := hB
    have HL : Hid _ := hlen
    clear hA hB hlen
    have F1 := trivial
    go_enter Tryd.func3, Tryd.ntmps3
    go_wp2_with (first
      | (go_at_call 9; clear F1; refine (shown8_any _ T).mono ?_; rintro e w1 ⟨rfl, hb1⟩; have F2 := trivial)
      | (go_at_call 12; clear F2; refine (HA.out _ hb1).mono ?_; rintro e w2 ⟨r, rfl, hT, hb2⟩; have B2 := Below.thru hb1 hb2 (Nat.le_refl _); have F3 := trivial)
      | (go_at_call 11; clear F3; refine (real_is r D _ hT).mono ?_; rintro e w3 ⟨rfl, hb3⟩; have B3 := Below.thru B2 hb3 (Nat.le_refl _); have hT3 := hT.keep hb3; have F4 := trivial)
      | (go_at_call 13; clear F4; refine (HB.out _ B3).mono ?_; rintro e w4 ⟨r4, rfl, hU, hb4⟩; have B4 := Below.thru B3 hb4 (Nat.le_refl _); have hT4 := hT3.keep hb4; have F5 := trivial)
      | (go_at_call 10; clear F5; refine (Same_is r r4 D _ hT4 hU HL.out).mono ?_; rintro e w5 ⟨rfl, hb5⟩; have B5 := Below.thru B4 hb5 (Nat.le_refl _)))
    go_returns
    exact ⟨rfl, B5⟩
  · have hcase : 40 < th.length ∨ (th.length ≤ 40 ∧ 40 < vals.length) ∨ (th.length ≤ 40 ∧ vals.length ≤ 40 ∧ 40 < lucks.length) := by omega
    rcases hcase with h | ⟨h1, h⟩ | ⟨h1, h2, h⟩
    · have n1' : ¬ (th.length : Int) ≤ 40 := by omega
      go_enter Tryd.func3, Tryd.ntmps3
      go_wp2_with (go_at_call 9; refine (shown8_any _ T).mono ?_; rintro e w1 ⟨rfl, hb1⟩)
      go_returns
      exact ⟨rfl, hb1⟩
    · have n1' : (th.length : Int) ≤ 40 := by omega
      have n2' : ¬ (vals.length : Int) ≤ 40 := by omega
      go_enter Tryd.func3, Tryd.ntmps3
      go_wp2_with (go_at_call 9; refine (shown8_any _ T).mono ?_; rintro e w1 ⟨rfl, hb1⟩)
      go_returns
      exact ⟨rfl, hb1⟩
    · have n1' : (th.length : Int) ≤ 40 := by omega
      have n2' : (vals.length : Int) ≤ 40 := by omega
      have n3' : ¬ (lucks.length : Int) ≤ 40 := by omega
      go_enter Tryd.func3, Tryd.ntmps3
      go_wp2_with (go_at_call 9; refine (shown8_any _ T).mono ?_; rintro e w1 ⟨rfl, hb1⟩)
      go_returns
      exact ⟨rfl, hb1⟩
end Go.Proofs.YtkiefbldkidobaaDoor
