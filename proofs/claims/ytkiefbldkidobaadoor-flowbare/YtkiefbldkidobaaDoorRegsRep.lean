/- Registers as data: four numbers, four sets of loads; what Get, Set and the small ones of package regs return. -/
import Derived.Test.YtkiefbldkidobaaDoorProg
import Derived.Test.YtkiefbldkidobaaDoorKit
import Derived.Laws.Build
namespace Go.Proofs.YtkiefbldkidobaaDoor
open Go.RowKit
attribute [local go_sem] Ext.cell Ext.frozen

/-- A file of registers, as a value. -/
def fileV (v d : Nat → Int) : Value := .agg #[.int .i64 (v 0), .int .i64 (v 1), .int .i64 (v 2), .int .i64 (v 3), .int .u32 (d 0), .int .u32 (d 1), .int .u32 (d 2), .int .u32 (d 3)]
/-- One of them, 0 where there is none. -/
def atR (v : Nat → Int) (n : Int) : Int := if 0 ≤ n ∧ n < 4 then v n.toNat else 0
/-- With another one. -/
def upd (v : Nat → Int) (n x : Int) : Nat → Int := fun k => if (k : Int) = n then x else v k

theorem reg_cases (n : Int) : n = 0 ∨ n = 1 ∨ n = 2 ∨ n = 3 ∨ (n < 0 ∨ 4 ≤ n) := by omega
theorem atR_0 (v : Nat → Int) : atR v 0 = v 0 := rfl
theorem atR_1 (v : Nat → Int) : atR v 1 = v 1 := rfl
theorem atR_2 (v : Nat → Int) : atR v 2 = v 2 := rfl
theorem atR_3 (v : Nat → Int) : atR v 3 = v 3 := rfl
theorem atR_out (v : Nat → Int) {n : Int} (h : n < 0 ∨ 4 ≤ n) : atR v n = 0 := if_neg (by omega)
theorem atR_in (v : Nat → Int) {k : Nat} (h : k < 4) : atR v (k : Int) = v k := by
  unfold atR
  rw [if_pos ⟨by omega, by omega⟩]
  rfl
theorem upd_same (v : Nat → Int) (k : Nat) (x : Int) : upd v (k : Int) x k = x := if_pos rfl
theorem upd_other (v : Nat → Int) {k : Nat} {n : Int} (x : Int) (h : (k : Int) ≠ n) : upd v n x k = v k := if_neg h
theorem fileV_out (v d : Nat → Int) {n : Int} (x y : Int) (h : n < 0 ∨ 4 ≤ n) : fileV (upd v n x) (upd d n y) = fileV v d := by
  unfold fileV
  simp only [upd]
  repeat rw [if_neg (by omega)]

theorem regsReg_any (n : Int) (w : World) : Calls Tryd.prog 58 #[.int .i64 n] w fun e w' => e = .returned (.bool (decide (0 ≤ n ∧ n < 4))) ∧ w' = w := by
  by_cases h : 0 ≤ n
  · by_cases h' : n < 4
    · rw [decide_eq_true (And.intro h h')]
      go_enter Tryd.func58, Tryd.ntmps58
      go_wp2
      go_ret
      exact ⟨rfl, rfl⟩
    · rw [decide_eq_false (fun x => h' x.2)]
      go_enter Tryd.func58, Tryd.ntmps58
      go_wp2
      go_ret
      exact ⟨rfl, rfl⟩
  · rw [decide_eq_false (fun x => h x.1)]
    go_enter Tryd.func58, Tryd.ntmps58
    go_wp2
    go_ret
    exact ⟨rfl, rfl⟩
theorem regsReg_is (n : Int) (w : World) (r : Bool) (h : decide (0 ≤ n ∧ n < 4) = r) : Calls Tryd.prog 58 #[.int .i64 n] w fun e w' => e = .returned (.bool r) ∧ w' = w := by
  subst h; exact regsReg_any n w

set_option maxHeartbeats 1000000 in
theorem Get_any (v d : Nat → Int) (n : Int) (w : World) : Calls Tryd.prog 54 #[fileV v d, .int .i64 n] w fun e w' => e = .returned (.tuple #[.int .i64 (atR v n), .int .u32 (atR d n)]) ∧ Below w.heap.size w w' := by
  unfold fileV
  rcases reg_cases n with h | h | h | h | h
  case inr.inr.inr.inr =>
    rw [atR_out v h, atR_out d h]
    have hr : decide (0 ≤ n ∧ n < 4) = false := decide_eq_false (by omega)
    go_enter Tryd.func54, Tryd.ntmps54
    go_wp2_with (go_at_call 58; refine (regsReg_is _ _ _ hr).mono ?_; rintro e w' ⟨rfl, rfl⟩)
    go_returns
    exact ⟨rfl, by go_grown⟩
  all_goals
    subst h
    go_enter Tryd.func54, Tryd.ntmps54
    go_wp2_with (go_at_call 58; refine (regsReg_is _ _ _ rfl).mono ?_; rintro e w' ⟨rfl, rfl⟩)
    have hne : ∀ w, Nonempty (Ext w) := ext_some
    refine wp_region_ext (by kernel_rfl) (by kernel_rfl) ?_
    repeat (go_big_quiet_step (fail))
    refine wpQuiet_nil ?_
    rintro _ ⟨rr, rfl⟩
    go_wp2
    go_returns
    exact ⟨rfl, Below.thru ((Below.refl _ _).alloc (Nat.le_refl _) _) (rr.ok) (by simp)⟩
end Go.Proofs.YtkiefbldkidobaaDoor
