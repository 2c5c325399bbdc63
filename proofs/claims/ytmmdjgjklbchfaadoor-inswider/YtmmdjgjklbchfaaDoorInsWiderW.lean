/- The walk of InsWider: true, at all instructions. -/
import Derived.Test.YtmmdjgjklbchfaaDoorInsShown
import Derived.Test.YtmmdjgjklbchfaaDoorInsFacts
namespace Go.Proofs.YtmmdjgjklbchfaaDoor
open Go.RowKit

theorem May_is (op d a b l i behind locs : Int) (r : Bool) (w : World) (T : Tab w) (h : mayB op d a b l i behind locs = r) :
    Calls Tryd.prog 19 #[.agg #[.int .i64 op, .int .i64 d, .int .i64 a, .int .i64 b, .int .i64 l, .int .i64 i], .int .i64 behind, .int .i64 locs] w fun e w' => e = .returned (.bool r) ∧ Below w.heap.size w w' := by
  subst h; exact May_any op d a b l i behind locs w T
theorem Kind_is (op d a b l i k : Int) (w : World) (T : Tab w) (h : kindZ op = k) :
    Calls Tryd.prog 12 #[.agg #[.int .i64 op, .int .i64 d, .int .i64 a, .int .i64 b, .int .i64 l, .int .i64 i]] w fun e w' => e = .returned (.int .i64 k) ∧ Below w.heap.size w w' := by
  subst h; exact Kind_any op d a b l i w T

attribute [local go_sem] Ext.cell Ext.frozen

set_option maxHeartbeats 2000000 in
theorem InsWider_true (op d a b l i x y z : Int) (w : World) (T : Tab w) (x0 : 0 ≤ x) (x1 : x ≤ 255) (y0 : 0 ≤ y) (y1 : y ≤ 255) (z0 : 0 ≤ z) (z1 : z ≤ 255) :
    Calls Tryd.prog 5 #[.agg #[.int .i64 op, .int .i64 d, .int .i64 a, .int .i64 b, .int .i64 l, .int .i64 i], .int .u8 x, .int .u8 y, .int .u8 z] w fun e w' => e = .returned (.bool true) ∧ Below w.heap.size w w' := by
  have HS : ∃ r k : Bool, mayB op d a b l i x y = r ∧ (r = true → mayB op d a b l i (x + z) y = true ∧ mayB op d a b l i x (y + z) = true) ∧ (kindZ op != 0) = k ∧ (k = false → mayB op d a b l i x 0 = r) :=
    ⟨_, _, rfl, fun h => ⟨may_wider1 z0 h, may_wider2 z0 h⟩, rfl, fun h => may_plain (by simpa using h)⟩
  obtain ⟨r, k, h1, h2, h3, h4⟩ := HS
  have H1 : Hid _ := h1
  have H4 : Hid _ := h4
  have H2 : Hid _ := h2
  clear h1 h2 h4
  cases r
  all_goals
    cases k
  all_goals
    try (have H5 : Hid _ := (H2.out rfl).1; have H6 : Hid _ := (H2.out rfl).2)
    try (have H7 : Hid _ := H4.out rfl)
    clear H2 H4
    go_enter Tryd.func5, Tryd.ntmps5
    go_wp2_with fail
    refine (shown_any _ (T.alloc _)).mono ?_
    rintro e w1 ⟨rfl, hb⟩
    obtain ⟨hc, hf⟩ := bcell hb
    have B1 : Below w.heap.size w w1 := ((Below.refl _ _).alloc (Nat.le_refl _) _).trans (hb.mono (by simp))
    have hz1 : w.heap.size < w1.heap.size := by have := hb.size; simp at this; omega
    have T1 := T.below B1
    go_wp2
    have hne : ∀ w, Nonempty (Ext w) := ext_some
    refine wp_region_ext (by kernel_rfl) (by kernel_rfl) ?_
    repeat (go_big_quiet_step (first
      | (go_at_call 19; first | (with_reducible exact calls_ext (May_is _ _ _ _ _ _ _ _ _ _ (T1.below (Ext.ok _)) H1.out)) | (with_reducible exact calls_ext (May_is _ _ _ _ _ _ _ _ _ _ (T1.below (Ext.ok _)) H5.out)) | (with_reducible exact calls_ext (May_is _ _ _ _ _ _ _ _ _ _ (T1.below (Ext.ok _)) H6.out)) | (with_reducible exact calls_ext (May_is _ _ _ _ _ _ _ _ _ _ (T1.below (Ext.ok _)) H7.out)))
      | (go_at_call 12; exact calls_ext (Kind_any _ _ _ _ _ _ _ (T1.below (Ext.ok _))))))
    refine wpQuiet_nil ?_
    rintro _ ⟨p, rfl⟩
    go_wp2
    go_ret
    exact ⟨rfl, B1.trans (p.ok.mono B1.size)⟩
end Go.Proofs.YtmmdjgjklbchfaaDoor
