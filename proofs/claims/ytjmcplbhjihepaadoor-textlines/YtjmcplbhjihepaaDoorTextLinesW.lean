/- The walk of the law TextLines: it answers true. -/
import Derived.Test.YtjmcplbhjihepaaDoorTextBoth
import Derived.Test.YtjmcplbhjihepaaDoorTextParse
namespace Go.Proofs.YtjmcplbhjihepaaDoor
open Go.RowKit

attribute [local go_sem] Ext.cell Ext.frozen

set_option maxRecDepth 100000 in
set_option maxHeartbeats 4000000 in
theorem TextLines_true (op d a b l i : Int) (s : ByteArray) (w : World) (E : Env w) (hv : ∀ k, in64 (pick5 d a b l i k)) :
    Calls Tryd.prog 3 #[.agg #[.int .i64 op, .int .i64 d, .int .i64 a, .int .i64 b, .int .i64 l, .int .i64 i], .string s] w fun e w' => e = .returned (.bool true) ∧ Below w.heap.size w w' := by
  obtain ⟨sl, rfl⟩ : ∃ sl : List UInt8, s = ⟨sl.toArray⟩ := ⟨s.data.toList, (Lib.mk_data s).symm⟩
  have hsz := size_l sl
  go_enter Tryd.func3, Tryd.ntmps3
  go_wp2_with fail
  refine (shown3_any _ (E.alloc _)).mono ?_
  rintro e w1 ⟨rfl, hb1⟩
  have hX1 : Blk w1 w.heap.size #[.int .i64 op, .int .i64 d, .int .i64 a, .int .i64 b, .int .i64 l, .int .i64 i] 23 := Blk.keep Blk.new hb1
  have hB1 : Below w.heap.size w w1 := ((Below.refl _ _).alloc (Nat.le_refl _) _).trans (hb1.mono (by simp))
  clear hb1
  by_cases hlen : 300 < sl.length
  · go_wp2
    go_ret
    exact ⟨rfl, hB1⟩
  · obtain ⟨op', d', a', b', l', i', ok, HP, HR⟩ := both_read sl (by omega)
    have hP : Hid _ := HP
    have hR : Hid _ := HR
    clear HP HR
    go_wp2_with fail
    have C := hP.out w1 (E.below hB1)
    unfold readV at C
    refine C.mono ?_
    clear C
    rintro e w2 ⟨rfl, hb2⟩
    have hB2 := hB1.trans (hb2.mono hB1.size)
    have hX2 := hX1.keep hb2
    clear hX1 hb2
    go_wp2_with fail
    have hB3 := hB2.alloc hB2.size (.cells #[.int .i64 op', .int .i64 d', .int .i64 a', .int .i64 b', .int .i64 l', .int .i64 i'] 23)
    have C := hR.out (w2.alloc (.cells #[.int .i64 op', .int .i64 d', .int .i64 a', .int .i64 b', .int .i64 l', .int .i64 i'] 23))
    unfold readV at C
    refine C.mono ?_
    clear C
    rintro e w4 ⟨rfl, hb4⟩
    have hB4 := hB3.trans (hb4.mono hB3.size)
    have hX4 := (hX2.alloc (.cells #[.int .i64 op', .int .i64 d', .int .i64 a', .int .i64 b', .int .i64 l', .int .i64 i'] 23)).keep hb4
    have hY4 : Blk w4 w2.heap.size #[.int .i64 op', .int .i64 d', .int .i64 a', .int .i64 b', .int .i64 l', .int .i64 i'] 23 := Blk.keep Blk.new hb4
    clear hX2 hb4 hB3
    generalize w2.heap.size = Y at *
    generalize hXX : w.heap.size = X at hX4 ⊢
    have HX : Hid _ := hXX
    clear hXX
    go_wp2_with fail
    generalize hW5 : w4.alloc (Obj.cells #[Value.int IntKind.i64 op', Value.int IntKind.i64 d', Value.int IntKind.i64 a', Value.int IntKind.i64 b', Value.int IntKind.i64 l', Value.int IntKind.i64 i'] 23) = w5
    have hX5 : Blk w5 X #[.int .i64 op, .int .i64 d, .int .i64 a, .int .i64 b, .int .i64 l, .int .i64 i] 23 := by rw [← hW5]; exact hX4.alloc _
    have hY5 : Blk w5 Y #[.int .i64 op', .int .i64 d', .int .i64 a', .int .i64 b', .int .i64 l', .int .i64 i'] 23 := by rw [← hW5]; exact hY4.alloc _
    have hZ5 : Blk w5 w4.heap.size #[.int .i64 op', .int .i64 d', .int .i64 a', .int .i64 b', .int .i64 l', .int .i64 i'] 23 := by rw [← hW5]; exact Blk.new
    have hB5 : Below w.heap.size w w5 := by rw [← hW5]; exact hB4.alloc hB4.size _
    clear hW5 hX4 hY4
    generalize w4.heap.size = Z at *
    have zX := hX5.lt
    have zY := hY5.lt
    have zZ := hZ5.lt
    have cX : ∀ j, w5.cell? ⟨X, j, none⟩ = #[Value.int .i64 op, .int .i64 d, .int .i64 a, .int .i64 b, .int .i64 l, .int .i64 i][j]? := fun j => hX5.cell j
    have cY : ∀ j, w5.cell? ⟨Y, j, none⟩ = #[Value.int .i64 op', .int .i64 d', .int .i64 a', .int .i64 b', .int .i64 l', .int .i64 i'][j]? := fun j => hY5.cell j
    have cZ : ∀ j, w5.cell? ⟨Z, j, none⟩ = #[Value.int .i64 op', .int .i64 d', .int .i64 a', .int .i64 b', .int .i64 l', .int .i64 i'][j]? := fun j => hZ5.cell j
    have E5 := E.below hB5
    have HL : Hid (∀ p : Ext w5, Calls Tryd.prog 7 #[.agg #[.int .i64 op, .int .i64 d, .int .i64 a, .int .i64 b, .int .i64 l, .int .i64 i]] p.wd fun e w'' => e = .returned (.string ⟨(lineL op d a b l i).toArray⟩) ∧ ∃ q : Ext w5, w'' = q.wd) := fun p => calls_ext (Line_any op d a b l i hv p.wd (E5.below p.ok))
    have HM : Hid (∀ p : Ext w5, Calls Tryd.prog 8 #[.agg #[.int .i64 op, .int .i64 d, .int .i64 a, .int .i64 b, .int .i64 l, .int .i64 i]] p.wd fun e w'' => e = .returned (.string ⟨(lineL op d a b l i).toArray⟩) ∧ ∃ q : Ext w5, w'' = q.wd) := fun p => calls_ext (refLine_any op d a b l i hv p.wd)
    have hne : ∀ w, Nonempty (Ext w) := ext_some
    generalize lineL op d a b l i = L at *
    refine wp_region_ext (by kernel_rfl) (by kernel_rfl) ?_
    repeat (go_big_quiet_step (first
      | (go_at_call 7; exact HL.out _)
      | (go_at_call 8; exact HM.out _)))
    refine wpQuiet_nil ?_
    rintro _ ⟨p, rfl⟩
    go_wp2
    go_ret
    exact ⟨rfl, hB5.trans (p.ok.mono hB5.size)⟩
end Go.Proofs.YtjmcplbhjihepaaDoor
