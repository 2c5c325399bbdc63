/- What Run tells. -/
import Derived.Test.YtpmaifmokhnboaaGreatDoorFlowStx
import Derived.Test.YtpmaifmokhnboaaGreatDoorFlowMay
import Derived.Test.YtpmaifmokhnboaaGreatDoorFlowP
namespace Go.Proofs.YtpmaifmokhnboaaGreatDoor
open Go.RowKit
attribute [local go_sem] Ext.cell Ext.frozen

theorem run_done {th : List Ins} {locs : Int} {vals : List Int} {lucks : List Bool} {s : St} (h : s.more ≠ 0 ∨ th.length ≤ s.next) (n : Nat) : St.run th locs vals lucks n s = s := by
  cases n with
  | zero => rfl
  | succ n =>
    unfold St.run
    rcases h with h | h
    · rw [if_neg h]
    · split
      · rw [List.getElem?_eq_none h]
      · rfl
theorem run_step {th : List Ins} {locs : Int} {vals : List Int} {lucks : List Bool} {s : St} (h : s.more = 0) (hn : s.next < th.length) (n : Nat) : St.run th locs vals lucks (n + 1) s = St.run th locs vals lucks n (s.inc.step locs vals lucks th[s.next]) := by
  rw [St.run, if_pos h, List.getElem?_eq_getElem hn]

/-- Where the runner in block b stands. -/
def nextOf (b : Nat) (w : World) : Nat := ((w.cell? ⟨b, 19, none⟩).map fun v => (intOf v).toNat).getD 0
theorem next_of {w : World} {b base : Nat} {locs : Int} {vv lv : Value} {r : Nat → Value} {s : St} (h : RunAt w b base locs vv lv r s) : nextOf b w = s.next := by
  obtain ⟨-, -, -, m, -⟩ := h.blk.more
  unfold nextOf
  rw [m]
  simp [intOf, St.tail]
theorem act_call (op : Int) (args : Array Value) (w : World) : Sem.run Tryz.prog (callFunc (actF op) args) w = .ok (.enter (actF op) args) w := by
  unfold actF
  repeat' split
  all_goals kernel_rfl
theorem step_next {locs : Int} {vals : List Int} {lucks : List Bool} {x : Ins} {s : St} : s.next ≤ (s.step locs vals lucks x).next := by
  unfold St.step
  split
  · split
    · exact Nat.le_refl _
    · unfold St.load; simp only []; split <;> exact Nat.le_refl _
  · split
    · exact Nat.le_refl _
    · split
      · split
        · split
          · exact Nat.le_refl _
          · split <;> exact Nat.le_refl _
        · exact Nat.le_refl _
      · split
        · exact Nat.le_refl _
        · split
          · exact Nat.le_refl _
          · split
            · simp only [St.branch]; split <;> omega
            · exact Nat.le_refl _

set_option maxHeartbeats 8000000 in
theorem run_zero (p pv pl : Option Addr) (c cv cl : Nat) (th : List Ins) (locs : Int) (vals : List Int) (lucks : List Bool) (w : World) (T : Tab w) (ht : Sl InsE w (.slice p th.length c) th) (hm : mayT th locs = false) :
    Calls Tryz.prog 82 #[.slice p th.length c, .int .i64 locs, .slice pv vals.length cv, .slice pl lucks.length cl] w fun e w' => ∃ r, e = .returned (trV r .zero) ∧ TrO w' w.heap.size r .zero ∧ Below w.heap.size w w' := by
  have HM : Hid _ := hm
  clear hm
  have hb0 := below_new w (.cells #[.slice none 0 0, .slice none 0 0, .slice none 0 0, .slice none 0 0, .slice none 0 0, .int .i64 0, .int .i64 0, .int .i64 0, .int .i64 0, .int .u32 0, .int .u32 0, .int .u32 0, .int .u32 0, .int .i64 0, .int .i64 0, .int .i64 0] 37)
  have k0 : TrB (w.alloc (.cells #[.slice none 0 0, .slice none 0 0, .slice none 0 0, .slice none 0 0, .slice none 0 0, .int .i64 0, .int .i64 0, .int .i64 0, .int .i64 0, .int .u32 0, .int .u32 0, .int .u32 0, .int .u32 0, .int .i64 0, .int .i64 0, .int .i64 0] 37)) w.heap.size (fun _ => .slice none 0 0) .zero 37 := Blk.new
  go_enter Tryz.func82, Tryz.ntmps82
  go_wp2_with (go_at_call 99; refine (may_any _ _ _ _ _ (T.below hb0) (ht.keep hb0)).mono ?_; rintro e w1 ⟨rfl, hb1⟩; rw [HM.out]; have k1 := k0.keep hb1; have lk := k1.lt; obtain ⟨x0, x1, x2, x3, x4⟩ := k1.rows; obtain ⟨⟨x5, x6, x7, x8⟩, x9, xa, xb, xc⟩ := k1.regs; obtain ⟨xd, xe, xf⟩ := k1.more; have f0 := k1.frozen 0; have f1 := k1.frozen 1; have f2 := k1.frozen 2; have f3 := k1.frozen 3; have f4 := k1.frozen 4; have f5 := k1.frozen 5; have f6 := k1.frozen 6; have f7 := k1.frozen 7; have f8 := k1.frozen 8; have f9 := k1.frozen 9; have fa := k1.frozen 10; have fb := k1.frozen 11; have fc := k1.frozen 12; have fd := k1.frozen 13; have fe := k1.frozen 14; have ff := k1.frozen 15)
  have B1 : Below w.heap.size w w1 := Below.thru hb0 hb1 (Nat.le_refl _)
  obtain ⟨wL, hwL, kL, BL⟩ : ∃ wL, wL = put16 w1 w.heap.size (fun _ => .slice none 0 0) .zero ∧ TrB wL w.heap.size (fun _ => .slice none 0 0) .zero 37 ∧ Below w.heap.size w wL := ⟨_, rfl, blk_put16 k1, below_put16 B1 (Nat.le_refl _) _ _⟩
  simp [put16, St.zero] at hwL
  rw [← hwL]
  clear hwL x0 x1 x2 x3 x4 x5 x6 x7 x8 x9 xa xb xc xd xe xf f0 f1 f2 f3 f4 f5 f6 f7 f8 f9 fa fb fc fd fe ff
  obtain ⟨x0, x1, x2, x3, x4⟩ := kL.rows
  obtain ⟨⟨x5, x6, x7, x8⟩, x9, xa, xb, xc⟩ := kL.regs
  obtain ⟨xd, xe, xf⟩ := kL.more
  exact bodyPost_ret (v := trV (fun _ => .slice none 0 0) .zero) (by simp [results, Tryz.results82, go_sem, trV, trC, x0, x1, x2, x3, x4, x5, x6, x7, x8, x9, xa, xb, xc, xd, xe, xf]) rfl ⟨_, rfl, ⟨_, Nat.le_refl _, run_five _ _⟩, BL⟩
end Go.Proofs.YtpmaifmokhnboaaGreatDoor
