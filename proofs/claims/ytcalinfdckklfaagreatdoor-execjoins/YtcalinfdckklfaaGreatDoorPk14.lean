/- Two lists that are the same are told so; so are two traces. -/
import Derived.Test.YtcalinfdckklfaaGreatDoorPk5
import Derived.Test.YtcalinfdckklfaaGreatDoorPk3
namespace Go.Proofs.YtcalinfdckklfaaGreatDoor
open Go.RowKit
attribute [local go_sem] Ext.cell Ext.frozen

set_option maxHeartbeats 2000000 in
theorem Events_same (p q : Option Addr) (c d : Nat) (l : List Ev) (w : World) (hp : Sl EvE w (.slice p l.length c) l) (hq : Sl EvE w (.slice q l.length d) l) (hn : l.length ≤ 1000000) :
    Calls Tryz.prog 37 #[.slice p l.length c, .slice q l.length d] w fun e w' => e = .returned (.bool true) ∧ Below w.heap.size w w' := by
  have hne : ∀ w, Nonempty (Ext w) := ext_some
  have hnn : ((l.length : Int) != (l.length : Int)) = false := by simp
  go_enter Tryz.func37, Tryz.ntmps37
  go_wp2
  go_loopw [5] (fun i wr => ∃ k : Nat, k ≤ l.length ∧ i = .int .i64 k ∧ Below w.heap.size w wr) (fun i _ => l.length - (intOf i).toNat)
  case atStart => exact ⟨0, Nat.zero_le _, rfl, by go_grown⟩
  case round =>
    obtain ⟨k, hk, rfl, hB⟩ := hrel
    by_cases hlt : k < l.length
    · obtain ⟨ab, ao, rfl, a0, a1, a2, a3, a4, a5, a6⟩ := (ev_at (hp.keep hB)).2 k hlt
      obtain ⟨bb, bo, rfl, b0, b1, b2, b3, b4, b5, b6⟩ := (ev_at (hq.keep hB)).2 k hlt
      generalize l[k] = x at *
      have hwr : wrap64 ((k : Int) + 1) = (k : Int) + 1 := wrap_is (by omega) (by omega)
      have la := cell_lt a0
      have lb := cell_lt b0
      go_wp2
      refine wp_region_ext (by kernel_rfl) (by kernel_rfl) ?_
      repeat (go_big_quiet_step (fail))
      refine wpQuiet_nil ?_
      rintro _ ⟨rr, rfl⟩
      go_wp2
      go_roundw
      case rel => exact ⟨k + 1, by omega, by go_num, Below.thru hB rr.ok (Nat.le_refl _)⟩
      case measure => simp [intOf]; omega
    · go_wp2
      go_returns
      exact ⟨rfl, hB⟩

theorem Events_is (va vb : Value) (l : List Ev) (w : World) (hp : Sl EvE w va l) (hq : Sl EvE w vb l) (hn : l.length ≤ 1000000) :
    Calls Tryz.prog 37 #[va, vb] w fun e w' => e = .returned (.bool true) ∧ Below w.heap.size w w' := by
  obtain ⟨p, c, rfl⟩ := hp.len
  obtain ⟨q, d, rfl⟩ := hq.len
  exact Events_same p q c d l w hp hq hn
attribute [local go_sem] four_same' fourD_same'
end Go.Proofs.YtcalinfdckklfaaGreatDoor
