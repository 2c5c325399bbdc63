/- The document's Run: what it tells. -/
import Derived.Test.YtgaannoghefbbaaGreatDoorFlowRefLoop
import Derived.Test.YtgaannoghefbbaaGreatDoorFlowRun2
namespace Go.Proofs.YtgaannoghefbbaaGreatDoor
open Go.RowKit
attribute [local go_sem] Ext.cell Ext.frozen

def k0R (p : Option Addr) (c0 : Nat) (th : List Ins) (locs : Int) : Nat → Value
  | 24 => .agg #[.slice none 0 0, .slice none 0 0, .slice none 0 0, .slice none 0 0, .slice none 0 0, .int .i64 0, .int .i64 0, .int .i64 0, .int .i64 0, .int .u32 0, .int .u32 0, .int .u32 0, .int .u32 0, .int .i64 0, .int .i64 0, .int .i64 0]
  | 25 => .slice p th.length c0
  | 26 => .int .i64 locs
  | 27 => .bool true
  | 28 => .bool false
  | _ => undef

set_option maxRecDepth 1000000 in
set_option maxHeartbeats 16000000 in
theorem rRun_zero (p pv pl : Option Addr) (c0 cv cl : Nat) (th : List Ins) (locs : Int) (vals : List Int) (lucks : List Bool) (w : World) (ht : Sl InsE w (.slice p th.length c0) th)
    (hm : mayT th locs = false) :
    Calls Tryz.prog 33 #[.slice p th.length c0, .int .i64 locs, .slice pv vals.length cv, .slice pl lucks.length cl] w fun e w' => ∃ r, e = .returned (trV r (runT th locs vals lucks)) ∧ TrA (fun b => w.heap.size ≤ b) w' r (runT th locs vals lucks) ∧ Below w.heap.size w w' := by
  have F1 := trivial
  have F2 := trivial
  have Ba := below_new w (.cells #[.slice none 0 0, .slice none 0 0, .slice none 0 0, .slice none 0 0, .slice none 0 0, .int .i64 0, .int .i64 0, .int .i64 0, .int .i64 0, .int .u32 0, .int .u32 0, .int .u32 0, .int .u32 0, .int .i64 0, .int .i64 0, .int .i64 0] 39)
  have ka : TrB (w.alloc (.cells #[.slice none 0 0, .slice none 0 0, .slice none 0 0, .slice none 0 0, .slice none 0 0, .int .i64 0, .int .i64 0, .int .i64 0, .int .i64 0, .int .u32 0, .int .u32 0, .int .u32 0, .int .u32 0, .int .i64 0, .int .i64 0, .int .i64 0] 39)) w.heap.size (fun _ => .slice none 0 0) .zero 39 := Blk.new
  have Bb := below_new (w.alloc (.cells #[.slice none 0 0, .slice none 0 0, .slice none 0 0, .slice none 0 0, .slice none 0 0, .int .i64 0, .int .i64 0, .int .i64 0, .int .i64 0, .int .u32 0, .int .u32 0, .int .u32 0, .int .u32 0, .int .i64 0, .int .i64 0, .int .i64 0] 39)) (.cells #[.slice none 0 0, .slice none 0 0, .slice none 0 0, .slice none 0 0, .slice none 0 0, .int .i64 0, .int .i64 0, .int .i64 0, .int .i64 0, .int .u32 0, .int .u32 0, .int .u32 0, .int .u32 0, .int .i64 0, .int .i64 0, .int .i64 0] 39)
  have kb : TrB ((w.alloc (.cells #[.slice none 0 0, .slice none 0 0, .slice none 0 0, .slice none 0 0, .slice none 0 0, .int .i64 0, .int .i64 0, .int .i64 0, .int .i64 0, .int .u32 0, .int .u32 0, .int .u32 0, .int .u32 0, .int .i64 0, .int .i64 0, .int .i64 0] 39)).alloc (.cells #[.slice none 0 0, .slice none 0 0, .slice none 0 0, .slice none 0 0, .slice none 0 0, .int .i64 0, .int .i64 0, .int .i64 0, .int .i64 0, .int .u32 0, .int .u32 0, .int .u32 0, .int .u32 0, .int .i64 0, .int .i64 0, .int .i64 0] 39)) (w.heap.size + 1) (fun _ => .slice none 0 0) .zero 39 := Blk.newAt (by simp)
  have HM : Hid _ := hm
  have E : Hid (runT th locs vals lucks = .zero) := by unfold Hid runT; rw [hm]; rfl
  clear hm
  go_enter Tryz.func33, Tryz.ntmps33
  go_wp2_with (first
    | (clear F2; refine wpList_storeB (by rfl) 39 (.tmp 9) (.tmp 24) (by rfl) (w.heap.size + 1) (trC (fun _ => .slice none 0 0) .zero) _ 39 (by rfl) (by rfl) kb (by kernel_rfl) (by rfl) (by simp [trC, Value.oneCell']) ?_; intro w1 kB oL zL; simp only [Act.put]; have B1 : Below w.heap.size w w1 := (Ba.trans (Bb.mono (by simp))).trans (oL.below (by simp; omega) (fun k hk => by omega)); have kz1 : TrB w1 w.heap.size (fun _ => .slice none 0 0) .zero 39 := Blk.only (ka.keep Bb) oL (by omega))
    | (go_at_call 48; clear F1; refine (refMayT_any _ _ _ _ _ (ht.keep B1)).mono ?_; rintro e w2 ⟨rfl, hb2⟩; rw [HM.out]; have kt2 := TrB.keep (r := fun _ => .slice none 0 0) (s := .zero) kB hb2; have kz2 := kz1.keep hb2; have B2 : Below w.heap.size w w2 := Below.thru B1 hb2 (Nat.le_refl _); obtain ⟨x0, x1, x2, x3, x4⟩ := kt2.rows; obtain ⟨⟨x5, x6, x7, x8⟩, x9, xa, xb, xc⟩ := kt2.regs; obtain ⟨xd, xe, xf⟩ := kt2.more; simp only [St.zero] at x5 x6 x7 x8 x9 xa xb xc xd xe xf; have lt2 := kt2.lt; have FX := trivial)
    | (clear FX; refine wpList_storeB (by rfl) 39 (.tmp 8) (.tmp 29) (by rfl) w.heap.size (trC (fun _ => .slice none 0 0) .zero) _ 39 (by rfl) (by rfl) kz2 (by kernel_rfl) (by rfl) (by simp [trC, Value.oneCell']) ?_; intro wL kL oZ zZ; simp only [Act.put]))
  have kL' : TrB wL w.heap.size (fun _ => .slice none 0 0) .zero 39 := kL
  clear x0 x1 x2 x3 x4 x5 x6 x7 x8 x9 xa xb xc xd xe xf
  obtain ⟨x0, x1, x2, x3, x4⟩ := kL'.rows
  obtain ⟨⟨x5, x6, x7, x8⟩, x9, xa, xb, xc⟩ := kL'.regs
  obtain ⟨xd, xe, xf⟩ := kL'.more
  refine bodyPost_ret (v := trV (fun _ => .slice none 0 0) .zero) (by simp [results, Tryz.results33, go_sem, trV, trC, x0, x1, x2, x3, x4, x5, x6, x7, x8, x9, xa, xb, xc, xd, xe, xf]) rfl ⟨fun _ => .slice none 0 0, by rw [E.out], by rw [E.out]; exact tra_zero _ _, B2.trans (oZ.below B2.size (fun k hk => by omega))⟩
end Go.Proofs.YtgaannoghefbbaaGreatDoor
