/- The document's Run: what it tells of a thread that may be. -/
import Derived.Test.YtgaannoghefbbaaGreatDoorFlowRefRun
import Derived.Test.YtgaannoghefbbaaGreatDoorFlowRun2
namespace Go.Proofs.YtgaannoghefbbaaGreatDoor
open Go.RowKit
attribute [local go_sem] Ext.cell Ext.frozen

set_option maxRecDepth 1000000 in
set_option maxHeartbeats 16000000 in
theorem rRun_some (p pv pl : Option Addr) (c0 cv cl : Nat) (th : List Ins) (locs : Int) (vals : List Int) (lucks : List Bool) (w : World) (ht : Sl InsE w (.slice p th.length c0) th) (hv : Sl IntE w (.slice pv vals.length cv) vals) (hl : Sl BoolE w (.slice pl lucks.length cl) lucks)
    (nv : vals.length ≤ 1000000) (nl : lucks.length ≤ 1000000) (hm : mayT th locs = true) :
    Calls Tryz.prog 33 #[.slice p th.length c0, .int .i64 locs, .slice pv vals.length cv, .slice pl lucks.length cl] w fun e w' => ∃ r, e = .returned (trV r (runT th locs vals lucks)) ∧ TrA (fun b => w.heap.size ≤ b) w' r (runT th locs vals lucks) ∧ Below w.heap.size w w' := by
  have F1 := trivial
  have F2 := trivial
  have Ba := below_new w (.cells #[.slice none 0 0, .slice none 0 0, .slice none 0 0, .slice none 0 0, .slice none 0 0, .int .i64 0, .int .i64 0, .int .i64 0, .int .i64 0, .int .u32 0, .int .u32 0, .int .u32 0, .int .u32 0, .int .i64 0, .int .i64 0, .int .i64 0] 39)
  have ka : TrB (w.alloc (.cells #[.slice none 0 0, .slice none 0 0, .slice none 0 0, .slice none 0 0, .slice none 0 0, .int .i64 0, .int .i64 0, .int .i64 0, .int .i64 0, .int .u32 0, .int .u32 0, .int .u32 0, .int .u32 0, .int .i64 0, .int .i64 0, .int .i64 0] 39)) w.heap.size (fun _ => .slice none 0 0) .zero 39 := Blk.new
  have Bb := below_new (w.alloc (.cells #[.slice none 0 0, .slice none 0 0, .slice none 0 0, .slice none 0 0, .slice none 0 0, .int .i64 0, .int .i64 0, .int .i64 0, .int .i64 0, .int .u32 0, .int .u32 0, .int .u32 0, .int .u32 0, .int .i64 0, .int .i64 0, .int .i64 0] 39)) (.cells #[.slice none 0 0, .slice none 0 0, .slice none 0 0, .slice none 0 0, .slice none 0 0, .int .i64 0, .int .i64 0, .int .i64 0, .int .i64 0, .int .u32 0, .int .u32 0, .int .u32 0, .int .u32 0, .int .i64 0, .int .i64 0, .int .i64 0] 39)
  have kb : TrB ((w.alloc (.cells #[.slice none 0 0, .slice none 0 0, .slice none 0 0, .slice none 0 0, .slice none 0 0, .int .i64 0, .int .i64 0, .int .i64 0, .int .i64 0, .int .u32 0, .int .u32 0, .int .u32 0, .int .u32 0, .int .i64 0, .int .i64 0, .int .i64 0] 39)).alloc (.cells #[.slice none 0 0, .slice none 0 0, .slice none 0 0, .slice none 0 0, .slice none 0 0, .int .i64 0, .int .i64 0, .int .i64 0, .int .i64 0, .int .u32 0, .int .u32 0, .int .u32 0, .int .u32 0, .int .i64 0, .int .i64 0, .int .i64 0] 39)) (w.heap.size + 1) (fun _ => .slice none 0 0) .zero 39 := Blk.newAt (by simp)
  obtain ⟨R, hR⟩ : ∃ R, St.run th locs vals lucks th.length .zero = R := ⟨_, rfl⟩
  have E : Hid (runT th locs vals lucks = R) := by unfold Hid runT; rw [hm, if_pos rfl, hR]
  have HM : Hid _ := hm
  have hok : ((th.length ≤ 8 ∧ locs ≤ 3) ∧ 1 ≤ locs) ∧ ∀ k x, th[k]? = some x → InsOk locs (th.length - 1 - k) x := by
    unfold mayT at hm
    simp only [Bool.and_eq_true, decide_eq_true_eq] at hm
    exact ⟨⟨⟨hm.1.1, hm.1.2.2⟩, hm.1.2.1⟩, mayF_at hm.2⟩
  obtain ⟨⟨⟨h8, h3⟩, h1⟩, hok⟩ := hok
  have HE : Hid (REnv p pv pl c0 cv cl th locs vals lucks w) := ⟨ht, hv, hl, nv, nl, h1, h3, h8, hok⟩
  have HR : Hid _ := hR
  clear hm hok hR h1 h3 h8
  go_enter Tryz.func33, Tryz.ntmps33
  go_wp2_with (first
    | (clear F2; refine wpList_storeB (by rfl) 39 (.tmp 9) (.tmp 24) (by rfl) (w.heap.size + 1) (trC (fun _ => .slice none 0 0) .zero) _ 39 (by rfl) (by rfl) kb (by kernel_rfl) (by rfl) (by simp [trC, Value.oneCell']) ?_; intro w1 kB oL zL; simp only [Act.put]; have B1 : Below w.heap.size w w1 := (Ba.trans (Bb.mono (by simp))).trans (oL.below (by simp; omega) (fun k hk => by omega)); have kz1 : TrB w1 w.heap.size (fun _ => .slice none 0 0) .zero 39 := Blk.only (ka.keep Bb) oL (by omega))
    | (go_at_call 48; clear F1; refine (refMayT_any _ _ _ _ _ (ht.keep B1)).mono ?_; rintro e w2 ⟨rfl, hb2⟩; rw [HM.out]; have kt2 := TrB.keep (r := fun _ => .slice none 0 0) (s := .zero) kB hb2; have kz2 := kz1.keep hb2; have B2 : Below w.heap.size w w2 := Below.thru B1 hb2 (Nat.le_refl _)))
  refine rr_loop p pv pl c0 cv cl th locs vals lucks w R (k0R p c0 th locs) (fun _ => undef) .zero (fun _ => .slice none 0 0) th.length w2 _ HE.out ⟨kt2, kz2, tra_zero _ _, stOk_zero _ _ _, rfl, fun k => ⟨by simp [St.zero], by simp [St.zero]⟩, by omega, HR.out, B2⟩ ?_ ?_ (fun _ _ d _ _ h => by cases d <;> exact h)
  · rintro a' w3 ⟨r, f, H, rfl⟩
    obtain ⟨x0, x1, x2, x3, x4⟩ := H.kt.rows
    obtain ⟨⟨x5, x6, x7, x8⟩, x9, xa, xb, xc⟩ := H.kt.regs
    obtain ⟨xd, xe, xf⟩ := H.kt.more
    have lt3 := H.kt.lt
    have FX := trivial
    unfold rfrm
    go_wp2_with (clear FX; refine wpList_storeB (by rfl) 39 (.tmp 8) (.tmp 245) (by rfl) w.heap.size (trC r R) _ 39 (by rfl) (by rfl) H.kz (by kernel_rfl) (by rfl) (one16A H.tr) ?_; intro wL kL oZ zZ; simp only [Act.put])
    have kL' : TrB wL w.heap.size r R 39 := kL
    clear x0 x1 x2 x3 x4 x5 x6 x7 x8 x9 xa xb xc xd xe xf
    obtain ⟨x0, x1, x2, x3, x4⟩ := kL'.rows
    obtain ⟨⟨x5, x6, x7, x8⟩, x9, xa, xb, xc⟩ := kL'.regs
    obtain ⟨xd, xe, xf⟩ := kL'.more
    refine bodyPost_ret (v := trV r R) (by simp [results, Tryz.results33, go_sem, trV, trC, x0, x1, x2, x3, x4, x5, x6, x7, x8, x9, xa, xb, xc, xd, xe, xf]) rfl ⟨r, by rw [E.out], by rw [E.out]; exact (H.tr.only oZ (fun b hb e => hb.1 e)).nw, H.B.trans (oZ.below H.B.size (fun k hk => by omega))⟩
  · rintro ⟨t, ds⟩ w3 ⟨h8', hd, r, kL', hT, hB⟩
    simp only at h8' hd
    subst hd
    obtain ⟨x0, x1, x2, x3, x4⟩ := kL'.rows
    obtain ⟨⟨x5, x6, x7, x8⟩, x9, xa, xb, xc⟩ := kL'.regs
    obtain ⟨xd, xe, xf⟩ := kL'.more
    go_wp2
    refine bodyPost_ret (v := trV r R) (by simp [results, Tryz.results33, go_sem, trV, trC, h8', x0, x1, x2, x3, x4, x5, x6, x7, x8, x9, xa, xb, xc, xd, xe, xf]) rfl ⟨r, by rw [E.out], by rw [E.out]; exact hT, hB⟩
theorem rRun_own (p pv pl : Option Addr) (c0 cv cl : Nat) (th : List Ins) (locs : Int) (vals : List Int) (lucks : List Bool) (w : World) (ht : Sl InsE w (.slice p th.length c0) th) (hv : Sl IntE w (.slice pv vals.length cv) vals) (hl : Sl BoolE w (.slice pl lucks.length cl) lucks)
    (nv : vals.length ≤ 1000000) (nl : lucks.length ≤ 1000000) :
    Calls Tryz.prog 33 #[.slice p th.length c0, .int .i64 locs, .slice pv vals.length cv, .slice pl lucks.length cl] w fun e w' => ∃ r, e = .returned (trV r (runT th locs vals lucks)) ∧ TrA (fun b => w.heap.size ≤ b) w' r (runT th locs vals lucks) ∧ Below w.heap.size w w' := by
  cases hm : mayT th locs
  · exact rRun_zero p pv pl c0 cv cl th locs vals lucks w ht hm
  · exact rRun_some p pv pl c0 cv cl th locs vals lucks w ht hv hl nv nl hm
theorem rRun_any (p pv pl : Option Addr) (c0 cv cl : Nat) (th : List Ins) (locs : Int) (vals : List Int) (lucks : List Bool) (w : World) (ht : Sl InsE w (.slice p th.length c0) th) (hv : Sl IntE w (.slice pv vals.length cv) vals) (hl : Sl BoolE w (.slice pl lucks.length cl) lucks)
    (nv : vals.length ≤ 1000000) (nl : lucks.length ≤ 1000000) :
    Calls Tryz.prog 33 #[.slice p th.length c0, .int .i64 locs, .slice pv vals.length cv, .slice pl lucks.length cl] w fun e w' => ∃ r, e = .returned (trV r (runT th locs vals lucks)) ∧ TrIs w' r (runT th locs vals lucks) ∧ Below w.heap.size w w' :=
  (rRun_own p pv pl c0 cv cl th locs vals lucks w ht hv hl nv nl).mono fun _ _ ⟨r, h1, h2, h3⟩ => ⟨r, h1, h2.is, h3⟩
end Go.Proofs.YtgaannoghefbbaaGreatDoor
