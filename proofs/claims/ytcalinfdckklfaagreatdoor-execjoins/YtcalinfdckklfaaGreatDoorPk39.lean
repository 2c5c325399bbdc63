/- FlowRefLoop, FlowRefRun, FlowRefRun2: what is used of them. -/
import Derived.Test.YtcalinfdckklfaaGreatDoorPk34
import Derived.Test.YtcalinfdckklfaaGreatDoorPk35
import Derived.Test.YtcalinfdckklfaaGreatDoorPk36
import Derived.Test.YtcalinfdckklfaaGreatDoorPk37
import Derived.Test.YtcalinfdckklfaaGreatDoorPk38
import Derived.Test.YtcalinfdckklfaaGreatDoorPk22
namespace Go.Proofs.YtcalinfdckklfaaGreatDoor
open Go.RowKit

/-- Behind the loop: the run is over. -/
def RWX (p pv pl : Option Addr) (c0 cv cl : Nat) (th : List Ins) (locs : Int) (vals : List Int) (lucks : List Bool) (w : World) (R : St) (k : Nat → Value) (a : Act) (wr : World) : Prop := ∃ r f, RRel th locs vals lucks w R R r 0 wr ∧ a = ⟨rfrm p pv pl c0 cv cl th locs vals lucks w k f R, []⟩
theorem rwx_of {p pv pl : Option Addr} {c0 cv cl : Nat} {th : List Ins} {locs : Int} {vals : List Int} {lucks : List Bool} {w : World} {R : St} {k : Nat → Value} {t : Array Value} {wr : World} (r : Nat → Value) (h : RRel th locs vals lucks w R R r 0 wr) (ht : t = rfrm p pv pl c0 cv cl th locs vals lucks w k (fun i => t.getD i undef) R) : RWX p pv pl c0 cv cl th locs vals lucks w R k ⟨t, []⟩ wr :=
  ⟨r, _, h, by rw [← ht]⟩
set_option maxRecDepth 1000000 in
set_option maxHeartbeats 16000000 in
theorem rr_exit (p pv pl : Option Addr) (c0 cv cl : Nat) (th : List Ins) (locs : Int) (vals : List Int) (lucks : List Bool) (w : World) (R : St) (k f : Nat → Value) (s : St) (r : Nat → Value) (n : Nat) (wr : World) (Q0 : Exit → Act → World → Prop) (H : RRel th locs vals lucks w R s r n wr) (hlt : ¬ s.next < th.length) (hexit : ∀ a' w'', RWX p pv pl c0 cv cl th locs vals lucks w R k a' w'' → Q0 (.exit 0) a' w'') :
    Code.wp Tryz.prog rbody (Exit.then (fun a' w'' => RWI p pv pl c0 cv cl th locs vals lucks w R k a' w'' ∧ rmu th a' w'' < rmu th ⟨rfrm p pv pl c0 cv cl th locs vals lucks w k f s, []⟩ wr) Q0) ⟨rfrm p pv pl c0 cv cl th locs vals lucks w k f s, []⟩ wr := by
  have hR : s = R := by rw [← H.run]; exact (run_done (.inr (by omega)) n).symm
  have HR : Hid _ := hR
  clear hR
  conv => arg 2; whnf
  unfold rfrm
  go_wp2
  have hR := HR.out
  subst hR
  exact rwx_of r ⟨H.kt, H.kz, H.tr, H.ok, H.more, H.dep, by omega, rfl, H.B⟩ (by rfl)
theorem rr_round (p pv pl : Option Addr) (c0 cv cl : Nat) (th : List Ins) (locs : Int) (vals : List Int) (lucks : List Bool) (w : World) (R : St) (k f : Nat → Value) (s : St) (r : Nat → Value) (n : Nat) (wr : World) (Q0 : Exit → Act → World → Prop) (E : REnv p pv pl c0 cv cl th locs vals lucks w) (H : RRel th locs vals lucks w R s r n wr)
    (hexit : ∀ a' w'', RWX p pv pl c0 cv cl th locs vals lucks w R k a' w'' → Q0 (.exit 0) a' w'') (hret : ∀ a' w'', RWR w R a' w'' → Q0 .ret a' w'') (hpan : ∀ c a d v w, Q0 (.panic c) (Act.put a d v) w → Q0 (.panic c) a w) :
    Code.wp Tryz.prog rbody (Exit.then (fun a' w'' => RWI p pv pl c0 cv cl th locs vals lucks w R k a' w'' ∧ rmu th a' w'' < rmu th ⟨rfrm p pv pl c0 cv cl th locs vals lucks w k f s, []⟩ wr) Q0) ⟨rfrm p pv pl c0 cv cl th locs vals lucks w k f s, []⟩ wr := by
  by_cases hlt : s.next < th.length
  · obtain ⟨n', rfl⟩ : ∃ n', n = n' + 1 := by
      cases n with
      | zero => exact absurd hlt (Nat.not_lt_of_le H.fuel)
      | succ m => exact ⟨m, rfl⟩
    obtain ⟨x, hx⟩ : ∃ x, th[s.next] = x := ⟨_, rfl⟩
    have hop := (E.ok s.next _ (List.getElem?_eq_getElem hlt)).op
    rw [hx] at hop
    obtain ⟨op, xd, xa, xb, xl, xi⟩ := x
    simp only at hop
    have hvs := H.ok.vs
    have hls := H.ok.ls
    have hopn := H.ok.op
    rcases (show op = 1 ∨ op = 2 ∨ op = 3 ∨ op = 4 ∨ op = 5 ∨ op = 6 ∨ op = 7 ∨ op = 8 ∨ op = 9 ∨ op = 10 ∨ op = 11 ∨ op = 12 ∨ op = 13 ∨ op = 14 by omega) with rfl | rfl | rfl | rfl | rfl | rfl | rfl | rfl | rfl | rfl | rfl | rfl | rfl | rfl
    · exact rr_do1 p pv pl c0 cv cl th locs vals lucks w R k f s r n' wr Q0 E H hlt xd xa xb xl xi hx
    · exact rr_do2 p pv pl c0 cv cl th locs vals lucks w R k f s r n' wr Q0 E H hlt xd xa xb xl xi hx
    · exact rr_do3 p pv pl c0 cv cl th locs vals lucks w R k f s r n' wr Q0 E H hlt xd xa xb xl xi hx
    · exact rr_do4 p pv pl c0 cv cl th locs vals lucks w R k f s r n' wr Q0 E H hlt xd xa xb xl xi hx
    · by_cases hv : s.vals = vals.length
      · exact rr_ends5 p pv pl c0 cv cl th locs vals lucks w R k f s r n' wr Q0 E H hlt xd xa xb xl xi hx hv hret
      · exact rr_takes5 p pv pl c0 cv cl th locs vals lucks w R k f s r n' wr Q0 E H hlt xd xa xb xl xi hx _ (by omega) rfl hpan
    · exact rr_store6 p pv pl c0 cv cl th locs vals lucks w R k f s r n' wr Q0 E H hlt xd xa xb xl xi hx
    · by_cases hv : s.vals = vals.length
      · exact rr_ends7 p pv pl c0 cv cl th locs vals lucks w R k f s r n' wr Q0 E H hlt xd xa xb xl xi hx hv hret
      · exact rr_takes7 p pv pl c0 cv cl th locs vals lucks w R k f s r n' wr Q0 E H hlt xd xa xb xl xi hx _ (by omega) rfl hpan
    · exact rr_store8 p pv pl c0 cv cl th locs vals lucks w R k f s r n' wr Q0 E H hlt xd xa xb xl xi hx
    · by_cases hv : s.vals = vals.length
      · exact rr_ends9 p pv pl c0 cv cl th locs vals lucks w R k f s r n' wr Q0 E H hlt xd xa xb xl xi hx hv hret
      · exact rr_takes9 p pv pl c0 cv cl th locs vals lucks w R k f s r n' wr Q0 E H hlt xd xa xb xl xi hx _ (by omega) rfl hpan
    · by_cases ho : s.opn = -1
      · exact rr_stx0 p pv pl c0 cv cl th locs vals lucks w R k f s r n' wr Q0 E H hlt xd xa xb xl xi hx ho
      · obtain ⟨q, hq⟩ : ∃ q : Nat, s.opn = (q : Int) := ⟨s.opn.toNat, by omega⟩
        have hq' : q < s.evs.length := by omega
        cases hlc : (s.evs[q].lc == placeZ s.v 10 xa xl locs)
        · exact rr_stx1 p pv pl c0 cv cl th locs vals lucks w R k f s r n' wr Q0 E H hlt xd xa xb xl xi hx q hq hq' hlc
        · by_cases hlk : s.lucks = lucks.length
          · exact rr_stx2 p pv pl c0 cv cl th locs vals lucks w R k f s r n' wr Q0 E H hlt xd xa xb xl xi hx q hq hq' hlc hlk hret
          · cases hgd : lucks.getD s.lucks false
            · exact rr_stx3 p pv pl c0 cv cl th locs vals lucks w R k f s r n' wr Q0 E H hlt xd xa xb xl xi hx q hq hq' hlc (by omega) hgd
            · exact rr_stx4 p pv pl c0 cv cl th locs vals lucks w R k f s r n' wr Q0 E H hlt xd xa xb xl xi hx q hq hq' hlc (by omega) hgd
    · exact rr_bar11 p pv pl c0 cv cl th locs vals lucks w R k f s r n' wr Q0 E H hlt xd xa xb xl xi hx hpan
    · exact rr_bar12 p pv pl c0 cv cl th locs vals lucks w R k f s r n' wr Q0 E H hlt xd xa xb xl xi hx hpan
    · cases hz : (atR s.v xa == 0)
      · exact rr_br13n p pv pl c0 cv cl th locs vals lucks w R k f s r n' wr Q0 E H hlt xd xa xb xl xi hx hz
      · exact rr_br13z p pv pl c0 cv cl th locs vals lucks w R k f s r n' wr Q0 E H hlt xd xa xb xl xi hx hz
    · cases hz : (atR s.v xa == 0)
      · exact rr_br14n p pv pl c0 cv cl th locs vals lucks w R k f s r n' wr Q0 E H hlt xd xa xb xl xi hx hz
      · exact rr_br14z p pv pl c0 cv cl th locs vals lucks w R k f s r n' wr Q0 E H hlt xd xa xb xl xi hx hz
  · exact rr_exit p pv pl c0 cv cl th locs vals lucks w R k f s r n wr Q0 H hlt hexit
theorem rr_loop (p pv pl : Option Addr) (c0 cv cl : Nat) (th : List Ins) (locs : Int) (vals : List Int) (lucks : List Bool) (w : World) (R : St) (k f : Nat → Value) (s : St) (r : Nat → Value) (n : Nat) (wr : World) (Q0 : Exit → Act → World → Prop) (E : REnv p pv pl c0 cv cl th locs vals lucks w) (H : RRel th locs vals lucks w R s r n wr)
    (hexit : ∀ a' w'', RWX p pv pl c0 cv cl th locs vals lucks w R k a' w'' → Q0 (.exit 0) a' w'') (hret : ∀ a' w'', RWR w R a' w'' → Q0 .ret a' w'') (hpan : ∀ c a d v w, Q0 (.panic c) (Act.put a d v) w → Q0 (.panic c) a w) :
    Code.wp Tryz.prog (Code.loop rbody) Q0 ⟨rfrm p pv pl c0 cv cl th locs vals lucks w k f s, []⟩ wr := by
  refine wp_loop (RWI p pv pl c0 cv cl th locs vals lucks w R k) (rmu th) ⟨s, r, n, f, H, rfl⟩ (fun a w'' hI => ?_)
  obtain ⟨s1, r1, n1, f1, H1, rfl⟩ := hI
  exact rr_round p pv pl c0 cv cl th locs vals lucks w R k f1 s1 r1 n1 w'' Q0 E H1 hexit hret hpan
end Go.Proofs.YtcalinfdckklfaaGreatDoor
namespace Go.Proofs.YtcalinfdckklfaaGreatDoor
open Go.RowKit
attribute [local go_sem] Ext.cell Ext.frozen

def k0R (p : Option Addr) (c0 : Nat) (th : List Ins) (locs : Int) : Nat → Value
  | 24 => .agg #[.slice none 0 0, .slice none 0 0, .slice none 0 0, .slice none 0 0, .slice none 0 0, .int .i64 0, .int .i64 0, .int .i64 0, .int .i64 0, .int .u32 0, .int .u32 0, .int .u32 0, .int .u32 0, .int .i64 0, .int .i64 0, .int .i64 0]
  | 25 => .slice p th.length c0
  | 26 => .int .i64 locs
  | 27 => .bool true
  | 28 => .bool false
  | _ => undef

set_option maxRecDepth 1000000 in
set_option maxHeartbeats 16000000 in
theorem rRun_zero (p pv pl : Option Addr) (c0 cv cl : Nat) (th : List Ins) (locs : Int) (vals : List Int) (lucks : List Bool) (w : World) (ht : Sl InsE w (.slice p th.length c0) th)
    (hm : mayT th locs = false) :
    Calls Tryz.prog 87 #[.slice p th.length c0, .int .i64 locs, .slice pv vals.length cv, .slice pl lucks.length cl] w fun e w' => ∃ r, e = .returned (trV r (runT th locs vals lucks)) ∧ TrA (fun b => w.heap.size ≤ b) w' r (runT th locs vals lucks) ∧ Below w.heap.size w w' := by
  have F1 := trivial
  have F2 := trivial
  have Ba := below_new w (.cells #[.slice none 0 0, .slice none 0 0, .slice none 0 0, .slice none 0 0, .slice none 0 0, .int .i64 0, .int .i64 0, .int .i64 0, .int .i64 0, .int .u32 0, .int .u32 0, .int .u32 0, .int .u32 0, .int .i64 0, .int .i64 0, .int .i64 0] 34)
  have ka : TrB (w.alloc (.cells #[.slice none 0 0, .slice none 0 0, .slice none 0 0, .slice none 0 0, .slice none 0 0, .int .i64 0, .int .i64 0, .int .i64 0, .int .i64 0, .int .u32 0, .int .u32 0, .int .u32 0, .int .u32 0, .int .i64 0, .int .i64 0, .int .i64 0] 34)) w.heap.size (fun _ => .slice none 0 0) .zero 34 := Blk.new
  have Bb := below_new (w.alloc (.cells #[.slice none 0 0, .slice none 0 0, .slice none 0 0, .slice none 0 0, .slice none 0 0, .int .i64 0, .int .i64 0, .int .i64 0, .int .i64 0, .int .u32 0, .int .u32 0, .int .u32 0, .int .u32 0, .int .i64 0, .int .i64 0, .int .i64 0] 34)) (.cells #[.slice none 0 0, .slice none 0 0, .slice none 0 0, .slice none 0 0, .slice none 0 0, .int .i64 0, .int .i64 0, .int .i64 0, .int .i64 0, .int .u32 0, .int .u32 0, .int .u32 0, .int .u32 0, .int .i64 0, .int .i64 0, .int .i64 0] 34)
  have kb : TrB ((w.alloc (.cells #[.slice none 0 0, .slice none 0 0, .slice none 0 0, .slice none 0 0, .slice none 0 0, .int .i64 0, .int .i64 0, .int .i64 0, .int .i64 0, .int .u32 0, .int .u32 0, .int .u32 0, .int .u32 0, .int .i64 0, .int .i64 0, .int .i64 0] 34)).alloc (.cells #[.slice none 0 0, .slice none 0 0, .slice none 0 0, .slice none 0 0, .slice none 0 0, .int .i64 0, .int .i64 0, .int .i64 0, .int .i64 0, .int .u32 0, .int .u32 0, .int .u32 0, .int .u32 0, .int .i64 0, .int .i64 0, .int .i64 0] 34)) (w.heap.size + 1) (fun _ => .slice none 0 0) .zero 34 := Blk.newAt (by simp)
  have HM : Hid _ := hm
  have E : Hid (runT th locs vals lucks = .zero) := by unfold Hid runT; rw [hm]; rfl
  clear hm
  go_enter Tryz.func87, Tryz.ntmps87
  go_wp2_with (first
    | (clear F2; refine wpList_storeB (by rfl) 34 (.tmp 9) (.tmp 24) (by rfl) (w.heap.size + 1) (trC (fun _ => .slice none 0 0) .zero) _ 34 (by rfl) (by rfl) kb (by kernel_rfl) (by rfl) (by simp [trC, Value.oneCell']) ?_; intro w1 kB oL zL; simp only [Act.put]; have B1 : Below w.heap.size w w1 := (Ba.trans (Bb.mono (by simp))).trans (oL.below (by simp; omega) (fun k hk => by omega)); have kz1 : TrB w1 w.heap.size (fun _ => .slice none 0 0) .zero 34 := Blk.only (ka.keep Bb) oL (by omega))
    | (go_at_call 105; clear F1; refine (refMayT_any _ _ _ _ _ (ht.keep B1)).mono ?_; rintro e w2 ⟨rfl, hb2⟩; rw [HM.out]; have kt2 := TrB.keep (r := fun _ => .slice none 0 0) (s := .zero) kB hb2; have kz2 := kz1.keep hb2; have B2 : Below w.heap.size w w2 := Below.thru B1 hb2 (Nat.le_refl _); obtain ⟨x0, x1, x2, x3, x4⟩ := kt2.rows; obtain ⟨⟨x5, x6, x7, x8⟩, x9, xa, xb, xc⟩ := kt2.regs; obtain ⟨xd, xe, xf⟩ := kt2.more; simp only [St.zero] at x5 x6 x7 x8 x9 xa xb xc xd xe xf; have lt2 := kt2.lt; have FX := trivial)
    | (clear FX; refine wpList_storeB (by rfl) 34 (.tmp 8) (.tmp 29) (by rfl) w.heap.size (trC (fun _ => .slice none 0 0) .zero) _ 34 (by rfl) (by rfl) kz2 (by kernel_rfl) (by rfl) (by simp [trC, Value.oneCell']) ?_; intro wL kL oZ zZ; simp only [Act.put]))
  have kL' : TrB wL w.heap.size (fun _ => .slice none 0 0) .zero 34 := kL
  clear x0 x1 x2 x3 x4 x5 x6 x7 x8 x9 xa xb xc xd xe xf
  obtain ⟨x0, x1, x2, x3, x4⟩ := kL'.rows
  obtain ⟨⟨x5, x6, x7, x8⟩, x9, xa, xb, xc⟩ := kL'.regs
  obtain ⟨xd, xe, xf⟩ := kL'.more
  refine bodyPost_ret (v := trV (fun _ => .slice none 0 0) .zero) (by simp [results, Tryz.results87, go_sem, trV, trC, x0, x1, x2, x3, x4, x5, x6, x7, x8, x9, xa, xb, xc, xd, xe, xf]) rfl ⟨fun _ => .slice none 0 0, by rw [E.out], by rw [E.out]; exact tra_zero _ _, B2.trans (oZ.below B2.size (fun k hk => by omega))⟩
end Go.Proofs.YtcalinfdckklfaaGreatDoor
namespace Go.Proofs.YtcalinfdckklfaaGreatDoor
open Go.RowKit
attribute [local go_sem] Ext.cell Ext.frozen

set_option maxRecDepth 1000000 in
set_option maxHeartbeats 16000000 in
theorem rRun_some (p pv pl : Option Addr) (c0 cv cl : Nat) (th : List Ins) (locs : Int) (vals : List Int) (lucks : List Bool) (w : World) (ht : Sl InsE w (.slice p th.length c0) th) (hv : Sl IntE w (.slice pv vals.length cv) vals) (hl : Sl BoolE w (.slice pl lucks.length cl) lucks)
    (nv : vals.length ≤ 1000000) (nl : lucks.length ≤ 1000000) (hm : mayT th locs = true) :
    Calls Tryz.prog 87 #[.slice p th.length c0, .int .i64 locs, .slice pv vals.length cv, .slice pl lucks.length cl] w fun e w' => ∃ r, e = .returned (trV r (runT th locs vals lucks)) ∧ TrA (fun b => w.heap.size ≤ b) w' r (runT th locs vals lucks) ∧ Below w.heap.size w w' := by
  have F1 := trivial
  have F2 := trivial
  have Ba := below_new w (.cells #[.slice none 0 0, .slice none 0 0, .slice none 0 0, .slice none 0 0, .slice none 0 0, .int .i64 0, .int .i64 0, .int .i64 0, .int .i64 0, .int .u32 0, .int .u32 0, .int .u32 0, .int .u32 0, .int .i64 0, .int .i64 0, .int .i64 0] 34)
  have ka : TrB (w.alloc (.cells #[.slice none 0 0, .slice none 0 0, .slice none 0 0, .slice none 0 0, .slice none 0 0, .int .i64 0, .int .i64 0, .int .i64 0, .int .i64 0, .int .u32 0, .int .u32 0, .int .u32 0, .int .u32 0, .int .i64 0, .int .i64 0, .int .i64 0] 34)) w.heap.size (fun _ => .slice none 0 0) .zero 34 := Blk.new
  have Bb := below_new (w.alloc (.cells #[.slice none 0 0, .slice none 0 0, .slice none 0 0, .slice none 0 0, .slice none 0 0, .int .i64 0, .int .i64 0, .int .i64 0, .int .i64 0, .int .u32 0, .int .u32 0, .int .u32 0, .int .u32 0, .int .i64 0, .int .i64 0, .int .i64 0] 34)) (.cells #[.slice none 0 0, .slice none 0 0, .slice none 0 0, .slice none 0 0, .slice none 0 0, .int .i64 0, .int .i64 0, .int .i64 0, .int .i64 0, .int .u32 0, .int .u32 0, .int .u32 0, .int .u32 0, .int .i64 0, .int .i64 0, .int .i64 0] 34)
  have kb : TrB ((w.alloc (.cells #[.slice none 0 0, .slice none 0 0, .slice none 0 0, .slice none 0 0, .slice none 0 0, .int .i64 0, .int .i64 0, .int .i64 0, .int .i64 0, .int .u32 0, .int .u32 0, .int .u32 0, .int .u32 0, .int .i64 0, .int .i64 0, .int .i64 0] 34)).alloc (.cells #[.slice none 0 0, .slice none 0 0, .slice none 0 0, .slice none 0 0, .slice none 0 0, .int .i64 0, .int .i64 0, .int .i64 0, .int .i64 0, .int .u32 0, .int .u32 0, .int .u32 0, .int .u32 0, .int .i64 0, .int .i64 0, .int .i64 0] 34)) (w.heap.size + 1) (fun _ => .slice none 0 0) .zero 34 := Blk.newAt (by simp)
  obtain ⟨R, hR⟩ : ∃ R, St.run th locs vals lucks th.length .zero = R := ⟨_, rfl⟩
  have E : Hid (runT th locs vals lucks = R) := by unfold Hid runT; rw [hm, if_pos rfl, hR]
  have HM : Hid _ := hm
  have hok : ((th.length ≤ 8 ∧ locs ≤ 3) ∧ 1 ≤ locs) ∧ ∀ k x, th[k]? = some x → InsOk locs (th.length - 1 - k) x := by
    unfold mayT at hm
    simp only [Bool.and_eq_true, decide_eq_true_eq] at hm
    exact ⟨⟨⟨hm.1.1, hm.1.2.2⟩, hm.1.2.1⟩, mayF_at hm.2⟩
  obtain ⟨⟨⟨h8, h3⟩, h1⟩, hok⟩ := hok
  have HE : Hid (REnv p pv pl c0 cv cl th locs vals lucks w) := ⟨ht, hv, hl, nv, nl, h1, h3, h8, hok⟩
  have HR : Hid _ := hR
  clear hm hok hR h1 h3 h8
  go_enter Tryz.func87, Tryz.ntmps87
  go_wp2_with (first
    | (clear F2; refine wpList_storeB (by rfl) 34 (.tmp 9) (.tmp 24) (by rfl) (w.heap.size + 1) (trC (fun _ => .slice none 0 0) .zero) _ 34 (by rfl) (by rfl) kb (by kernel_rfl) (by rfl) (by simp [trC, Value.oneCell']) ?_; intro w1 kB oL zL; simp only [Act.put]; have B1 : Below w.heap.size w w1 := (Ba.trans (Bb.mono (by simp))).trans (oL.below (by simp; omega) (fun k hk => by omega)); have kz1 : TrB w1 w.heap.size (fun _ => .slice none 0 0) .zero 34 := Blk.only (ka.keep Bb) oL (by omega))
    | (go_at_call 105; clear F1; refine (refMayT_any _ _ _ _ _ (ht.keep B1)).mono ?_; rintro e w2 ⟨rfl, hb2⟩; rw [HM.out]; have kt2 := TrB.keep (r := fun _ => .slice none 0 0) (s := .zero) kB hb2; have kz2 := kz1.keep hb2; have B2 : Below w.heap.size w w2 := Below.thru B1 hb2 (Nat.le_refl _)))
  refine rr_loop p pv pl c0 cv cl th locs vals lucks w R (k0R p c0 th locs) (fun _ => undef) .zero (fun _ => .slice none 0 0) th.length w2 _ HE.out ⟨kt2, kz2, tra_zero _ _, stOk_zero _ _ _, rfl, fun k => ⟨by simp [St.zero], by simp [St.zero]⟩, by omega, HR.out, B2⟩ ?_ ?_ (fun _ _ d _ _ h => by cases d <;> exact h)
  · rintro a' w3 ⟨r, f, H, rfl⟩
    obtain ⟨x0, x1, x2, x3, x4⟩ := H.kt.rows
    obtain ⟨⟨x5, x6, x7, x8⟩, x9, xa, xb, xc⟩ := H.kt.regs
    obtain ⟨xd, xe, xf⟩ := H.kt.more
    have lt3 := H.kt.lt
    have FX := trivial
    unfold rfrm
    go_wp2_with (clear FX; refine wpList_storeB (by rfl) 34 (.tmp 8) (.tmp 245) (by rfl) w.heap.size (trC r R) _ 34 (by rfl) (by rfl) H.kz (by kernel_rfl) (by rfl) (one16A H.tr) ?_; intro wL kL oZ zZ; simp only [Act.put])
    have kL' : TrB wL w.heap.size r R 34 := kL
    clear x0 x1 x2 x3 x4 x5 x6 x7 x8 x9 xa xb xc xd xe xf
    obtain ⟨x0, x1, x2, x3, x4⟩ := kL'.rows
    obtain ⟨⟨x5, x6, x7, x8⟩, x9, xa, xb, xc⟩ := kL'.regs
    obtain ⟨xd, xe, xf⟩ := kL'.more
    refine bodyPost_ret (v := trV r R) (by simp [results, Tryz.results87, go_sem, trV, trC, x0, x1, x2, x3, x4, x5, x6, x7, x8, x9, xa, xb, xc, xd, xe, xf]) rfl ⟨r, by rw [E.out], by rw [E.out]; exact (H.tr.only oZ (fun b hb e => hb.1 e)).nw, H.B.trans (oZ.below H.B.size (fun k hk => by omega))⟩
  · rintro ⟨t, ds⟩ w3 ⟨h8', hd, r, kL', hT, hB⟩
    simp only at h8' hd
    subst hd
    obtain ⟨x0, x1, x2, x3, x4⟩ := kL'.rows
    obtain ⟨⟨x5, x6, x7, x8⟩, x9, xa, xb, xc⟩ := kL'.regs
    obtain ⟨xd, xe, xf⟩ := kL'.more
    go_wp2
    refine bodyPost_ret (v := trV r R) (by simp [results, Tryz.results87, go_sem, trV, trC, h8', x0, x1, x2, x3, x4, x5, x6, x7, x8, x9, xa, xb, xc, xd, xe, xf]) rfl ⟨r, by rw [E.out], by rw [E.out]; exact hT, hB⟩
theorem rRun_own (p pv pl : Option Addr) (c0 cv cl : Nat) (th : List Ins) (locs : Int) (vals : List Int) (lucks : List Bool) (w : World) (ht : Sl InsE w (.slice p th.length c0) th) (hv : Sl IntE w (.slice pv vals.length cv) vals) (hl : Sl BoolE w (.slice pl lucks.length cl) lucks)
    (nv : vals.length ≤ 1000000) (nl : lucks.length ≤ 1000000) :
    Calls Tryz.prog 87 #[.slice p th.length c0, .int .i64 locs, .slice pv vals.length cv, .slice pl lucks.length cl] w fun e w' => ∃ r, e = .returned (trV r (runT th locs vals lucks)) ∧ TrA (fun b => w.heap.size ≤ b) w' r (runT th locs vals lucks) ∧ Below w.heap.size w w' := by
  cases hm : mayT th locs
  · exact rRun_zero p pv pl c0 cv cl th locs vals lucks w ht hm
  · exact rRun_some p pv pl c0 cv cl th locs vals lucks w ht hv hl nv nl hm
end Go.Proofs.YtcalinfdckklfaaGreatDoor
