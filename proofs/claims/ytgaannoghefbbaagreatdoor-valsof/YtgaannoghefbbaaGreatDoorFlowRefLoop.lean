/- The document's Run: a round, and the loop. -/
import Derived.Test.YtgaannoghefbbaaGreatDoorFlowRefA
import Derived.Test.YtgaannoghefbbaaGreatDoorFlowRefC
import Derived.Test.YtgaannoghefbbaaGreatDoorFlowRefE
import Derived.Test.YtgaannoghefbbaaGreatDoorFlowRefG
import Derived.Test.YtgaannoghefbbaaGreatDoorFlowRefH
namespace Go.Proofs.YtgaannoghefbbaaGreatDoor
open Go.RowKit

/-- Behind the loop: the run is over. -/
def RWX (p pv pl : Option Addr) (c0 cv cl : Nat) (th : List Ins) (locs : Int) (vals : List Int) (lucks : List Bool) (w : World) (R : St) (k : Nat → Value) (a : Act) (wr : World) : Prop := ∃ r f, RRel th locs vals lucks w R R r 0 wr ∧ a = ⟨rfrm p pv pl c0 cv cl th locs vals lucks w k f R, []⟩
theorem rwx_of {p pv pl : Option Addr} {c0 cv cl : Nat} {th : List Ins} {locs : Int} {vals : List Int} {lucks : List Bool} {w : World} {R : St} {k : Nat → Value} {t : Array Value} {wr : World} (r : Nat → Value) (h : RRel th locs vals lucks w R R r 0 wr) (ht : t = rfrm p pv pl c0 cv cl th locs vals lucks w k (fun i => t.getD i undef) R) : RWX p pv pl c0 cv cl th locs vals lucks w R k ⟨t, []⟩ wr :=
  ⟨r, _, h, by rw [← ht]⟩
set_option maxRecDepth 1000000 in
set_option maxHeartbeats 16000000 in
theorem rr_exit (p pv pl : Option Addr) (c0 cv cl : Nat) (th : List Ins) (locs : Int) (vals : List Int) (lucks : List Bool) (w : World) (R : St) (k f : Nat → Value) (s : St) (r : Nat → Value) (n : Nat) (wr : World) (Q0 : Exit → Act → World → Prop) (H : RRel th locs vals lucks w R s r n wr) (hlt : ¬ s.next < th.length) (hexit : ∀ a' w'', RWX p pv pl c0 cv cl th locs vals lucks w R k a' w'' → Q0 (.exit 0) a' w'') :
    Code.wp Tryz.prog rbody (Exit.then (fun a' w'' => RWI p pv pl c0 cv cl th locs vals lucks w R k a' w'' ∧ rmu th a' w'' < rmu th ⟨rfrm p pv pl c0 cv cl th locs vals lucks w k f s, []⟩ wr) Q0) ⟨rfrm p pv pl c0 cv cl th locs vals lucks w k f s, []⟩ wr := by
  have hR : s = R := by rw [← H.run]; exact (run_done (.inr (by omega)) n).symm
  have HR : Hid _ := hR
  clear hR
  conv => arg 2; whnf
  unfold rfrm
  go_wp2
  have hR := HR.out
  subst hR
  exact rwx_of r ⟨H.kt, H.kz, H.tr, H.ok, H.more, H.dep, by omega, rfl, H.B⟩ (by rfl)
theorem rr_round (p pv pl : Option Addr) (c0 cv cl : Nat) (th : List Ins) (locs : Int) (vals : List Int) (lucks : List Bool) (w : World) (R : St) (k f : Nat → Value) (s : St) (r : Nat → Value) (n : Nat) (wr : World) (Q0 : Exit → Act → World → Prop) (E : REnv p pv pl c0 cv cl th locs vals lucks w) (H : RRel th locs vals lucks w R s r n wr)
    (hexit : ∀ a' w'', RWX p pv pl c0 cv cl th locs vals lucks w R k a' w'' → Q0 (.exit 0) a' w'') (hret : ∀ a' w'', RWR w R a' w'' → Q0 .ret a' w'') (hpan : ∀ c a d v w, Q0 (.panic c) (Act.put a d v) w → Q0 (.panic c) a w) :
    Code.wp Tryz.prog rbody (Exit.then (fun a' w'' => RWI p pv pl c0 cv cl th locs vals lucks w R k a' w'' ∧ rmu th a' w'' < rmu th ⟨rfrm p pv pl c0 cv cl th locs vals lucks w k f s, []⟩ wr) Q0) ⟨rfrm p pv pl c0 cv cl th locs vals lucks w k f s, []⟩ wr := by
  by_cases hlt : s.next < th.length
  · obtain ⟨n', rfl⟩ : ∃ n', n = n' + 1 := by
      cases n with
      | zero => exact absurd hlt (Nat.not_lt_of_le H.fuel)
      | succ m => exact ⟨m, rfl⟩
    obtain ⟨x, hx⟩ : ∃ x, th[s.next] = x := ⟨_, rfl⟩
    have hop := (E.ok s.next _ (List.getElem?_eq_getElem hlt)).op
    rw [hx] at hop
    obtain ⟨op, xd, xa, xb, xl, xi⟩ := x
    simp only at hop
    have hvs := H.ok.vs
    have hls := H.ok.ls
    have hopn := H.ok.op
    rcases (show op = 1 ∨ op = 2 ∨ op = 3 ∨ op = 4 ∨ op = 5 ∨ op = 6 ∨ op = 7 ∨ op = 8 ∨ op = 9 ∨ op = 10 ∨ op = 11 ∨ op = 12 ∨ op = 13 ∨ op = 14 by omega) with rfl | rfl | rfl | rfl | rfl | rfl | rfl | rfl | rfl | rfl | rfl | rfl | rfl | rfl
    · exact rr_do1 p pv pl c0 cv cl th locs vals lucks w R k f s r n' wr Q0 E H hlt xd xa xb xl xi hx
    · exact rr_do2 p pv pl c0 cv cl th locs vals lucks w R k f s r n' wr Q0 E H hlt xd xa xb xl xi hx
    · exact rr_do3 p pv pl c0 cv cl th locs vals lucks w R k f s r n' wr Q0 E H hlt xd xa xb xl xi hx
    · exact rr_do4 p pv pl c0 cv cl th locs vals lucks w R k f s r n' wr Q0 E H hlt xd xa xb xl xi hx
    · by_cases hv : s.vals = vals.length
      · exact rr_ends5 p pv pl c0 cv cl th locs vals lucks w R k f s r n' wr Q0 E H hlt xd xa xb xl xi hx hv hret
      · exact rr_takes5 p pv pl c0 cv cl th locs vals lucks w R k f s r n' wr Q0 E H hlt xd xa xb xl xi hx _ (by omega) rfl hpan
    · exact rr_store6 p pv pl c0 cv cl th locs vals lucks w R k f s r n' wr Q0 E H hlt xd xa xb xl xi hx
    · by_cases hv : s.vals = vals.length
      · exact rr_ends7 p pv pl c0 cv cl th locs vals lucks w R k f s r n' wr Q0 E H hlt xd xa xb xl xi hx hv hret
      · exact rr_takes7 p pv pl c0 cv cl th locs vals lucks w R k f s r n' wr Q0 E H hlt xd xa xb xl xi hx _ (by omega) rfl hpan
    · exact rr_store8 p pv pl c0 cv cl th locs vals lucks w R k f s r n' wr Q0 E H hlt xd xa xb xl xi hx
    · by_cases hv : s.vals = vals.length
      · exact rr_ends9 p pv pl c0 cv cl th locs vals lucks w R k f s r n' wr Q0 E H hlt xd xa xb xl xi hx hv hret
      · exact rr_takes9 p pv pl c0 cv cl th locs vals lucks w R k f s r n' wr Q0 E H hlt xd xa xb xl xi hx _ (by omega) rfl hpan
    · by_cases ho : s.opn = -1
      · exact rr_stx0 p pv pl c0 cv cl th locs vals lucks w R k f s r n' wr Q0 E H hlt xd xa xb xl xi hx ho
      · obtain ⟨q, hq⟩ : ∃ q : Nat, s.opn = (q : Int) := ⟨s.opn.toNat, by omega⟩
        have hq' : q < s.evs.length := by omega
        cases hlc : (s.evs[q].lc == placeZ s.v 10 xa xl locs)
        · exact rr_stx1 p pv pl c0 cv cl th locs vals lucks w R k f s r n' wr Q0 E H hlt xd xa xb xl xi hx q hq hq' hlc
        · by_cases hlk : s.lucks = lucks.length
          · exact rr_stx2 p pv pl c0 cv cl th locs vals lucks w R k f s r n' wr Q0 E H hlt xd xa xb xl xi hx q hq hq' hlc hlk hret
          · cases hgd : lucks.getD s.lucks false
            · exact rr_stx3 p pv pl c0 cv cl th locs vals lucks w R k f s r n' wr Q0 E H hlt xd xa xb xl xi hx q hq hq' hlc (by omega) hgd
            · exact rr_stx4 p pv pl c0 cv cl th locs vals lucks w R k f s r n' wr Q0 E H hlt xd xa xb xl xi hx q hq hq' hlc (by omega) hgd
    · exact rr_bar11 p pv pl c0 cv cl th locs vals lucks w R k f s r n' wr Q0 E H hlt xd xa xb xl xi hx hpan
    · exact rr_bar12 p pv pl c0 cv cl th locs vals lucks w R k f s r n' wr Q0 E H hlt xd xa xb xl xi hx hpan
    · cases hz : (atR s.v xa == 0)
      · exact rr_br13n p pv pl c0 cv cl th locs vals lucks w R k f s r n' wr Q0 E H hlt xd xa xb xl xi hx hz
      · exact rr_br13z p pv pl c0 cv cl th locs vals lucks w R k f s r n' wr Q0 E H hlt xd xa xb xl xi hx hz
    · cases hz : (atR s.v xa == 0)
      · exact rr_br14n p pv pl c0 cv cl th locs vals lucks w R k f s r n' wr Q0 E H hlt xd xa xb xl xi hx hz
      · exact rr_br14z p pv pl c0 cv cl th locs vals lucks w R k f s r n' wr Q0 E H hlt xd xa xb xl xi hx hz
  · exact rr_exit p pv pl c0 cv cl th locs vals lucks w R k f s r n wr Q0 H hlt hexit
theorem rr_loop (p pv pl : Option Addr) (c0 cv cl : Nat) (th : List Ins) (locs : Int) (vals : List Int) (lucks : List Bool) (w : World) (R : St) (k f : Nat → Value) (s : St) (r : Nat → Value) (n : Nat) (wr : World) (Q0 : Exit → Act → World → Prop) (E : REnv p pv pl c0 cv cl th locs vals lucks w) (H : RRel th locs vals lucks w R s r n wr)
    (hexit : ∀ a' w'', RWX p pv pl c0 cv cl th locs vals lucks w R k a' w'' → Q0 (.exit 0) a' w'') (hret : ∀ a' w'', RWR w R a' w'' → Q0 .ret a' w'') (hpan : ∀ c a d v w, Q0 (.panic c) (Act.put a d v) w → Q0 (.panic c) a w) :
    Code.wp Tryz.prog (Code.loop rbody) Q0 ⟨rfrm p pv pl c0 cv cl th locs vals lucks w k f s, []⟩ wr := by
  refine wp_loop (RWI p pv pl c0 cv cl th locs vals lucks w R k) (rmu th) ⟨s, r, n, f, H, rfl⟩ (fun a w'' hI => ?_)
  obtain ⟨s1, r1, n1, f1, H1, rfl⟩ := hI
  exact rr_round p pv pl c0 cv cl th locs vals lucks w R k f1 s1 r1 n1 w'' Q0 E H1 hexit hret hpan
end Go.Proofs.YtgaannoghefbbaaGreatDoor
