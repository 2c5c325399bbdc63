/- What the method does that an instruction's kind chooses. -/
import Derived.Test.YtgaannoghefbbaaDoorFlowStx
namespace Go.Proofs.YtgaannoghefbbaaDoor
open Go.RowKit
attribute [local go_sem] Ext.cell Ext.frozen

def actF (op : Int) : FuncId := if op = 5 ∨ op = 7 ∨ op = 9 then 40 else if op = 6 ∨ op = 8 then 41 else if op = 10 then 42 else if op = 11 then 43 else if op = 12 then 44 else if op = 13 ∨ op = 14 then 45 else 46

theorem ops14 (op : Int) (h : 1 ≤ op ∧ op ≤ 14) : op = 1 ∨ op = 2 ∨ op = 3 ∨ op = 4 ∨ op = 5 ∨ op = 6 ∨ op = 7 ∨ op = 8 ∨ op = 9 ∨ op = 10 ∨ op = 11 ∨ op = 12 ∨ op = 13 ∨ op = 14 := by omega

set_option maxHeartbeats 4000000 in
theorem action_any (op d a b l i : Int) (k : Nat) (w : World) (h : 1 ≤ op ∧ op ≤ 14) : Calls Tryd.prog 28 #[.pointer (some ⟨k, 0, none⟩), .agg #[.int .i64 op, .int .i64 d, .int .i64 a, .int .i64 b, .int .i64 l, .int .i64 i]] w fun e w' =>
    e = .returned (.func (.func (actF op)) #[.pointer (some ⟨k, 0, none⟩)] #[]) ∧ Below w.heap.size w w' := by
  rcases ops14 op h with h | h | h | h | h | h | h | h | h | h | h | h | h | h
  all_goals
    subst h
    go_enter Tryd.func28, Tryd.ntmps28
    go_wp2
    go_returns
    exact ⟨rfl, by go_grown⟩

theorem step_run (x : Ins) {n : Nat} {w : World} {b base : Nat} {locs : Int} {pv pl : Option Addr} {cv cl : Nat} {vals : List Int} {lucks : List Bool} {r : Nat → Value} {s : St} (T : Tab w) (Tb : Bar w) (hT : ¬ b ≤ 1) (h : RunAt w b base locs (.slice pv vals.length cv) (.slice pl lucks.length cl) r s)
    (hin : StIn n vals lucks s) (hn : n ≤ 8) (ok : InsOk locs (n - s.next) x) (hL : locs < 9223372036854775808)
    (hsv : SlA (fun k => k < b) IntE w (.slice pv vals.length cv) vals) (hsl : SlA (fun k => k < b) BoolE w (.slice pl lucks.length cl) lucks) (hv : vals.length ≤ 1000000) (hl : lucks.length ≤ 1000000) :
    Calls Tryd.prog (actF x.op) #[.pointer (some ⟨b, 0, none⟩), .agg #[.int .i64 x.op, .int .i64 x.d, .int .i64 x.a, .int .i64 x.b, .int .i64 x.l, .int .i64 x.i]] w fun y w' =>
      y = .returned (.tuple #[]) ∧ Post b base locs (.slice pv vals.length cv) (.slice pl lucks.length cl) r w (s.step locs vals lucks x) w' := by
  have e1 := hin.ev
  have e2 := hin.nx
  have hlen : LenOk s := ⟨by omega, hin.ad, hin.da, hin.ct, hin.pa⟩
  unfold actF St.step
  by_cases c1 : x.op = 5 ∨ x.op = 7 ∨ x.op = 9
  · rw [if_pos c1, if_pos c1]
    by_cases cv : s.vals = vals.length
    · rw [if_pos cv]
      exact load_ends x h cv
    · rw [if_neg cv]
      exact load_takes x T hT h hlen (by omega) hL hsv (by have := hin.vs; omega) hv
  rw [if_neg c1, if_neg c1]
  by_cases c2 : x.op = 6 ∨ x.op = 8
  · rw [if_pos c2, if_pos c2]
    exact store_run x T h hlen hL
  rw [if_neg c2, if_neg c2]
  by_cases c3 : x.op = 10
  · rw [if_pos c3, if_pos c3]
    by_cases cr : s.reach locs x = true
    · rw [if_pos cr]
      by_cases cl : s.lucks = lucks.length
      · rw [if_pos cl]
        exact stx_ends x T hT h hL hin.op cr cl
      · rw [if_neg cl]
        have hlk : s.lucks < lucks.length := by have := hin.ls; omega
        by_cases cg : lucks.getD s.lucks false = true
        · rw [if_pos cg]
          exact stx_stores x T hT h hL hin.op cr hlk hl hsl cg hlen
        · rw [if_neg cg]
          exact stx_fails x T hT h hL hin.op cr hlk hl hsl (by simpa using cg)
    · rw [if_neg cr]
      exact stx_none x T hT h hL hin.op (by simpa using cr)
  rw [if_neg c3, if_neg c3]
  by_cases c4 : x.op = 11
  · rw [if_pos c4, if_pos c4]
    exact dmb_run x Tb h hlen (ok.dmb c4)
  rw [if_neg c4, if_neg c4]
  by_cases c5 : x.op = 12
  · rw [if_pos c5, if_pos c5]
    exact isb_run x h hlen
  rw [if_neg c5, if_neg c5]
  by_cases c6 : x.op = 13 ∨ x.op = 14
  · rw [if_pos c6, if_pos c6]
    have := ok.br c6
    exact branch_run x h ⟨this.1, by omega⟩ (by omega)
  rw [if_neg c6, if_neg c6]
  have := ok.op
  exact reckon_run x T h (by omega) (by omega)
end Go.Proofs.YtgaannoghefbbaaDoor
