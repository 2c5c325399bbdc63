/- What a thread does, on guesses, as plain data. -/
import Derived.Test.YtkiefbldkidobaaDoorRegsPlace
import Derived.Test.YtkiefbldkidobaaDoorRegsDo
namespace Go.Proofs.YtkiefbldkidobaaDoor
open Go.RowKit

/-- An event. -/
structure Ev where
  th : Int
  kd : Int
  lc : Int
  vl : Int
  aq : Bool
  rl : Bool
  ex : Bool
/-- What a thread has done so far, and where it stands. -/
structure St where
  evs : List Ev
  ad : List Int
  da : List Int
  ct : List Int
  pa : List Int
  v : Nat → Int
  d : Nat → Int
  vals : Nat
  lucks : Nat
  more : Int
  next : Nat
  ctrl : Int
  opn : Int
def St.zero : St := ⟨[], [], [], [], [], fun _ => 0, fun _ => 0, 0, 0, 0, 0, 0, -1⟩

def St.add (s : St) (e : Ev) (a d p : Int) : St := { s with evs := s.evs ++ [e], ad := s.ad ++ [a], da := s.da ++ [d], ct := s.ct ++ [s.ctrl], pa := s.pa ++ [p] }
def St.set (s : St) (n x y : Int) : St := { s with v := upd s.v n x, d := upd s.d n y }
def wrEv (locs : Int) (x : Ins) (s : St) : Ev := ⟨0, 2, placeZ s.v x.op x.a x.l locs, atR s.v x.b, false, x.op == 8, x.op == 10⟩
def rdEv (locs val : Int) (x : Ins) (s : St) : Ev := ⟨0, 1, placeZ s.v x.op x.a x.l locs, val, x.op == 7, false, x.op == 9⟩
def brEv (k : Int) : Ev := ⟨0, k, 0, 0, false, false, false⟩
def St.write (locs : Int) (x : Ins) (p : Int) (s : St) : St := s.add (wrEv locs x s) (placeD s.d x.op x.a locs) (atR s.d x.b) p
/-- A load that takes a value. -/
def St.load (locs val : Int) (x : Ins) (s : St) : St :=
  let t := (({ s with vals := s.vals + 1 } : St).add (rdEv locs val x s) (placeD s.d x.op x.a locs) 0 (-1)).set x.d val (2 ^ s.evs.length)
  if x.op = 9 then { t with opn := (s.evs.length : Nat) } else t
def St.lcAt (s : St) (k : Int) : Int := ((s.evs[k.toNat]?).map Ev.lc).getD 0
/-- Is there a load, of the store's place? -/
def St.reach (locs : Int) (x : Ins) (s : St) : Bool := !(s.opn == -1) && (s.lcAt s.opn == placeZ s.v x.op x.a x.l locs)
def St.fail (x : Ins) (s : St) : St := ({ s with opn := -1 } : St).set x.d 1 0
def St.stx (locs : Int) (x : Ins) (s : St) : St := ((({ s with opn := -1, lucks := s.lucks + 1 } : St).write locs x s.opn)).set x.d 0 0
def St.branch (x : Ins) (s : St) : St :=
  { s with ctrl := bits .or .u32 s.ctrl (atR s.d x.a), next := if (atR s.v x.a == 0) == (x.op == 13) then s.next + x.i.toNat else s.next }
def St.step (locs : Int) (vals : List Int) (lucks : List Bool) (x : Ins) (s : St) : St :=
  if x.op = 5 ∨ x.op = 7 ∨ x.op = 9 then
    (if s.vals = vals.length then { s with more := 1 } else s.load locs (vals.getD s.vals 0) x)
  else if x.op = 6 ∨ x.op = 8 then s.write locs x (-1)
  else if x.op = 10 then
    (if s.reach locs x = true then
      (if s.lucks = lucks.length then { s with opn := -1, more := 2 }
       else if lucks.getD s.lucks false = true then s.stx locs x else ({ s with lucks := s.lucks + 1 } : St).fail x)
     else s.fail x)
  else if x.op = 11 then s.add (brEv (3 + x.i)) 0 0 (-1)
  else if x.op = 12 then s.add (brEv 6) 0 0 (-1)
  else if x.op = 13 ∨ x.op = 14 then s.branch x
  else { s with v := doV s.v x.op x.d x.a x.b x.i, d := doD s.d x.op x.d x.a x.b }
/-- The next instruction is come to. -/
def St.inc (s : St) : St := { s with next := s.next + 1 }
def St.run (th : List Ins) (locs : Int) (vals : List Int) (lucks : List Bool) : Nat → St → St
  | 0, s => s
  | n + 1, s => if s.more = 0 then (match th[s.next]? with | some x => St.run th locs vals lucks n (s.inc.step locs vals lucks x) | none => s) else s

/-- May a thread be? -/
def mayF (locs : Int) : List Ins → Bool
  | [] => true
  | x :: l => mayB x.op x.d x.a x.b x.l x.i l.length locs && mayF locs l
def mayT (th : List Ins) (locs : Int) : Bool := (decide (th.length ≤ 8) && (decide (1 ≤ locs) && decide (locs ≤ 3))) && mayF locs th
/-- What Run tells. -/
def runT (th : List Ins) (locs : Int) (vals : List Int) (lucks : List Bool) : St := if mayT th locs = true then St.run th locs vals lucks th.length St.zero else St.zero

/-- What holds of each instruction of a thread that may be. -/
structure InsOk (locs : Int) (behind : Nat) (x : Ins) : Prop where
  op : 1 ≤ x.op ∧ x.op ≤ 14
  dmb : x.op = 11 → 0 ≤ x.i ∧ x.i ≤ 2
  br : x.op = 13 ∨ x.op = 14 → 0 ≤ x.i ∧ x.i ≤ behind
  dd : hasDB x.op = true → 0 ≤ x.d ∧ x.d < 4
  aa : hasAB x.op = true → kindZ x.op = 0 → 0 ≤ x.a ∧ x.a < 4
  bb : hasBB x.op = true → 0 ≤ x.b ∧ x.b < 4
theorem insOk {locs : Int} {behind : Nat} {x : Ins} (h : mayB x.op x.d x.a x.b x.l x.i behind locs = true) : InsOk locs behind x := by
  unfold mayB at h
  simp only [Bool.and_eq_true, decide_eq_true_eq] at h
  obtain ⟨h1, h2, h3, h4, h5, h6⟩ := h
  refine ⟨h1, fun e => ?_, fun e => ?_, fun e => ?_, fun e k => ?_, fun e => ?_⟩
  · have : hasIB x.op = true := by rw [e]; decide
    unfold m5B immB at h6
    rw [this, e] at h6
    simpa using h6
  · have : hasIB x.op = true := by rcases e with e | e <;> (rw [e]; decide)
    unfold m5B immB at h6
    rw [this] at h6
    rcases e with e | e <;> (rw [e] at h6; simpa using h6)
  · unfold m1B regB at h2
    rw [e] at h2
    simpa using h2
  · unfold m2B baseB regB at h3
    rw [e, k] at h3
    simpa using h3
  · unfold m3B regB at h4
    rw [e] at h4
    simpa using h4

theorem mayF_at {locs : Int} : ∀ {th : List Ins}, mayF locs th = true → ∀ k x, th[k]? = some x → InsOk locs (th.length - 1 - k) x
  | [], _, k, x, h => by simp at h
  | y :: l, hm, 0, x, h => by
    simp only [mayF, Bool.and_eq_true] at hm
    simp only [List.getElem?_cons_zero, Option.some.injEq] at h
    subst h
    simpa using insOk hm.1
  | y :: l, hm, k + 1, x, h => by
    simp only [mayF, Bool.and_eq_true] at hm
    simp only [List.getElem?_cons_succ] at h
    have := mayF_at hm.2 k x h
    simp only [List.length_cons]
    rwa [show l.length + 1 - 1 - (k + 1) = l.length - 1 - k by omega]

/-- What holds all along. -/
structure StOk (n : Nat) (vals : List Int) (lucks : List Bool) (s : St) : Prop where
  ev : s.evs.length ≤ s.next
  nx : s.next ≤ n
  ad : s.ad.length = s.evs.length
  da : s.da.length = s.evs.length
  ct : s.ct.length = s.evs.length
  pa : s.pa.length = s.evs.length
  vs : s.vals ≤ vals.length
  ls : s.lucks ≤ lucks.length
  op : -1 ≤ s.opn ∧ s.opn < s.evs.length
/-- Ahead of a step: one more place for an event. -/
structure StIn (n : Nat) (vals : List Int) (lucks : List Bool) (s : St) : Prop where
  ev : s.evs.length + 1 ≤ s.next
  nx : s.next ≤ n
  ad : s.ad.length = s.evs.length
  da : s.da.length = s.evs.length
  ct : s.ct.length = s.evs.length
  pa : s.pa.length = s.evs.length
  vs : s.vals ≤ vals.length
  ls : s.lucks ≤ lucks.length
  op : -1 ≤ s.opn ∧ s.opn < s.evs.length
theorem stOk_zero (n : Nat) (vals : List Int) (lucks : List Bool) : StOk n vals lucks .zero := ⟨by simp [St.zero], by simp [St.zero], rfl, rfl, rfl, rfl, by simp [St.zero], by simp [St.zero], by simp [St.zero]⟩
theorem StOk.inc {n : Nat} {vals : List Int} {lucks : List Bool} {s : St} (h : StOk n vals lucks s) (hn : s.next < n) : StIn n vals lucks s.inc :=
  ⟨by have := h.ev; simp only [St.inc]; omega, hn, h.ad, h.da, h.ct, h.pa, h.vs, h.ls, h.op⟩
theorem StIn.ok {n : Nat} {vals : List Int} {lucks : List Bool} {s : St} (h : StIn n vals lucks s) : StOk n vals lucks s :=
  ⟨by have := h.ev; omega, h.nx, h.ad, h.da, h.ct, h.pa, h.vs, h.ls, h.op⟩
theorem StIn.add {n : Nat} {vals : List Int} {lucks : List Bool} {s : St} (h : StIn n vals lucks s) (e : Ev) (a d p : Int) : StOk n vals lucks (s.add e a d p) :=
  ⟨by simpa [St.add] using h.ev, h.nx, by simp [St.add, h.ad], by simp [St.add, h.da], by simp [St.add, h.ct], by simp [St.add, h.pa], h.vs, h.ls, by have := h.op; simp only [St.add, List.length_append, List.length_cons, List.length_nil]; omega⟩
theorem StOk.set {n : Nat} {vals : List Int} {lucks : List Bool} {s : St} (h : StOk n vals lucks s) (k x y : Int) : StOk n vals lucks (s.set k x y) :=
  ⟨h.ev, h.nx, h.ad, h.da, h.ct, h.pa, h.vs, h.ls, h.op⟩
theorem StIn.step {n : Nat} {vals : List Int} {lucks : List Bool} {s : St} (h : StIn n vals lucks s) {locs : Int} {x : Ins} (ok : InsOk locs (n - s.next) x) : StOk n vals lucks (s.step locs vals lucks x) := by
  unfold St.step
  split
  · split
    · exact ⟨h.ok.ev, h.nx, h.ad, h.da, h.ct, h.pa, h.vs, h.ls, h.op⟩
    · rename_i hv
      have h1 : StIn n vals lucks { s with vals := s.vals + 1 } := ⟨h.ev, h.nx, h.ad, h.da, h.ct, h.pa, by have := h.vs; show s.vals + 1 ≤ _; omega, h.ls, h.op⟩
      have h2 := (h1.add (rdEv locs (vals.getD s.vals 0) x s) (placeD s.d x.op x.a locs) 0 (-1)).set x.d (vals.getD s.vals 0) (2 ^ s.evs.length)
      unfold St.load
      simp only []
      split
      · refine ⟨h2.ev, h2.nx, h2.ad, h2.da, h2.ct, h2.pa, h2.vs, h2.ls, ?_⟩
        simp [St.set, St.add]
        omega
      · exact h2
  · split
    · exact h.add _ _ _ _
    · split
      · split
        · split
          · exact ⟨h.ok.ev, h.nx, h.ad, h.da, h.ct, h.pa, h.vs, h.ls, ⟨by show (-1 : Int) ≤ -1; omega, by show (-1 : Int) < (s.evs.length : Nat); omega⟩⟩
          · rename_i hl
            have h1 : StIn n vals lucks { s with opn := -1, lucks := s.lucks + 1 } := ⟨h.ev, h.nx, h.ad, h.da, h.ct, h.pa, h.vs, by have := h.ls; show s.lucks + 1 ≤ _; omega, ⟨by show (-1 : Int) ≤ -1; omega, by show (-1 : Int) < (s.evs.length : Nat); omega⟩⟩
            split
            · exact (h1.add _ _ _ _).set _ _ _
            · exact h1.ok.set _ _ _
        · exact StOk.set (s := { s with opn := -1 }) ⟨h.ok.ev, h.nx, h.ad, h.da, h.ct, h.pa, h.vs, h.ls, ⟨by show (-1 : Int) ≤ -1; omega, by show (-1 : Int) < (s.evs.length : Nat); omega⟩⟩ _ _ _
      · split
        · exact h.add _ _ _ _
        · split
          · exact h.add _ _ _ _
          · split
            · rename_i hb
              have := ok.br hb
              have h1 := h.ok.ev
              have h2 := h.nx
              refine ⟨?_, ?_, h.ad, h.da, h.ct, h.pa, h.vs, h.ls, h.op⟩
              · simp only [St.branch]
                split <;> omega
              · simp only [St.branch]
                split <;> omega
            · exact ⟨h.ok.ev, h.nx, h.ad, h.da, h.ct, h.pa, h.vs, h.ls, h.op⟩
end Go.Proofs.YtkiefbldkidobaaDoor
