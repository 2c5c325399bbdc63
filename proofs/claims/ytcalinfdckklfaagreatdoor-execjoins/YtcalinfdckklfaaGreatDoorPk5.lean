/- FlowP: FlowMath, FlowRep, FlowTr, in one text. -/
import Derived.Test.YtcalinfdckklfaaGreatDoorPk3
import Derived.Test.YtcalinfdckklfaaGreatDoorPk4
import Derived.Test.YtcalinfdckklfaaGreatDoorPk1
namespace Go.Proofs.YtcalinfdckklfaaGreatDoor
open Go.RowKit

/-- An event. -/
structure Ev where
  th : Int
  kd : Int
  lc : Int
  vl : Int
  aq : Bool
  rl : Bool
  ex : Bool
/-- What a thread has done so far, and where it stands. -/
structure St where
  evs : List Ev
  ad : List Int
  da : List Int
  ct : List Int
  pa : List Int
  v : Nat → Int
  d : Nat → Int
  vals : Nat
  lucks : Nat
  more : Int
  next : Nat
  ctrl : Int
  opn : Int
def St.zero : St := ⟨[], [], [], [], [], fun _ => 0, fun _ => 0, 0, 0, 0, 0, 0, -1⟩

def St.add (s : St) (e : Ev) (a d p : Int) : St := { s with evs := s.evs ++ [e], ad := s.ad ++ [a], da := s.da ++ [d], ct := s.ct ++ [s.ctrl], pa := s.pa ++ [p] }
def St.set (s : St) (n x y : Int) : St := { s with v := upd s.v n x, d := upd s.d n y }
def wrEv (locs : Int) (x : Ins) (s : St) : Ev := ⟨0, 2, placeZ s.v x.op x.a x.l locs, atR s.v x.b, false, x.op == 8, x.op == 10⟩
def rdEv (locs val : Int) (x : Ins) (s : St) : Ev := ⟨0, 1, placeZ s.v x.op x.a x.l locs, val, x.op == 7, false, x.op == 9⟩
def brEv (k : Int) : Ev := ⟨0, k, 0, 0, false, false, false⟩
def St.write (locs : Int) (x : Ins) (p : Int) (s : St) : St := s.add (wrEv locs x s) (placeD s.d x.op x.a locs) (atR s.d x.b) p
/-- A load that takes a value. -/
def St.load (locs val : Int) (x : Ins) (s : St) : St :=
  let t := (({ s with vals := s.vals + 1 } : St).add (rdEv locs val x s) (placeD s.d x.op x.a locs) 0 (-1)).set x.d val (2 ^ s.evs.length)
  if x.op = 9 then { t with opn := (s.evs.length : Nat) } else t
def St.lcAt (s : St) (k : Int) : Int := ((s.evs[k.toNat]?).map Ev.lc).getD 0
/-- Is there a load, of the store's place? -/
def St.reach (locs : Int) (x : Ins) (s : St) : Bool := !(s.opn == -1) && (s.lcAt s.opn == placeZ s.v x.op x.a x.l locs)
def St.fail (x : Ins) (s : St) : St := ({ s with opn := -1 } : St).set x.d 1 0
def St.stx (locs : Int) (x : Ins) (s : St) : St := ((({ s with opn := -1, lucks := s.lucks + 1 } : St).write locs x s.opn)).set x.d 0 0
def St.branch (x : Ins) (s : St) : St :=
  { s with ctrl := bits .or .u32 s.ctrl (atR s.d x.a), next := if (atR s.v x.a == 0) == (x.op == 13) then s.next + x.i.toNat else s.next }
def St.step (locs : Int) (vals : List Int) (lucks : List Bool) (x : Ins) (s : St) : St :=
  if x.op = 5 ∨ x.op = 7 ∨ x.op = 9 then
    (if s.vals = vals.length then { s with more := 1 } else s.load locs (vals.getD s.vals 0) x)
  else if x.op = 6 ∨ x.op = 8 then s.write locs x (-1)
  else if x.op = 10 then
    (if s.reach locs x = true then
      (if s.lucks = lucks.length then { s with opn := -1, more := 2 }
       else if lucks.getD s.lucks false = true then s.stx locs x else ({ s with lucks := s.lucks + 1 } : St).fail x)
     else s.fail x)
  else if x.op = 11 then s.add (brEv (3 + x.i)) 0 0 (-1)
  else if x.op = 12 then s.add (brEv 6) 0 0 (-1)
  else if x.op = 13 ∨ x.op = 14 then s.branch x
  else { s with v := doV s.v x.op x.d x.a x.b x.i, d := doD s.d x.op x.d x.a x.b }
/-- The next instruction is come to. -/
def St.inc (s : St) : St := { s with next := s.next + 1 }
def St.run (th : List Ins) (locs : Int) (vals : List Int) (lucks : List Bool) : Nat → St → St
  | 0, s => s
  | n + 1, s => if s.more = 0 then (match th[s.next]? with | some x => St.run th locs vals lucks n (s.inc.step locs vals lucks x) | none => s) else s

/-- May a thread be? -/
def mayF (locs : Int) : List Ins → Bool
  | [] => true
  | x :: l => mayB x.op x.d x.a x.b x.l x.i l.length locs && mayF locs l
def mayT (th : List Ins) (locs : Int) : Bool := (decide (th.length ≤ 8) && (decide (1 ≤ locs) && decide (locs ≤ 3))) && mayF locs th
/-- What Run tells. -/
def runT (th : List Ins) (locs : Int) (vals : List Int) (lucks : List Bool) : St := if mayT th locs = true then St.run th locs vals lucks th.length St.zero else St.zero

/-- What holds of each instruction of a thread that may be. -/
structure InsOk (locs : Int) (behind : Nat) (x : Ins) : Prop where
  op : 1 ≤ x.op ∧ x.op ≤ 14
  dmb : x.op = 11 → 0 ≤ x.i ∧ x.i ≤ 2
  br : x.op = 13 ∨ x.op = 14 → 0 ≤ x.i ∧ x.i ≤ behind
  dd : hasDB x.op = true → 0 ≤ x.d ∧ x.d < 4
  aa : hasAB x.op = true → kindZ x.op = 0 → 0 ≤ x.a ∧ x.a < 4
  bb : hasBB x.op = true → 0 ≤ x.b ∧ x.b < 4
theorem insOk {locs : Int} {behind : Nat} {x : Ins} (h : mayB x.op x.d x.a x.b x.l x.i behind locs = true) : InsOk locs behind x := by
  unfold mayB at h
  simp only [Bool.and_eq_true, decide_eq_true_eq] at h
  obtain ⟨h1, h2, h3, h4, h5, h6⟩ := h
  refine ⟨h1, fun e => ?_, fun e => ?_, fun e => ?_, fun e k => ?_, fun e => ?_⟩
  · have : hasIB x.op = true := by rw [e]; decide
    unfold m5B immB at h6
    rw [this, e] at h6
    simpa using h6
  · have : hasIB x.op = true := by rcases e with e | e <;> (rw [e]; decide)
    unfold m5B immB at h6
    rw [this] at h6
    rcases e with e | e <;> (rw [e] at h6; simpa using h6)
  · unfold m1B regB at h2
    rw [e] at h2
    simpa using h2
  · unfold m2B baseB regB at h3
    rw [e, k] at h3
    simpa using h3
  · unfold m3B regB at h4
    rw [e] at h4
    simpa using h4

theorem mayF_at {locs : Int} : ∀ {th : List Ins}, mayF locs th = true → ∀ k x, th[k]? = some x → InsOk locs (th.length - 1 - k) x
  | [], _, k, x, h => by simp at h
  | y :: l, hm, 0, x, h => by
    simp only [mayF, Bool.and_eq_true] at hm
    simp only [List.getElem?_cons_zero, Option.some.injEq] at h
    subst h
    simpa using insOk hm.1
  | y :: l, hm, k + 1, x, h => by
    simp only [mayF, Bool.and_eq_true] at hm
    simp only [List.getElem?_cons_succ] at h
    have := mayF_at hm.2 k x h
    simp only [List.length_cons]
    rwa [show l.length + 1 - 1 - (k + 1) = l.length - 1 - k by omega]

/-- What holds all along. -/
structure StOk (n : Nat) (vals : List Int) (lucks : List Bool) (s : St) : Prop where
  ev : s.evs.length ≤ s.next
  nx : s.next ≤ n
  ad : s.ad.length = s.evs.length
  da : s.da.length = s.evs.length
  ct : s.ct.length = s.evs.length
  pa : s.pa.length = s.evs.length
  vs : s.vals ≤ vals.length
  ls : s.lucks ≤ lucks.length
  op : -1 ≤ s.opn ∧ s.opn < s.evs.length
/-- Ahead of a step: one more place for an event. -/
structure StIn (n : Nat) (vals : List Int) (lucks : List Bool) (s : St) : Prop where
  ev : s.evs.length + 1 ≤ s.next
  nx : s.next ≤ n
  ad : s.ad.length = s.evs.length
  da : s.da.length = s.evs.length
  ct : s.ct.length = s.evs.length
  pa : s.pa.length = s.evs.length
  vs : s.vals ≤ vals.length
  ls : s.lucks ≤ lucks.length
  op : -1 ≤ s.opn ∧ s.opn < s.evs.length
theorem stOk_zero (n : Nat) (vals : List Int) (lucks : List Bool) : StOk n vals lucks .zero := ⟨by simp [St.zero], by simp [St.zero], rfl, rfl, rfl, rfl, by simp [St.zero], by simp [St.zero], by simp [St.zero]⟩
theorem StOk.inc {n : Nat} {vals : List Int} {lucks : List Bool} {s : St} (h : StOk n vals lucks s) (hn : s.next < n) : StIn n vals lucks s.inc :=
  ⟨by have := h.ev; simp only [St.inc]; omega, hn, h.ad, h.da, h.ct, h.pa, h.vs, h.ls, h.op⟩
theorem StIn.ok {n : Nat} {vals : List Int} {lucks : List Bool} {s : St} (h : StIn n vals lucks s) : StOk n vals lucks s :=
  ⟨by have := h.ev; omega, h.nx, h.ad, h.da, h.ct, h.pa, h.vs, h.ls, h.op⟩
theorem StIn.add {n : Nat} {vals : List Int} {lucks : List Bool} {s : St} (h : StIn n vals lucks s) (e : Ev) (a d p : Int) : StOk n vals lucks (s.add e a d p) :=
  ⟨by simpa [St.add] using h.ev, h.nx, by simp [St.add, h.ad], by simp [St.add, h.da], by simp [St.add, h.ct], by simp [St.add, h.pa], h.vs, h.ls, by have := h.op; simp only [St.add, List.length_append, List.length_cons, List.length_nil]; omega⟩
theorem StOk.set {n : Nat} {vals : List Int} {lucks : List Bool} {s : St} (h : StOk n vals lucks s) (k x y : Int) : StOk n vals lucks (s.set k x y) :=
  ⟨h.ev, h.nx, h.ad, h.da, h.ct, h.pa, h.vs, h.ls, h.op⟩
theorem StIn.step {n : Nat} {vals : List Int} {lucks : List Bool} {s : St} (h : StIn n vals lucks s) {locs : Int} {x : Ins} (ok : InsOk locs (n - s.next) x) : StOk n vals lucks (s.step locs vals lucks x) := by
  unfold St.step
  split
  · split
    · exact ⟨h.ok.ev, h.nx, h.ad, h.da, h.ct, h.pa, h.vs, h.ls, h.op⟩
    · rename_i hv
      have h1 : StIn n vals lucks { s with vals := s.vals + 1 } := ⟨h.ev, h.nx, h.ad, h.da, h.ct, h.pa, by have := h.vs; show s.vals + 1 ≤ _; omega, h.ls, h.op⟩
      have h2 := (h1.add (rdEv locs (vals.getD s.vals 0) x s) (placeD s.d x.op x.a locs) 0 (-1)).set x.d (vals.getD s.vals 0) (2 ^ s.evs.length)
      unfold St.load
      simp only []
      split
      · refine ⟨h2.ev, h2.nx, h2.ad, h2.da, h2.ct, h2.pa, h2.vs, h2.ls, ?_⟩
        simp [St.set, St.add]
        omega
      · exact h2
  · split
    · exact h.add _ _ _ _
    · split
      · split
        · split
          · exact ⟨h.ok.ev, h.nx, h.ad, h.da, h.ct, h.pa, h.vs, h.ls, ⟨by show (-1 : Int) ≤ -1; omega, by show (-1 : Int) < (s.evs.length : Nat); omega⟩⟩
          · rename_i hl
            have h1 : StIn n vals lucks { s with opn := -1, lucks := s.lucks + 1 } := ⟨h.ev, h.nx, h.ad, h.da, h.ct, h.pa, h.vs, by have := h.ls; show s.lucks + 1 ≤ _; omega, ⟨by show (-1 : Int) ≤ -1; omega, by show (-1 : Int) < (s.evs.length : Nat); omega⟩⟩
            split
            · exact (h1.add _ _ _ _).set _ _ _
            · exact h1.ok.set _ _ _
        · exact StOk.set (s := { s with opn := -1 }) ⟨h.ok.ev, h.nx, h.ad, h.da, h.ct, h.pa, h.vs, h.ls, ⟨by show (-1 : Int) ≤ -1; omega, by show (-1 : Int) < (s.evs.length : Nat); omega⟩⟩ _ _ _
      · split
        · exact h.add _ _ _ _
        · split
          · exact h.add _ _ _ _
          · split
            · rename_i hb
              have := ok.br hb
              have h1 := h.ok.ev
              have h2 := h.nx
              refine ⟨?_, ?_, h.ad, h.da, h.ct, h.pa, h.vs, h.ls, h.op⟩
              · simp only [St.branch]
                split <;> omega
              · simp only [St.branch]
                split <;> omega
            · exact ⟨h.ok.ev, h.nx, h.ad, h.da, h.ct, h.pa, h.vs, h.ls, h.op⟩
end Go.Proofs.YtcalinfdckklfaaGreatDoor

namespace Go.Proofs.YtcalinfdckklfaaGreatDoor
open Go.RowKit

def Ev.cells (e : Ev) : List Value := [.int .i64 e.th, .int .i64 e.kd, .int .i64 e.lc, .int .i64 e.vl, .bool e.aq, .bool e.rl, .bool e.ex]
def EvE : Elem Ev where
  size := 7
  pos := by decide
  cs := fun _ _ x c => c = x.cells
  len := fun h => by subst h; rfl
  one := fun h u hu => by subst h; simp [Ev.cells] at hu; rcases hu with rfl | rfl | rfl | rfl | rfl | rfl | rfl <;> rfl
  keep := fun h _ => h
  mono := fun _ h => h
  lt := fun h => h
/-- Sets of loads. -/
def MskE : Elem Int where
  size := 1
  pos := Nat.one_pos
  cs := fun _ _ n c => c = [.int .u32 n]
  len := fun h => by subst h; rfl
  one := fun h u hu => by subst h; simp at hu; subst hu; rfl
  keep := fun h _ => h
  mono := fun _ h => h
  lt := fun h => h
def BoolE : Elem Bool where
  size := 1
  pos := Nat.one_pos
  cs := fun _ _ n c => c = [.bool n]
  len := fun h => by subst h; rfl
  one := fun h u hu => by subst h; simp at hu; subst hu; rfl
  keep := fun h _ => h
  mono := fun _ h => h
  lt := fun h => h
theorem msk_at {A : Nat → Prop} {w : World} {p : Option Addr} {n c : Nat} {xs : List Int} (h : SlA A MskE w (.slice p n c) xs) : n = xs.length ∧ ∀ k (hk : k < xs.length), ∃ b o, p = some ⟨b, o, none⟩ ∧ w.cell? ⟨b, o + k, none⟩ = some (.int .u32 xs[k]) := by
  obtain ⟨h1, h2⟩ := h.at
  refine ⟨h1, fun k hk => ?_⟩
  obtain ⟨b, o, rfl, _, cs, h3, h4⟩ := h2 k hk
  have := h4 0 _ (by rw [show cs = [.int .u32 xs[k]] from h3]; rfl)
  exact ⟨b, o, rfl, by simpa [MskE] using this⟩
theorem bool_at {A : Nat → Prop} {w : World} {p : Option Addr} {n c : Nat} {xs : List Bool} (h : SlA A BoolE w (.slice p n c) xs) : n = xs.length ∧ ∀ k (hk : k < xs.length), ∃ b o, p = some ⟨b, o, none⟩ ∧ w.cell? ⟨b, o + k, none⟩ = some (.bool xs[k]) := by
  obtain ⟨h1, h2⟩ := h.at
  refine ⟨h1, fun k hk => ?_⟩
  obtain ⟨b, o, rfl, _, cs, h3, h4⟩ := h2 k hk
  have := h4 0 _ (by rw [show cs = [.bool xs[k]] from h3]; rfl)
  exact ⟨b, o, rfl, by simpa [BoolE] using this⟩
def EvAt (w : World) (b o : Nat) (x : Ev) : Prop :=
  w.cell? ⟨b, o, none⟩ = some (.int .i64 x.th) ∧ w.cell? ⟨b, o + 1, none⟩ = some (.int .i64 x.kd) ∧ w.cell? ⟨b, o + 2, none⟩ = some (.int .i64 x.lc) ∧
  w.cell? ⟨b, o + 3, none⟩ = some (.int .i64 x.vl) ∧ w.cell? ⟨b, o + 4, none⟩ = some (.bool x.aq) ∧ w.cell? ⟨b, o + 5, none⟩ = some (.bool x.rl) ∧ w.cell? ⟨b, o + 6, none⟩ = some (.bool x.ex)
theorem ev_at {A : Nat → Prop} {w : World} {p : Option Addr} {n c : Nat} {xs : List Ev} (h : SlA A EvE w (.slice p n c) xs) : n = xs.length ∧ ∀ k (hk : k < xs.length), ∃ b o, p = some ⟨b, o, none⟩ ∧ EvAt w b (o + k * 7) xs[k] := by
  obtain ⟨h1, h2⟩ := h.at
  refine ⟨h1, fun k hk => ?_⟩
  obtain ⟨b, o, rfl, _, cs, h3, h4⟩ := h2 k hk
  have e : cs = xs[k].cells := h3
  subst e
  exact ⟨b, o, rfl, h4 0 _ rfl, h4 1 _ rfl, h4 2 _ rfl, h4 3 _ rfl, h4 4 _ rfl, h4 5 _ rfl, h4 6 _ rfl⟩

/-- One thing, in a new block. -/
theorem sl_single {α : Type} {R : Elem α} {A : Nat → Prop} {w : World} {b c : Nat} {x : α} {cs : List Value} (hA : A b) (hx : R.cs A w x cs) (h : ∀ j u, cs[j]? = some u → w.cell? ⟨b, j, none⟩ = some u) (hc : 1 ≤ c) : SlA A R w (.slice (some ⟨b, 0, none⟩) 1 c) [x] := by
  refine ⟨_, c, rfl, ⟨(fun e => by cases e), hc⟩, fun _ => ⟨b, 0, rfl, hA, fun i hi => ⟨cs, ?_, fun j u hu => ?_⟩⟩⟩
  · have : i = 0 := by simp at hi; omega
    subst this
    exact hx
  · have : i = 0 := by simp at hi; omega
    subst this
    simpa using h j u hu

/-- Nowhere. -/
def F0 : Nat → Prop := fun _ => False

section
variable {α : Type} {R : Elem α} {P : Program} {w : World} {xs : List α} {x : α}
/-- An append of one thing that lies in a block of its own. -/
theorem wpList_push {ops : Array Oper} {rest : List Oper} {o : Oper} {a : Act} {Q : Exit → Act → World → Prop} (hgd : o.guard = none) (s y : Operand) (t e : TypeId) (i : TypeInfo) (z : Value) (bytes : Nat)
    (ho : o.op = .call { callee := .builtin .append, args := #[s, y], argTypes := #[t, t] })
    (ht : P.underlying t = some (.slice e)) (hi : P.info? e = some i) (hz : i.zero = some z) (hsize : i.size = R.size) (hby : i.bytes = bytes) (hzs : z.cells.size = R.size)
    (base : Nat) (v : Value) (g : Nat) (hs : a.eval s = v) (hx : a.eval y = .slice (some ⟨g, 0, none⟩) 1 1) (hown : Own F0 R w base e v xs)
    (cs : List Value) (hcs : ∀ A w, R.cs A w x cs) (hR : ∀ A B w y c, R.cs A w y c → R.cs B w y c) (hg : ∀ j u, cs[j]? = some u → w.cell? ⟨g, j, none⟩ = some u)
    (h63 : xs.length ≤ 1000000) (hbytes : bytes ≤ 1000000) (hbase : base ≤ w.heap.size)
    (h : ∀ p cap w', Own F0 R w' base e (.slice p (xs.length + 1) cap) (xs ++ [x]) → w.grownBy w' v.ownBlock → ((Value.slice p (xs.length + 1) cap).ownBlock = v.ownBlock ∨ (Value.slice p (xs.length + 1) cap).ownBlock = some w.heap.size) → wpList P ops Q rest (a.put o.dst (.slice p (xs.length + 1) cap)) w') : wpList P ops Q (o :: rest) a w :=
  wpList_app (A := F0) (B := fun _ => True) (ys := [x]) hgd s y t e i z bytes ho ht hi hz hsize hby hzs base v _ hs hx hown (sl_single trivial (hcs _ _) hg (Nat.le_refl _)) (fun _ _ _ hc => hR _ _ _ _ _ hc) (by simp; omega) hbytes hbase (fun p cap w' h1 h2 h3 => by rw [show (xs ++ [x]).length = xs.length + 1 by simp] at h1 h3 ⊢; exact h p cap w' h1 h2 h3)
end

/-- With another row. -/
def updV (r : Nat → Value) (i : Nat) (v : Value) : Nat → Value := fun k => if k = i then v else r k
theorem updV_same (r : Nat → Value) (i : Nat) (v : Value) : updV r i v i = v := if_pos rfl
theorem updV_other (r : Nat → Value) {i k : Nat} (v : Value) (h : k ≠ i) : updV r i v k = r k := if_neg h

/-- The five rows of a trace. -/
structure Five (w : World) (base : Nat) (r : Nat → Value) (evs : List Ev) (ad da ct pa : List Int) : Prop where
  e0 : Own F0 EvE w base 52 (r 0) evs
  e1 : Own F0 MskE w base 29 (r 1) ad
  e2 : Own F0 MskE w base 29 (r 2) da
  e3 : Own F0 MskE w base 29 (r 3) ct
  e4 : Own F0 IntE w base 3 (r 4) pa
  dis : ∀ i j k, i < 5 → j < 5 → i ≠ j → (r i).ownBlock = some k → (r j).ownBlock ≠ some k
section
variable {w w' : World} {base : Nat} {r : Nat → Value} {evs : List Ev} {ad da ct pa : List Int} {v : Value}
theorem Five.lt (h : Five w base r evs ad da ct pa) {i k : Nat} (hi : i < 5) (hk : (r i).ownBlock = some k) : base ≤ k ∧ k < w.heap.size := by
  match i, hi with
  | 0, _ => exact h.e0.lt k hk
  | 1, _ => exact h.e1.lt k hk
  | 2, _ => exact h.e2.lt k hk
  | 3, _ => exact h.e3.lt k hk
  | 4, _ => exact h.e4.lt k hk
theorem Five.only {A : Nat → Prop} (h : Five w base r evs ad da ct pa) (ho : Only A w w') (ha : ∀ i k, i < 5 → (r i).ownBlock = some k → ¬ A k) : Five w' base r evs ad da ct pa :=
  ⟨h.e0.only ho (fun k hk => ha 0 k (by decide) hk) (fun _ h => h.elim), h.e1.only ho (fun k hk => ha 1 k (by decide) hk) (fun _ h => h.elim), h.e2.only ho (fun k hk => ha 2 k (by decide) hk) (fun _ h => h.elim),
    h.e3.only ho (fun k hk => ha 3 k (by decide) hk) (fun _ h => h.elim), h.e4.only ho (fun k hk => ha 4 k (by decide) hk) (fun _ h => h.elim), h.dis⟩
theorem Five.keep (h : Five w base r evs ad da ct pa) (hb : Below w.heap.size w w') : Five w' base r evs ad da ct pa :=
  h.only (A := F0) (Below.only hb) (fun _ _ _ _ h => h)
theorem Five.set (h : Five w base r evs ad da ct pa) {b i : Nat} (hb : b < base) (u : Value) : Five (w.setCell ⟨b, i, none⟩ u) base r evs ad da ct pa :=
  h.only (A := fun k => k = b) (grownBy_only (grownBy_set w ⟨b, i, none⟩ u) (fun k hk => by cases hk; rfl)) (fun i k hi hk e => by have := (h.lt hi hk).1; omega)
/-- One row has become longer. -/
theorem Five.dis' (h : Five w base r evs ad da ct pa) {i : Nat} (hi : i < 5) (hv : v.ownBlock = (r i).ownBlock ∨ v.ownBlock = some w.heap.size) : ∀ a j k, a < 5 → j < 5 → a ≠ j → (updV r i v a).ownBlock = some k → (updV r i v j).ownBlock ≠ some k := by
  intro a j k ha hj haj hk
  by_cases e : a = i
  · subst e
    rw [updV_same] at hk
    rw [updV_other _ _ (Ne.symm haj)]
    rcases hv with hv | hv
    · rw [hv] at hk; exact h.dis a j k ha hj haj hk
    · rw [hv] at hk
      cases hk
      intro hk
      have := (h.lt hj hk).2
      omega
  · rw [updV_other _ _ e] at hk
    by_cases e' : j = i
    · subst e'
      rw [updV_same]
      rcases hv with hv | hv
      · rw [hv]; exact h.dis a j k ha hj haj hk
      · rw [hv]
        intro e2
        cases e2
        have := (h.lt ha hk).2
        omega
    · rw [updV_other _ _ e']
      exact h.dis a j k ha hj haj hk
theorem Five.rest {i : Nat} (h : Five w base r evs ad da ct pa) (hi : i < 5) {j : Nat} (hj : j < 5) (hij : j ≠ i) : ∀ k, (r j).ownBlock = some k → ¬ (r i).ownBlock = some k := fun k hk => h.dis j i k hj hi hij hk
theorem Five.app0 (h : Five w base r evs ad da ct pa) {l : List Ev} (hg : w.grownBy w' (r 0).ownBlock) (ho : Own F0 EvE w' base 52 v l) (hv : v.ownBlock = (r 0).ownBlock ∨ v.ownBlock = some w.heap.size) : Five w' base (updV r 0 v) l ad da ct pa := by
  have O : Only (fun k => (r 0).ownBlock = some k) w w' := grownBy_only hg fun k hk => hk
  exact ⟨ho, h.e1.only O (h.rest (by decide) (by decide) (by decide)) (fun _ h => h.elim), h.e2.only O (h.rest (by decide) (by decide) (by decide)) (fun _ h => h.elim), h.e3.only O (h.rest (by decide) (by decide) (by decide)) (fun _ h => h.elim), h.e4.only O (h.rest (by decide) (by decide) (by decide)) (fun _ h => h.elim), h.dis' (by decide) hv⟩
theorem Five.app1 (h : Five w base r evs ad da ct pa) {l : List Int} (hg : w.grownBy w' (r 1).ownBlock) (ho : Own F0 MskE w' base 29 v l) (hv : v.ownBlock = (r 1).ownBlock ∨ v.ownBlock = some w.heap.size) : Five w' base (updV r 1 v) evs l da ct pa := by
  have O : Only (fun k => (r 1).ownBlock = some k) w w' := grownBy_only hg fun k hk => hk
  exact ⟨h.e0.only O (h.rest (by decide) (by decide) (by decide)) (fun _ h => h.elim), ho, h.e2.only O (h.rest (by decide) (by decide) (by decide)) (fun _ h => h.elim), h.e3.only O (h.rest (by decide) (by decide) (by decide)) (fun _ h => h.elim), h.e4.only O (h.rest (by decide) (by decide) (by decide)) (fun _ h => h.elim), h.dis' (by decide) hv⟩
theorem Five.app2 (h : Five w base r evs ad da ct pa) {l : List Int} (hg : w.grownBy w' (r 2).ownBlock) (ho : Own F0 MskE w' base 29 v l) (hv : v.ownBlock = (r 2).ownBlock ∨ v.ownBlock = some w.heap.size) : Five w' base (updV r 2 v) evs ad l ct pa := by
  have O : Only (fun k => (r 2).ownBlock = some k) w w' := grownBy_only hg fun k hk => hk
  exact ⟨h.e0.only O (h.rest (by decide) (by decide) (by decide)) (fun _ h => h.elim), h.e1.only O (h.rest (by decide) (by decide) (by decide)) (fun _ h => h.elim), ho, h.e3.only O (h.rest (by decide) (by decide) (by decide)) (fun _ h => h.elim), h.e4.only O (h.rest (by decide) (by decide) (by decide)) (fun _ h => h.elim), h.dis' (by decide) hv⟩
theorem Five.app3 (h : Five w base r evs ad da ct pa) {l : List Int} (hg : w.grownBy w' (r 3).ownBlock) (ho : Own F0 MskE w' base 29 v l) (hv : v.ownBlock = (r 3).ownBlock ∨ v.ownBlock = some w.heap.size) : Five w' base (updV r 3 v) evs ad da l pa := by
  have O : Only (fun k => (r 3).ownBlock = some k) w w' := grownBy_only hg fun k hk => hk
  exact ⟨h.e0.only O (h.rest (by decide) (by decide) (by decide)) (fun _ h => h.elim), h.e1.only O (h.rest (by decide) (by decide) (by decide)) (fun _ h => h.elim), h.e2.only O (h.rest (by decide) (by decide) (by decide)) (fun _ h => h.elim), ho, h.e4.only O (h.rest (by decide) (by decide) (by decide)) (fun _ h => h.elim), h.dis' (by decide) hv⟩
theorem Five.app4 (h : Five w base r evs ad da ct pa) {l : List Int} (hg : w.grownBy w' (r 4).ownBlock) (ho : Own F0 IntE w' base 3 v l) (hv : v.ownBlock = (r 4).ownBlock ∨ v.ownBlock = some w.heap.size) : Five w' base (updV r 4 v) evs ad da ct l := by
  have O : Only (fun k => (r 4).ownBlock = some k) w w' := grownBy_only hg fun k hk => hk
  exact ⟨h.e0.only O (h.rest (by decide) (by decide) (by decide)) (fun _ h => h.elim), h.e1.only O (h.rest (by decide) (by decide) (by decide)) (fun _ h => h.elim), h.e2.only O (h.rest (by decide) (by decide) (by decide)) (fun _ h => h.elim), h.e3.only O (h.rest (by decide) (by decide) (by decide)) (fun _ h => h.elim), ho, h.dis' (by decide) hv⟩
end

/-- The runner's cells behind the rows. -/
structure Tail where
  v : Nat → Int
  d : Nat → Int
  vals : Int
  lucks : Int
  more : Int
  locs : Int
  vv : Value
  lv : Value
  next : Int
  ctrl : Int
  opn : Int
def runC (a0 a1 a2 a3 a4 : Value) (t : Tail) : Array Value := #[a0, a1, a2, a3, a4, .int .i64 (t.v 0), .int .i64 (t.v 1), .int .i64 (t.v 2), .int .i64 (t.v 3), .int .u32 (t.d 0), .int .u32 (t.d 1), .int .u32 (t.d 2), .int .u32 (t.d 3),
  .int .i64 t.vals, .int .i64 t.lucks, .int .i64 t.more, .int .i64 t.locs, t.vv, t.lv, .int .i64 t.next, .int .u32 t.ctrl, .int .i64 t.opn]
def St.tail (s : St) (locs : Int) (vv lv : Value) : Tail := ⟨s.v, s.d, (s.vals : Nat), (s.lucks : Nat), s.more, locs, vv, lv, (s.next : Nat), s.ctrl, s.opn⟩
def RB (w : World) (b : Nat) (a0 a1 a2 a3 a4 : Value) (t : Tail) : Prop := Blk w b (runC a0 a1 a2 a3 a4 t) 142
theorem RB.keep {w w' : World} {b : Nat} {a0 a1 a2 a3 a4 : Value} {t : Tail} (h : RB w b a0 a1 a2 a3 a4 t) (hb : Below w.heap.size w w') : RB w' b a0 a1 a2 a3 a4 t := Blk.keep h hb
theorem RB.lt {w : World} {b : Nat} {a0 a1 a2 a3 a4 : Value} {t : Tail} (h : RB w b a0 a1 a2 a3 a4 t) : b < w.heap.size := Blk.lt h
theorem RB.rows {w : World} {b : Nat} {a0 a1 a2 a3 a4 : Value} {t : Tail} (h : RB w b a0 a1 a2 a3 a4 t) : w.cell? ⟨b, 0, none⟩ = some a0 ∧ w.cell? ⟨b, 1, none⟩ = some a1 ∧ w.cell? ⟨b, 2, none⟩ = some a2 ∧ w.cell? ⟨b, 3, none⟩ = some a3 ∧ w.cell? ⟨b, 4, none⟩ = some a4 :=
  ⟨(Blk.cell h 0).trans rfl, (Blk.cell h 1).trans rfl, (Blk.cell h 2).trans rfl, (Blk.cell h 3).trans rfl, (Blk.cell h 4).trans rfl⟩
theorem RB.regs {w : World} {b : Nat} {a0 a1 a2 a3 a4 : Value} {t : Tail} (h : RB w b a0 a1 a2 a3 a4 t) : (w.cell? ⟨b, 5, none⟩ = some (.int .i64 (t.v 0)) ∧ w.cell? ⟨b, 6, none⟩ = some (.int .i64 (t.v 1)) ∧ w.cell? ⟨b, 7, none⟩ = some (.int .i64 (t.v 2)) ∧ w.cell? ⟨b, 8, none⟩ = some (.int .i64 (t.v 3))) ∧
    w.cell? ⟨b, 9, none⟩ = some (.int .u32 (t.d 0)) ∧ w.cell? ⟨b, 10, none⟩ = some (.int .u32 (t.d 1)) ∧ w.cell? ⟨b, 11, none⟩ = some (.int .u32 (t.d 2)) ∧ w.cell? ⟨b, 12, none⟩ = some (.int .u32 (t.d 3)) :=
  ⟨⟨(Blk.cell h 5).trans rfl, (Blk.cell h 6).trans rfl, (Blk.cell h 7).trans rfl, (Blk.cell h 8).trans rfl⟩, (Blk.cell h 9).trans rfl, (Blk.cell h 10).trans rfl, (Blk.cell h 11).trans rfl, (Blk.cell h 12).trans rfl⟩
theorem RB.more {w : World} {b : Nat} {a0 a1 a2 a3 a4 : Value} {t : Tail} (h : RB w b a0 a1 a2 a3 a4 t) : (w.cell? ⟨b, 13, none⟩ = some (.int .i64 t.vals) ∧ w.cell? ⟨b, 14, none⟩ = some (.int .i64 t.lucks) ∧ w.cell? ⟨b, 15, none⟩ = some (.int .i64 t.more) ∧ w.cell? ⟨b, 16, none⟩ = some (.int .i64 t.locs)) ∧
    w.cell? ⟨b, 17, none⟩ = some t.vv ∧ w.cell? ⟨b, 18, none⟩ = some t.lv ∧ w.cell? ⟨b, 19, none⟩ = some (.int .i64 t.next) ∧ w.cell? ⟨b, 20, none⟩ = some (.int .u32 t.ctrl) ∧ w.cell? ⟨b, 21, none⟩ = some (.int .i64 t.opn) :=
  ⟨⟨(Blk.cell h 13).trans rfl, (Blk.cell h 14).trans rfl, (Blk.cell h 15).trans rfl, (Blk.cell h 16).trans rfl⟩, (Blk.cell h 17).trans rfl, (Blk.cell h 18).trans rfl, (Blk.cell h 19).trans rfl, (Blk.cell h 20).trans rfl, (Blk.cell h 21).trans rfl⟩
theorem RB.frozen {w : World} {b : Nat} {a0 a1 a2 a3 a4 : Value} {t : Tail} (h : RB w b a0 a1 a2 a3 a4 t) (i : Nat) : w.frozen? ⟨b, i, none⟩ = false := Blk.frozen h i

theorem RB.set0 {w : World} {b : Nat} {a0 a1 a2 a3 a4 : Value} {t : Tail} (h : RB w b a0 a1 a2 a3 a4 t) (v : Value) : RB (w.setCell ⟨b, 0, none⟩ v) b v a1 a2 a3 a4 t := by
  have k := Blk.set (i := 0) h v
  simp only [runC, List.setIfInBounds_toArray, List.set] at k
  exact k
theorem RB.set1 {w : World} {b : Nat} {a0 a1 a2 a3 a4 : Value} {t : Tail} (h : RB w b a0 a1 a2 a3 a4 t) (v : Value) : RB (w.setCell ⟨b, 1, none⟩ v) b a0 v a2 a3 a4 t := by
  have k := Blk.set (i := 1) h v
  simp only [runC, List.setIfInBounds_toArray, List.set] at k
  exact k
theorem RB.set2 {w : World} {b : Nat} {a0 a1 a2 a3 a4 : Value} {t : Tail} (h : RB w b a0 a1 a2 a3 a4 t) (v : Value) : RB (w.setCell ⟨b, 2, none⟩ v) b a0 a1 v a3 a4 t := by
  have k := Blk.set (i := 2) h v
  simp only [runC, List.setIfInBounds_toArray, List.set] at k
  exact k
theorem RB.set3 {w : World} {b : Nat} {a0 a1 a2 a3 a4 : Value} {t : Tail} (h : RB w b a0 a1 a2 a3 a4 t) (v : Value) : RB (w.setCell ⟨b, 3, none⟩ v) b a0 a1 a2 v a4 t := by
  have k := Blk.set (i := 3) h v
  simp only [runC, List.setIfInBounds_toArray, List.set] at k
  exact k
theorem RB.set4 {w : World} {b : Nat} {a0 a1 a2 a3 a4 : Value} {t : Tail} (h : RB w b a0 a1 a2 a3 a4 t) (v : Value) : RB (w.setCell ⟨b, 4, none⟩ v) b a0 a1 a2 a3 v t := by
  have k := Blk.set (i := 4) h v
  simp only [runC, List.setIfInBounds_toArray, List.set] at k
  exact k
theorem RB.setVals {w : World} {b : Nat} {a0 a1 a2 a3 a4 : Value} {t : Tail} (h : RB w b a0 a1 a2 a3 a4 t) (n : Int) : RB (w.setCell ⟨b, 13, none⟩ (.int .i64 n)) b a0 a1 a2 a3 a4 { t with vals := n } := by
  have k := Blk.set (i := 13) h (.int .i64 n)
  simp only [runC, List.setIfInBounds_toArray, List.set] at k
  exact k
theorem RB.setLucks {w : World} {b : Nat} {a0 a1 a2 a3 a4 : Value} {t : Tail} (h : RB w b a0 a1 a2 a3 a4 t) (n : Int) : RB (w.setCell ⟨b, 14, none⟩ (.int .i64 n)) b a0 a1 a2 a3 a4 { t with lucks := n } := by
  have k := Blk.set (i := 14) h (.int .i64 n)
  simp only [runC, List.setIfInBounds_toArray, List.set] at k
  exact k
theorem RB.setMore {w : World} {b : Nat} {a0 a1 a2 a3 a4 : Value} {t : Tail} (h : RB w b a0 a1 a2 a3 a4 t) (n : Int) : RB (w.setCell ⟨b, 15, none⟩ (.int .i64 n)) b a0 a1 a2 a3 a4 { t with more := n } := by
  have k := Blk.set (i := 15) h (.int .i64 n)
  simp only [runC, List.setIfInBounds_toArray, List.set] at k
  exact k
theorem RB.setNext {w : World} {b : Nat} {a0 a1 a2 a3 a4 : Value} {t : Tail} (h : RB w b a0 a1 a2 a3 a4 t) (n : Int) : RB (w.setCell ⟨b, 19, none⟩ (.int .i64 n)) b a0 a1 a2 a3 a4 { t with next := n } := by
  have k := Blk.set (i := 19) h (.int .i64 n)
  simp only [runC, List.setIfInBounds_toArray, List.set] at k
  exact k
theorem RB.setCtrl {w : World} {b : Nat} {a0 a1 a2 a3 a4 : Value} {t : Tail} (h : RB w b a0 a1 a2 a3 a4 t) (n : Int) : RB (w.setCell ⟨b, 20, none⟩ (.int .u32 n)) b a0 a1 a2 a3 a4 { t with ctrl := n } := by
  have k := Blk.set (i := 20) h (.int .u32 n)
  simp only [runC, List.setIfInBounds_toArray, List.set] at k
  exact k
theorem RB.setOpn {w : World} {b : Nat} {a0 a1 a2 a3 a4 : Value} {t : Tail} (h : RB w b a0 a1 a2 a3 a4 t) (n : Int) : RB (w.setCell ⟨b, 21, none⟩ (.int .i64 n)) b a0 a1 a2 a3 a4 { t with opn := n } := by
  have k := Blk.set (i := 21) h (.int .i64 n)
  simp only [runC, List.setIfInBounds_toArray, List.set] at k
  exact k
/-- The registers written, cell by cell. -/
def putR (w : World) (b : Nat) (v d : Nat → Int) : World := (((((((w.setCell ⟨b, 5, none⟩ (.int .i64 (v 0))).setCell ⟨b, 6, none⟩ (.int .i64 (v 1))).setCell ⟨b, 7, none⟩ (.int .i64 (v 2))).setCell ⟨b, 8, none⟩ (.int .i64 (v 3))).setCell ⟨b, 9, none⟩ (.int .u32 (d 0))).setCell ⟨b, 10, none⟩ (.int .u32 (d 1))).setCell ⟨b, 11, none⟩ (.int .u32 (d 2))).setCell ⟨b, 12, none⟩ (.int .u32 (d 3))
theorem RB.putR {w : World} {b : Nat} {a0 a1 a2 a3 a4 : Value} {t : Tail} (h : RB w b a0 a1 a2 a3 a4 t) (v d : Nat → Int) : RB (putR w b v d) b a0 a1 a2 a3 a4 { t with v := v, d := d } := by
  have k := Blk.set (i := 12) (Blk.set (i := 11) (Blk.set (i := 10) (Blk.set (i := 9) (Blk.set (i := 8) (Blk.set (i := 7) (Blk.set (i := 6) (Blk.set (i := 5) h (.int .i64 (v 0))) (.int .i64 (v 1))) (.int .i64 (v 2))) (.int .i64 (v 3))) (.int .u32 (d 0))) (.int .u32 (d 1))) (.int .u32 (d 2))) (.int .u32 (d 3))
  simp only [runC, List.setIfInBounds_toArray, List.set] at k
  exact k
/-- What the runner has: its block, and its rows' blocks. -/
def RS (b : Nat) (r : Nat → Value) (k : Nat) : Prop := k = b ∨ ∃ i, i < 5 ∧ (r i).ownBlock = some k
structure RunAt (w : World) (b base : Nat) (locs : Int) (vv lv : Value) (r : Nat → Value) (s : St) : Prop where
  blk : RB w b (r 0) (r 1) (r 2) (r 3) (r 4) (s.tail locs vv lv)
  five : Five w base r s.evs s.ad s.da s.ct s.pa
  lt : b < base
  bs : base ≤ w.heap.size
theorem RunAt.keep {w w' : World} {b base : Nat} {locs : Int} {vv lv : Value} {r : Nat → Value} {s : St} (h : RunAt w b base locs vv lv r s) (hb : Below w.heap.size w w') : RunAt w' b base locs vv lv r s :=
  ⟨h.blk.keep hb, h.five.keep hb, h.lt, Nat.le_trans h.bs hb.size⟩
theorem RunAt.rs {w : World} {b base : Nat} {locs : Int} {vv lv : Value} {r : Nat → Value} {s : St} (h : RunAt w b base locs vv lv r s) {k : Nat} (hk : RS b r k) : b ≤ k ∧ k < w.heap.size := by
  rcases hk with rfl | ⟨i, hi, hk⟩
  · exact ⟨Nat.le_refl _, h.blk.lt⟩
  · have := h.five.lt hi hk
    have := h.lt
    omega
/-- What a step leaves behind. -/
def Post (b base : Nat) (locs : Int) (vv lv : Value) (r : Nat → Value) (w : World) (s' : St) (w' : World) : Prop :=
  ∃ r', RunAt w' b base locs vv lv r' s' ∧ Only (RS b r) w w' ∧ ∀ k, RS b r' k → RS b r k ∨ w.heap.size ≤ k
theorem Post.trans {b base : Nat} {locs : Int} {vv lv : Value} {r r' : Nat → Value} {w w' w'' : World} {s'' : St} (ho : Only (RS b r) w w') (hk : ∀ k, RS b r' k → RS b r k ∨ w.heap.size ≤ k) (h : Post b base locs vv lv r' w' s'' w'') : Post b base locs vv lv r w s'' w'' := by
  obtain ⟨r2, h1, h2, h3⟩ := h
  refine ⟨r2, h1, ho.trans h2 hk, fun k hr => ?_⟩
  rcases h3 k hr with h | h
  · exact hk k h
  · exact .inr (Nat.le_trans ho.size h)
theorem Post.ahead {b base : Nat} {locs : Int} {vv lv : Value} {r : Nat → Value} {w w' w'' : World} {s'' : St} (hb : Below w.heap.size w w') (h : Post b base locs vv lv r w' s'' w'') : Post b base locs vv lv r w s'' w'' :=
  Post.trans (Below.only hb) (fun _ h => .inl h) h
theorem only_set {w : World} {b i : Nat} {r : Nat → Value} {v : Value} : Only (RS b r) w (w.setCell ⟨b, i, none⟩ v) :=
  grownBy_only (grownBy_set w ⟨b, i, none⟩ v) (fun k hk => by cases hk; exact .inl rfl)
theorem only_putR {w : World} {b : Nat} {r : Nat → Value} {v d : Nat → Int} : Only (RS b r) w (putR w b v d) := by
  have k : ∀ {a c : World} {i : Nat} {u : Value}, Only (RS b r) a c → Only (RS b r) a (c.setCell ⟨b, i, none⟩ u) := fun h => h.trans (B := RS b r) only_set (fun _ h => .inl h)
  exact k (k (k (k (k (k (k (k Only.refl)))))))
theorem Five.putR {w : World} {base : Nat} {r : Nat → Value} {evs : List Ev} {ad da ct pa : List Int} (h : Five w base r evs ad da ct pa) {b : Nat} (hb : b < base) (v d : Nat → Int) : Five (putR w b v d) base r evs ad da ct pa :=
  (((((((h.set hb _).set hb _).set hb _).set hb _).set hb _).set hb _).set hb _).set hb _
/-- An append, written back. -/
theorem app_only {w0 w w2 w3 : World} {b i : Nat} {r0 r : Nat → Value} {v : Value} (hi : i < 5) (ho : Only (RS b r0) w0 w) (hs : ∀ k, RS b r k → RS b r0 k ∨ w0.heap.size ≤ k) (hb : Below w.heap.size w w2) (hg : w2.grownBy w3 (r i).ownBlock) (hv : v.ownBlock = (r i).ownBlock ∨ v.ownBlock = some w2.heap.size) :
    Only (RS b r0) w0 (w3.setCell ⟨b, i, none⟩ v) ∧ ∀ k, RS b (updV r i v) k → RS b r0 k ∨ w0.heap.size ≤ k := by
  have o1 : Only (RS b r) w w2 := Below.only hb
  have o2 : Only (RS b r) w2 w3 := grownBy_only hg fun k hk => .inr ⟨i, hi, hk⟩
  have o3 : Only (RS b r) w3 (w3.setCell ⟨b, i, none⟩ v) := only_set
  refine ⟨ho.trans ((o1.trans o2 fun _ h => .inl h).trans o3 fun _ h => .inl h) hs, fun k hk => ?_⟩
  rcases hk with rfl | ⟨j, hj, hk⟩
  · exact hs _ (.inl rfl)
  · by_cases e : j = i
    · subst e
      rw [updV_same] at hk
      rcases hv with hv | hv
      · rw [hv] at hk; exact hs k (.inr ⟨j, hj, hk⟩)
      · rw [hv] at hk
        cases hk
        exact .inr (Nat.le_trans ho.size hb.size)
    · rw [updV_other _ _ e] at hk
      exact hs k (.inr ⟨j, hj, hk⟩)
end Go.Proofs.YtcalinfdckklfaaGreatDoor

namespace Go.Proofs.YtcalinfdckklfaaGreatDoor
open Go.RowKit

def trC (r : Nat → Value) (s : St) : Array Value := #[r 0, r 1, r 2, r 3, r 4, .int .i64 (s.v 0), .int .i64 (s.v 1), .int .i64 (s.v 2), .int .i64 (s.v 3), .int .u32 (s.d 0), .int .u32 (s.d 1), .int .u32 (s.d 2), .int .u32 (s.d 3), .int .i64 (s.vals : Nat), .int .i64 (s.lucks : Nat), .int .i64 s.more]
def trV (r : Nat → Value) (s : St) : Value := .agg (trC r s)
/-- Its rows read as its lists. -/
structure TrIs (w : World) (r : Nat → Value) (s : St) : Prop where
  e0 : Sl EvE w (r 0) s.evs
  e1 : Sl MskE w (r 1) s.ad
  e2 : Sl MskE w (r 2) s.da
  e3 : Sl MskE w (r 3) s.ct
  e4 : Sl IntE w (r 4) s.pa
theorem TrIs.keep {w w' : World} {r : Nat → Value} {s : St} (h : TrIs w r s) (hb : Below w.heap.size w w') : TrIs w' r s := ⟨h.e0.keep hb, h.e1.keep hb, h.e2.keep hb, h.e3.keep hb, h.e4.keep hb⟩
theorem Five.tr {w : World} {base : Nat} {r : Nat → Value} {s : St} (h : Five w base r s.evs s.ad s.da s.ct s.pa) : TrIs w r s := ⟨h.e0.sl.any, h.e1.sl.any, h.e2.sl.any, h.e3.sl.any, h.e4.sl.any⟩
theorem run_five (w : World) (base : Nat) : Five w base (fun _ => .slice none 0 0) [] [] [] [] [] := ⟨Own.nil, Own.nil, Own.nil, Own.nil, Own.nil, fun _ _ _ _ _ _ h => by simp [Value.ownBlock] at h⟩
/-- Its rows are the call's own, and lie in memory that is new. -/
def TrO (w : World) (n : Nat) (r : Nat → Value) (s : St) : Prop := ∃ base, n ≤ base ∧ Five w base r s.evs s.ad s.da s.ct s.pa
theorem TrO.tr {w : World} {n : Nat} {r : Nat → Value} {s : St} (h : TrO w n r s) : TrIs w r s := by
  obtain ⟨_, _, h⟩ := h
  exact Five.tr h
theorem TrO.keep {w w' : World} {n : Nat} {r : Nat → Value} {s : St} (h : TrO w n r s) (hb : Below w.heap.size w w') : TrO w' n r s := by
  obtain ⟨b, hn, h⟩ := h
  exact ⟨b, hn, h.keep hb⟩
def TrB (w : World) (b : Nat) (r : Nat → Value) (s : St) (t : TypeId) : Prop := Blk w b (trC r s) t
theorem TrB.keep {w w' : World} {b : Nat} {r : Nat → Value} {s : St} {t : TypeId} (h : TrB w b r s t) (hb : Below w.heap.size w w') : TrB w' b r s t := Blk.keep h hb
theorem TrB.lt {w : World} {b : Nat} {r : Nat → Value} {s : St} {t : TypeId} (h : TrB w b r s t) : b < w.heap.size := Blk.lt h
theorem TrB.frozen {w : World} {b : Nat} {r : Nat → Value} {s : St} {t : TypeId} (h : TrB w b r s t) (i : Nat) : w.frozen? ⟨b, i, none⟩ = false := Blk.frozen h i
theorem TrB.rows {w : World} {b : Nat} {r : Nat → Value} {s : St} {t : TypeId} (h : TrB w b r s t) : w.cell? ⟨b, 0, none⟩ = some (r 0) ∧ w.cell? ⟨b, 1, none⟩ = some (r 1) ∧ w.cell? ⟨b, 2, none⟩ = some (r 2) ∧ w.cell? ⟨b, 3, none⟩ = some (r 3) ∧ w.cell? ⟨b, 4, none⟩ = some (r 4) :=
  ⟨(Blk.cell h 0).trans rfl, (Blk.cell h 1).trans rfl, (Blk.cell h 2).trans rfl, (Blk.cell h 3).trans rfl, (Blk.cell h 4).trans rfl⟩
theorem TrB.regs {w : World} {b : Nat} {r : Nat → Value} {s : St} {t : TypeId} (h : TrB w b r s t) : (w.cell? ⟨b, 5, none⟩ = some (.int .i64 (s.v 0)) ∧ w.cell? ⟨b, 6, none⟩ = some (.int .i64 (s.v 1)) ∧ w.cell? ⟨b, 7, none⟩ = some (.int .i64 (s.v 2)) ∧ w.cell? ⟨b, 8, none⟩ = some (.int .i64 (s.v 3))) ∧ w.cell? ⟨b, 9, none⟩ = some (.int .u32 (s.d 0)) ∧ w.cell? ⟨b, 10, none⟩ = some (.int .u32 (s.d 1)) ∧ w.cell? ⟨b, 11, none⟩ = some (.int .u32 (s.d 2)) ∧ w.cell? ⟨b, 12, none⟩ = some (.int .u32 (s.d 3)) :=
  ⟨⟨(Blk.cell h 5).trans rfl, (Blk.cell h 6).trans rfl, (Blk.cell h 7).trans rfl, (Blk.cell h 8).trans rfl⟩, (Blk.cell h 9).trans rfl, (Blk.cell h 10).trans rfl, (Blk.cell h 11).trans rfl, (Blk.cell h 12).trans rfl⟩
theorem TrB.more {w : World} {b : Nat} {r : Nat → Value} {s : St} {t : TypeId} (h : TrB w b r s t) : w.cell? ⟨b, 13, none⟩ = some (.int .i64 (s.vals : Nat)) ∧ w.cell? ⟨b, 14, none⟩ = some (.int .i64 (s.lucks : Nat)) ∧ w.cell? ⟨b, 15, none⟩ = some (.int .i64 s.more) :=
  ⟨(Blk.cell h 13).trans rfl, (Blk.cell h 14).trans rfl, (Blk.cell h 15).trans rfl⟩
/-- A whole trace written, cell by cell. -/
def put16 (w : World) (b : Nat) (r : Nat → Value) (s : St) : World := ((((((((((((((((w).setCell ⟨b, 0, none⟩ (r 0)).setCell ⟨b, 1, none⟩ (r 1)).setCell ⟨b, 2, none⟩ (r 2)).setCell ⟨b, 3, none⟩ (r 3)).setCell ⟨b, 4, none⟩ (r 4)).setCell ⟨b, 5, none⟩ (.int .i64 (s.v 0))).setCell ⟨b, 6, none⟩ (.int .i64 (s.v 1))).setCell ⟨b, 7, none⟩ (.int .i64 (s.v 2))).setCell ⟨b, 8, none⟩ (.int .i64 (s.v 3))).setCell ⟨b, 9, none⟩ (.int .u32 (s.d 0))).setCell ⟨b, 10, none⟩ (.int .u32 (s.d 1))).setCell ⟨b, 11, none⟩ (.int .u32 (s.d 2))).setCell ⟨b, 12, none⟩ (.int .u32 (s.d 3))).setCell ⟨b, 13, none⟩ (.int .i64 (s.vals : Nat))).setCell ⟨b, 14, none⟩ (.int .i64 (s.lucks : Nat))).setCell ⟨b, 15, none⟩ (.int .i64 s.more)
theorem blk_put16 {w : World} {b : Nat} {r0 r : Nat → Value} {s0 s : St} {t : TypeId} (h : TrB w b r0 s0 t) : TrB (put16 w b r s) b r s t := by
  have k := Blk.set (i := 15) (Blk.set (i := 14) (Blk.set (i := 13) (Blk.set (i := 12) (Blk.set (i := 11) (Blk.set (i := 10) (Blk.set (i := 9) (Blk.set (i := 8) (Blk.set (i := 7) (Blk.set (i := 6) (Blk.set (i := 5) (Blk.set (i := 4) (Blk.set (i := 3) (Blk.set (i := 2) (Blk.set (i := 1) (Blk.set (i := 0) (h) (r 0)) (r 1)) (r 2)) (r 3)) (r 4)) (.int .i64 (s.v 0))) (.int .i64 (s.v 1))) (.int .i64 (s.v 2))) (.int .i64 (s.v 3))) (.int .u32 (s.d 0))) (.int .u32 (s.d 1))) (.int .u32 (s.d 2))) (.int .u32 (s.d 3))) (.int .i64 (s.vals : Nat))) (.int .i64 (s.lucks : Nat))) (.int .i64 s.more)
  simp only [trC, List.setIfInBounds_toArray, List.set] at k
  exact k
theorem below_setT {w : World} {b i : Nat} {B : Nat} {a : World} (h : Below B a w) (hB : B ≤ b) (v : Value) : Below B a (w.setCell ⟨b, i, none⟩ v) :=
  ⟨h.os, h.tape, h.output, Nat.le_trans h.size (by simp [World.setCell]), fun k hk => (Below.heap_setCell _ _ _ _ (by simp; omega)).trans (h.block k hk)⟩
theorem below_put16 {w : World} {b : Nat} {B : Nat} {a : World} (h : Below B a w) (hB : B ≤ b) (r : Nat → Value) (s : St) : Below B a (put16 w b r s) :=
  below_setT (below_setT (below_setT (below_setT (below_setT (below_setT (below_setT (below_setT (below_setT (below_setT (below_setT (below_setT (below_setT (below_setT (below_setT (below_setT (h) hB _) hB _) hB _) hB _) hB _) hB _) hB _) hB _) hB _) hB _) hB _) hB _) hB _) hB _) hB _) hB _
theorem set_only {A : Nat → Prop} {w : World} {b i : Nat} {a : World} (h : Only A a w) (hB : A b) (v : Value) : Only A a (w.setCell ⟨b, i, none⟩ v) :=
  h.trans (grownBy_only (A := A) (grownBy_set w ⟨b, i, none⟩ v) (fun k hk => by cases hk; exact hB)) fun _ h => .inl h
end Go.Proofs.YtcalinfdckklfaaGreatDoor
