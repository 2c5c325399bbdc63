/- The numbers of package test: how many loads and stores there are, and what may be. -/
import Derived.Test.YtgaannoghefbbaaDoorInsP
import Derived.Test.YtgaannoghefbbaaDoorBase
namespace Go.Proofs.YtgaannoghefbbaaDoor

/-- How many loads, and stores. -/
def cntT : List Ins → Int → Int → Int × Int
  | [], r, s => (r, s)
  | x :: xs, r, s => if kindZ x.op = 1 then cntT xs (r + 1) s else if kindZ x.op = 2 then cntT xs r (s + 1) else cntT xs r s
def cntTs : List (List Ins) → Int → Int → Int × Int
  | [], r, s => (r, s)
  | l :: ls, r, s => cntTs ls (cntT l r s).1 (cntT l r s).2
def sizeTs : List (List Ins) → Nat
  | [] => 0
  | l :: ls => l.length + sizeTs ls

def mayI (x : Ins) (behind locs : Int) : Bool := mayB x.op x.d x.a x.b x.l x.i behind locs
/-- The place of a thread's first instruction that may not be. -/
def badAt (locs : Int) : List Ins → Nat → Option Nat
  | [], _ => none
  | x :: xs, k => bif mayI x xs.length locs then badAt locs xs (k + 1) else some k
def thrE (locs : Int) (l : List Ins) : Int × Int :=
  if l.length < 1 ∨ 8 < l.length then (0, 1) else match badAt locs l 0 with | some k => (k, 2) | none => (0, 0)
def thrsE (locs : Int) : List (List Ins) → Nat → Option (Int × Int × Int)
  | [], _ => none
  | l :: ls, i => if (thrE locs l).2 = 0 then thrsE locs ls (i + 1) else some (i, (thrE locs l).1, (thrE locs l).2)
def numI (n : Int) : Bool := decide (-1000 ≤ n) && decide (n ≤ 1000)
def initB (xs : List Int) : Bool := decide (1 ≤ xs.length ∧ xs.length ≤ 3) && xs.all numI
def checkZ (xs : List Int) (ts : List (List Ins)) : Int × Int × Int :=
  if initB xs = false ∨ ts.length < 1 ∨ 3 < ts.length then (0, 0, 1)
  else match thrsE xs.length ts 0 with
    | some r => r
    | none => if 6 < (cntTs ts 0 0).1 + (cntTs ts 0 0).2 ∨ 4 < (cntTs ts 0 0).1 then (0, 0, 3) else (0, 0, 0)
def fewB (xs : List Int) (ts : List (List Ins)) : Bool := decide (xs.length ≤ 10) && decide (ts.length ≤ 10) && ts.all fun l => decide (l.length ≤ 40)


/-- What an instruction becomes: nothing, where it is a barrier; itself, with a barrier ahead, where it loads or stores. -/
def fnB (op : Int) : Bool := (op == 11) || (op == 12)
def brB (op : Int) : Bool := (op == 13) || (op == 14)
def lay0 (x : Ins) : List Ins := bif fnB x.op then [] else [x]
def dmb : Ins := ⟨11, 0, 0, 0, 0, 0⟩
def lay1 (x : Ins) : List Ins := if kindZ x.op = 0 then [x] else [dmb, x]
def laid (lay : Ins → List Ins) (l : List Ins) : Int := ((l.flatMap lay).length : Nat)
def skipZ (x : Ins) (n : Int) : Ins := bif brB x.op then { x with i := n } else x
/-- A thread, laid out anew. -/
def relay (lay : Ins → List Ins) : List Ins → List Ins
  | [] => []
  | x :: xs => lay (skipZ x (laid lay (xs.take x.i.toNat))) ++ relay lay xs
/-- Branches stay within the thread. -/
def inside : List Ins → Bool
  | [] => true
  | x :: xs => (!brB x.op || (decide (0 ≤ x.i) && decide (x.i ≤ xs.length))) && inside xs
def bareL (l : List Ins) : List Ins := relay lay0 l
def fencedL (l : List Ins) : List Ins := relay lay1 (bareL l)

end Go.Proofs.YtgaannoghefbbaaDoor
