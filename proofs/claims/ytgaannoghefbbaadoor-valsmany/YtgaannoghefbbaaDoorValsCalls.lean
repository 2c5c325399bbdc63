/- Contracts of Traces, Wrote and Of of the landed vals, as the laws take them. -/
import Derived.Test.YtgaannoghefbbaaDoorValsOf
namespace Go.Proofs.YtgaannoghefbbaaDoor
open Go.RowKit
theorem Traces_any (p pl : Option Addr) (c cl : Nat) (th : List Ins) (locs : Int) (l : List Int) (w : World) (T : FEnv w) (hl8 : l.length ≤ 8) (hth : th.length ≤ 1000000)
    (ht : Sl InsE w (.slice p th.length c) th) (hl : Sl IntE w (.slice pl l.length cl) l) :
    Calls Tryd.prog 8 #[.slice p th.length c, .int .i64 locs, .slice pl l.length cl] w fun e w' => ∃ u, e = .returned u ∧ Sl TrE w' u (tracesT th locs l) ∧ Below w.heap.size w w' :=
  (Traces_new p pl c cl th locs l w T hl8 hth ht hl).mono fun _ _ ⟨u, h1, h2, h3⟩ => ⟨u, h1, h2.any, h3⟩
theorem Wrote_any (p : Option Addr) (c : Nat) (l : List St) (w : World) (hl : Sl TrE w (.slice p l.length c) l) (hs : ∀ s ∈ l, s.evs.length ≤ 8) (hn : l.length * 8 ≤ 1000000) (hz : ∀ x ∈ wroteT l, InZ x) :
    Calls Tryd.prog 11 #[.slice p l.length c] w fun e w' => ∃ v, e = .returned v ∧ Sl IntE w' v (putsN [] (wroteT l)) ∧ Below w.heap.size w w' :=
  (Wrote_new p c l w hl hs hn hz).mono fun _ _ ⟨u, h1, h2, h3⟩ => ⟨u, h1, h2.any, h3⟩
theorem Of_any (pi pt : Option Addr) (ci ct : Nat) (xs : List Int) (ts : List (List Ins)) (w : World) (T : FEnv w) (hi : Sl IntE w (.slice pi xs.length ci) xs) (ht : Sl ThrE w (.slice pt ts.length ct) ts) (hM : sizeTs ts ≤ 1000000) (hz : ∀ x ∈ xs, InZ x) :
    Calls Tryd.prog 13 #[.agg #[.slice pi xs.length ci, .slice pt ts.length ct]] w fun e w' => ∃ u, e = .returned (.tuple #[u, .int .i64 (ofZ xs ts).2]) ∧ Sl IntE w' u (ofZ xs ts).1 ∧ Below w.heap.size w w' :=
  Of_new pi pt ci ct xs ts w T hi ht hM hz
end Go.Proofs.YtgaannoghefbbaaDoor
