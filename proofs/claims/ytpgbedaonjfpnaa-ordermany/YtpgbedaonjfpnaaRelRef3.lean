/- Contracts of the document's Put, Cross, Seq, Plus, Acyclic, Same. -/
import Derived.Test.YtpgbedaonjfpnaaRelRef2
namespace Go.Proofs.Ytpgbedaonjfpnaa
open Go.RowKit
attribute [local go_sem] Ext.cell Ext.frozen

/-- The pairs that x leads on to. -/
def onP (g : Nat → Nat → Bool) (x : Nat × Nat) (k : Nat) : List (Nat × Nat) := ((List.range k).filter (g x.2)).map fun y => (x.1, y)
theorem onP_yes {g : Nat → Nat → Bool} {x : Nat × Nat} {k : Nat} (h : g x.2 k = true) : onP g x (k + 1) = onP g x k ++ [(x.1, k)] := by
  simp [onP, List.range_succ, List.filter_append, h]
theorem onP_no {g : Nat → Nat → Bool} {x : Nat × Nat} {k : Nat} (h : g x.2 k = false) : onP g x (k + 1) = onP g x k := by
  simp [onP, List.range_succ, List.filter_append, h]
theorem onP_in {g : Nat → Nat → Bool} {x y : Nat × Nat} {n : Nat} (hx : x.1 < n) (h : y ∈ onP g x n) : y.1 < n ∧ y.2 < n := by
  unfold onP at h
  obtain ⟨z, hz, rfl⟩ := List.mem_map.1 h
  exact ⟨hx, by simpa using (List.mem_filter.1 hz).1⟩
theorem of_on {n : Nat} (f g : Nat → Nat → Bool) {i k : Nat} (hi : i < n) (hk : k < n) : ofF ((pairsF n f).flatMap fun x => onP g x n) i k = seqF n f g i k := by
  rw [Bool.eq_iff_iff]
  unfold ofF
  rw [List.contains_iff_mem, List.mem_flatMap, seqF_iff]
  constructor
  · rintro ⟨⟨a, b⟩, h, hy⟩
    obtain ⟨z, hz, e⟩ := List.mem_map.1 hy
    simp only [Prod.mk.injEq] at e
    obtain ⟨rfl, rfl⟩ := e
    have h1 := pairs_mem.1 h
    exact ⟨b, h1.2.1, h1.2.2, (List.mem_filter.1 hz).2⟩
  · rintro ⟨j, hj, h1, h2⟩
    exact ⟨(i, j), pairs_mem.2 ⟨hi, hj, h1⟩, List.mem_map.2 ⟨k, List.mem_filter.2 ⟨by simpa using hk, h2⟩, rfl⟩⟩
end Go.Proofs.Ytpgbedaonjfpnaa
