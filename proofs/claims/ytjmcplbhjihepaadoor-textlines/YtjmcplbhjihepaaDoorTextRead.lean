/- Contracts of text.opNamed and text.Read. -/
import Derived.Test.YtjmcplbhjihepaaDoorTextLine2
namespace Go.Proofs.YtjmcplbhjihepaaDoor
open Go.RowKit

theorem ne_l {a b : ByteArray} (h : a ≠ b) : (a.toList == b.toList) = false := by
  rw [beq_eq_false_iff_ne]
  intro e
  rw [ByteArray.toList_eq, ByteArray.toList_eq] at e
  exact h (ByteArray.ext (Array.toList_inj.mp e))
theorem eq_l {a b : List UInt8} (h : (⟨a.toArray⟩ : ByteArray) = ⟨b.toArray⟩) : a = b := by
  have := congrArg (fun x : ByteArray => x.data.toList) h
  simpa using this

set_option maxHeartbeats 2000000 in
theorem opNamed_hit (op : Int) (hop : 1 ≤ op ∧ op ≤ 14) (w : World) (E : Env w) :
    Calls Tryd.prog 11 #[.string (nameS op)] w fun e w' => e = .returned (.tuple #[.int .i64 op, .bool true]) ∧ Below w.heap.size w w' := by
  obtain ⟨s, hs⟩ : ∃ s, nameS op = s := ⟨_, rfl⟩
  rw [hs]
  have HN : Hid (∀ k : Int, 1 ≤ k → k < op → nameS k ≠ s) := fun k h1 h2 e => by have := name_inj ⟨h1, by omega⟩ hop (e.trans hs.symm); omega
  have HS : Hid _ := hs
  clear hs
  obtain ⟨h0, h1⟩ := hop
  go_enter Tryd.func11, Tryd.ntmps11
  go_wp2
  go_loopw [4] (fun q wr => ∃ k : Int, 1 ≤ k ∧ k ≤ op ∧ q = .int .i64 k ∧ Below w.heap.size w wr) (fun q _ => 15 - (intOf q).toNat)
  case atStart => exact ⟨1, by omega, h0, rfl, Below.refl _ _⟩
  case round =>
    obtain ⟨k, hk1, hk2, rfl, hB⟩ := hrel
    have hk14 : k ≤ 14 := by omega
    have Er := E.below hB
    by_cases hk : k = op
    · subst hk
      go_wp2_with (go_at_call 24; refine (Name_any _ _ Er.tab).mono ?_; rintro e w1 ⟨rfl, hb1⟩; rw [HS.out])
      go_ret2
      exact ⟨rfl, hB.trans (hb1.mono hB.size)⟩
    · have hne := ne_l (HN.out k hk1 (by omega))
      go_wp2_with fail
      refine (Name_any _ _ Er.tab).mono ?_
      rintro e w1 ⟨rfl, hb1⟩
      go_wp2
      go_roundw
      case rel => exact ⟨k + 1, by omega, by omega, rfl, hB.trans (hb1.mono hB.size)⟩
      case measure => simp [intOf]; omega
set_option maxHeartbeats 2000000 in
theorem opNamed_miss (s : ByteArray) (hs : ∀ k : Int, 1 ≤ k → k ≤ 14 → nameS k ≠ s) (w : World) (E : Env w) :
    Calls Tryd.prog 11 #[.string s] w fun e w' => e = .returned (.tuple #[.int .i64 0, .bool false]) ∧ Below w.heap.size w w' := by
  have HN : Hid _ := hs
  clear hs
  go_enter Tryd.func11, Tryd.ntmps11
  go_wp2
  go_loopw [4] (fun q wr => ∃ k : Int, 1 ≤ k ∧ k ≤ 15 ∧ q = .int .i64 k ∧ Below w.heap.size w wr) (fun q _ => 15 - (intOf q).toNat)
  case atStart => exact ⟨1, by omega, by omega, rfl, Below.refl _ _⟩
  case round =>
    obtain ⟨k, hk1, hk2, rfl, hB⟩ := hrel
    have Er := E.below hB
    by_cases hk : k ≤ 14
    · have hne := ne_l (HN.out k hk1 hk)
      go_wp2_with fail
      refine (Name_any _ _ Er.tab).mono ?_
      rintro e w1 ⟨rfl, hb1⟩
      go_wp2
      go_roundw
      case rel => exact ⟨k + 1, by omega, by omega, rfl, hB.trans (hb1.mono hB.size)⟩
      case measure => simp [intOf]; omega
    · go_wp2
      go_ret2
      exact ⟨rfl, hB⟩

/-- An instruction stored into the result's own block. -/
theorem ret_ins {w w3 : World} {r : Nat} {cs : Array Value} {t : TypeId} {v0 v1 v2 v3 v4 v5 : Value} (hR : Blk w3 r cs t) (hcs : cs.size = 6) (hr : w.heap.size ≤ r) (hB : Below w.heap.size w w3) :
    ∃ W, ((((((w3.setCell ⟨r, 0, none⟩ v0).setCell ⟨r, 1, none⟩ v1).setCell ⟨r, 2, none⟩ v2).setCell ⟨r, 3, none⟩ v3).setCell ⟨r, 4, none⟩ v4).setCell ⟨r, 5, none⟩ v5) = W ∧ W.cell? ⟨r, 0, none⟩ = some v0 ∧ W.cell? ⟨r, 1, none⟩ = some v1 ∧ W.cell? ⟨r, 2, none⟩ = some v2 ∧ W.cell? ⟨r, 3, none⟩ = some v3 ∧ W.cell? ⟨r, 4, none⟩ = some v4 ∧ W.cell? ⟨r, 5, none⟩ = some v5 ∧ Below w.heap.size w W := by
  have h := (((((hR.set (i := 0) v0).set (i := 1) v1).set (i := 2) v2).set (i := 3) v3).set (i := 4) v4).set (i := 5) v5
  refine ⟨_, rfl, ?_, ?_, ?_, ?_, ?_, ?_, (((((hB.setCell (p := ⟨r, 0, none⟩) hr v0).setCell (p := ⟨r, 1, none⟩) hr v1).setCell (p := ⟨r, 2, none⟩) hr v2).setCell (p := ⟨r, 3, none⟩) hr v3).setCell (p := ⟨r, 4, none⟩) hr v4).setCell (p := ⟨r, 5, none⟩) hr v5⟩
  all_goals rw [h.cell]
  all_goals simp [hcs]

/-- What is read: the instruction, and whether there is one. -/
def readV (op d a b l i : Int) (ok : Bool) : Value := .tuple #[.agg #[.int .i64 op, .int .i64 d, .int .i64 a, .int .i64 b, .int .i64 l, .int .i64 i], .bool ok]

set_option maxHeartbeats 2000000 in
theorem Read_none (s : List UInt8) (hs : s.length ≤ 1000000) (hn : ∀ k : Int, 1 ≤ k → k ≤ 14 → nameS k ≠ ⟨(cutB 32 s).1.toArray⟩) (w : World) (E : Env w) :
    Calls Tryd.prog 5 #[.string ⟨s.toArray⟩] w fun e w' => e = .returned (readV 0 0 0 0 0 0 false) ∧ Below w.heap.size w w' := by
  unfold readV
  obtain ⟨q, hq⟩ : ∃ q, cutB 32 s = q := ⟨_, rfl⟩
  rw [hq] at hn
  have HQ : Hid _ := hq
  have HN : Hid _ := hn
  clear hq hn
  go_enter Tryd.func5, Tryd.ntmps5
  go_wp2_with fail
  refine (Cut_any s 32 _ hs).mono ?_
  rintro e w1 ⟨rfl, hb1⟩
  rw [HQ.out]
  have hR : Blk w1 w.heap.size #[.int .i64 0, .int .i64 0, .int .i64 0, .int .i64 0, .int .i64 0, .int .i64 0] 23 := Blk.keep Blk.new hb1
  have hB1 : Below w.heap.size w w1 := ((Below.refl _ _).alloc (Nat.le_refl _) _).trans (hb1.mono (by simp))
  clear hb1
  go_wp2_with fail
  refine (opNamed_miss ⟨q.1.toArray⟩ HN.out w1 (E.below hB1)).mono ?_
  rintro e w2 ⟨rfl, hb2⟩
  have hB2 := hB1.trans (hb2.mono hB1.size)
  have hR2 := hR.keep hb2
  generalize hXX : w.heap.size = X at hR2 ⊢
  have HX : Hid _ := hXX
  have hcR : ∀ j, w2.cell? ⟨X, j, none⟩ = #[Value.int .i64 0, .int .i64 0, .int .i64 0, .int .i64 0, .int .i64 0, .int .i64 0][j]? := fun j => hR2.cell j
  have hfR : ∀ j, w2.frozen? ⟨X, j, none⟩ = false := fun j => hR2.frozen j
  have hz := hR2.lt
  clear hR hXX
  go_wp2
  obtain ⟨W, hW, c0, c1, c2, c3, c4, c5, hBf⟩ := ret_ins (v0 := .int .i64 0) (v1 := .int .i64 0) (v2 := .int .i64 0) (v3 := .int .i64 0) (v4 := .int .i64 0) (v5 := .int .i64 0) hR2 rfl (Nat.le_of_eq HX.out) hB2
  rw [hW]
  exact bodyPost_ret (v := .tuple #[.agg #[.int .i64 0, .int .i64 0, .int .i64 0, .int .i64 0, .int .i64 0, .int .i64 0], .bool false]) (by simp [results, Tryd.results5, go_sem, c0, c1, c2, c3, c4, c5]) rfl ⟨rfl, hBf⟩
end Go.Proofs.YtjmcplbhjihepaaDoor
