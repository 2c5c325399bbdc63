/- Contracts of text.addLine at the three lines of the document's small test. -/
import Derived.Test.YtjmcplbhjihepaaDoorTextBack
import Derived.Test.YtjmcplbhjihepaaDoorTestPlain
import Derived.Test.YtjmcplbhjihepaaDoorPar
namespace Go.Proofs.YtjmcplbhjihepaaDoor
open Go.RowKit

/-- What stood, but for one block. -/
structure Only (b : Nat) (w w' : World) : Prop where
  below : Below b w w'
  others : Agree (fun k => k ≠ b) w w'
theorem Only.set {b i : Nat} {w w1 : World} {v : Value} (h : Below w.heap.size w w1) (hb : b < w.heap.size) : Only b w (w1.setCell ⟨b, i, none⟩ v) := by
  refine ⟨(h.mono (Nat.le_of_lt hb)).setCell (p := ⟨b, i, none⟩) (Nat.le_refl _) v, fun k hk hl => ?_⟩
  have g := grownBy_set w1 ⟨b, i, none⟩ v
  rw [g.block k (Nat.lt_of_lt_of_le hl h.size) (fun e => hk (by simpa using e))]
  exact h.block k hl
theorem Only.blk {b k : Nat} {w w' : World} {cs : Array Value} {t : TypeId} (h : Only b w w') (hk : k ≠ b) (hB : Blk w k cs t) : Blk w' k cs t := by
  unfold Blk at *
  rw [h.others k hk (Blk.lt (by exact hB))]
  exact hB

set_option maxRecDepth 100000 in
set_option maxHeartbeats 2000000 in
theorem addLine_0 (T : Nat) (vi vt : Value) (w : World) (E : Env w) (hT : Blk w T #[vi, vt] 32) :
    Calls Tryd.prog 30 #[.pointer (some ⟨T, 0, none⟩), .int .i64 0, .string ⟨line0.toArray⟩] w fun e w' => e = .returned (.bool true) ∧ ∃ p c, SlA (fun b => w.heap.size ≤ b) IntE w' (.slice p 1 c) [0] ∧ Blk w' T #[.slice p 1 c, vt] 32 ∧ Only T w w' := by
  go_enter Tryd.func30, Tryd.ntmps30
  go_wp2_with fail
  refine (readInit_0 w E).mono ?_
  rintro e w1 ⟨p, c, rfl, hS, hb⟩
  have hT1 := hT.keep hb
  have hz := hT.lt
  have hc : ∀ j, w1.cell? ⟨T, j, none⟩ = #[vi, vt][j]? := fun j => hT1.cell j
  have hf : ∀ j, w1.frozen? ⟨T, j, none⟩ = false := fun j => hT1.frozen j
  go_wp2
  go_ret
  refine ⟨rfl, p, c, hS.agree (grownBy_agree (grownBy_set _ _ _) (fun b hb e => by simp at e; omega)), hT1.set (i := 0) _, Only.set hb hz⟩

theorem info_thr' : ((Tryd.prog.info? 36).map fun i => (i.zero, i.size, i.bytes)) = some (some (.slice none 0 0), 1, 24) := by kernel_rfl
/-- Slices that are nil. -/
def NilE : Elem Unit where
  size := 1
  pos := Nat.one_pos
  cs := fun _ _ _ c => c = [.slice none 0 0]
  len := fun h => by subst h; rfl
  one := fun h u hu => by subst h; simp at hu; subst hu; rfl
  keep := fun h _ => h
  mono := fun _ h => h
  lt := fun h => h
theorem nil_one {A : Nat → Prop} {w : World} {b c : Nat} (hA : A b) (h : w.cell? ⟨b, 0, none⟩ = some (.slice none 0 0)) (hc : 1 ≤ c := by decide) : SlA A NilE w (.slice (some ⟨b, 0, none⟩) 1 c) [()] := by
  refine ⟨_, c, rfl, ⟨(fun e => by cases e), hc⟩, fun _ => ⟨b, 0, rfl, hA, fun i hi => ⟨[.slice none 0 0], rfl, fun j u hu => ?_⟩⟩⟩
  have : i = 0 := by simp at hi; omega
  subst this
  match j, hu with
  | 0, hu => simp at hu; subst hu; simpa using h
  | j + 1, hu => simp at hu
theorem own_nil1 {A : Nat → Prop} {w : World} {base : Nat} {e : TypeId} {p : Option Addr} {c : Nat} (h : Own A NilE w base e (.slice p 1 c) [()]) : ∃ g cur, p = some ⟨g, 0, none⟩ ∧ base ≤ g ∧ Blk w g cur e ∧ cur[0]? = some (.slice none 0 0) ∧ 1 ≤ c := by
  obtain ⟨cc, h1, h2, h3⟩ := h
  rcases h1.2 with ⟨_, h0⟩ | ⟨g, cap, cur, hv, hb, hg, hnc, _, _, htake⟩
  · cases h0
  · simp only [Value.slice.injEq] at hv
    obtain ⟨rfl, _, rfl⟩ := hv
    refine ⟨g, cur, rfl, hb, hg, ?_, hnc⟩
    have hcc : cc = [[.slice none 0 0]] := by
      match cc, h2, h3 with
      | [x], _, h3 => rw [show x = [.slice none 0 0] from h3 0 (by simp) (by simp)]
    rw [hcc] at htake
    have := congrArg (fun l : List Value => l[0]?) htake
    simp [NilE] at this
    rw [← this]
def line1 : List UInt8 := [116, 104, 114, 101, 97, 100]
set_option maxRecDepth 100000 in
set_option maxHeartbeats 2000000 in
theorem addLine_1 (T : Nat) (vi : Value) (w : World) (hT : Blk w T #[vi, .slice none 0 0] 32) :
    Calls Tryd.prog 30 #[.pointer (some ⟨T, 0, none⟩), .int .i64 1, .string ⟨line1.toArray⟩] w fun e w' => e = .returned (.bool true) ∧ ∃ g cap cur, Blk w' T #[vi, .slice (some ⟨g, 0, none⟩) 1 cap] 32 ∧ w.heap.size ≤ g ∧ Blk w' g cur 36 ∧ cur[0]? = some (.slice none 0 0) ∧ 1 ≤ cap ∧ Only T w w' := by
  obtain ⟨i0, hi, hz⟩ := Option.map_eq_some_iff.1 info_thr'
  simp only [Prod.mk.injEq] at hz
  obtain ⟨hz0, hz1, hz2⟩ := hz
  have L1 : Hid _ := hi
  have L2 : Hid _ := hz0
  have L3 : Hid (i0.size = NilE.size) := hz1
  have L4 : Hid _ := hz2
  clear hi hz0 hz1 hz2
  have hz := hT.lt
  have hc : ∀ j, w.cell? ⟨T, j, none⟩ = #[vi, .slice none 0 0][j]? := fun j => hT.cell j
  have hb0 : Below w.heap.size w (w.alloc (.cells #[.slice none 0 0] 36)) := (Below.refl _ _).alloc (Nat.le_refl _) _
  go_enter Tryd.func30, Tryd.ntmps30
  go_wp2_with (at_builtin; refine wpList_app (R := NilE) (A := fun _ => False) (B := fun _ => True) (xs := []) (ys := [()]) (by rfl) (.tmp 32) (.tmp 33) 30 36 i0 (.slice none 0 0) 24 (by rfl) Tryd.underlying30 L1.out L2.out L3.out L4.out rfl w.heap.size (.slice none 0 0) (.slice (some ⟨w.heap.size, 0, none⟩) 1 1) (by rfl) (by rfl) Own.nil (nil_one trivial (by simp)) (fun _ _ _ h => h) (by decide) (by decide) (by simp) ?_; intro p6 c6 w6 hO6 hg6 _; have hb6 : Below w.heap.size w w6 := hb0.grown hg6 (by simp) (fun q hq => by cases hq); have hT6 := hT.keep hb6; have hc6 : ∀ j, w6.cell? ⟨T, j, none⟩ = #[vi, .slice none 0 0][j]? := fun j => hT6.cell j; have hf6 : ∀ j, w6.frozen? ⟨T, j, none⟩ = false := fun j => hT6.frozen j)
  go_ret
  obtain ⟨g, cur, rfl, hgb, hBg, hcur, hc1⟩ := own_nil1 hO6
  exact ⟨rfl, g, c6, cur, hT6.set (i := 1) _, hgb, hBg.grown (grownBy_set _ _ _) (by simp; omega), hcur, hc1, Only.set hb6 hz⟩
end Go.Proofs.YtjmcplbhjihepaaDoor
