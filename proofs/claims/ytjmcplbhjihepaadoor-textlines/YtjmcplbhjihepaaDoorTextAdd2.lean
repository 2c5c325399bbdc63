/- The contract of text.addLine at an instruction's line. -/
import Derived.Test.YtjmcplbhjihepaaDoorTextAdd
namespace Go.Proofs.YtjmcplbhjihepaaDoor
open Go.RowKit

def ldr1 : Ins := ⟨5, 1, -1, 0, 0, 0⟩
theorem info_ins' : ((Tryd.prog.info? 23).map fun i => (i.zero, i.size, i.bytes)) = some (some (.agg #[.int .i64 0, .int .i64 0, .int .i64 0, .int .i64 0, .int .i64 0, .int .i64 0]), 6, 48) := by kernel_rfl
theorem ins_one1 {A : Nat → Prop} {w : World} {b c : Nat} (x : Ins) (hA : A b) (h : InsAt w b 0 x) (hc : 1 ≤ c := by decide) : SlA A InsE w (.slice (some ⟨b, 0, none⟩) 1 c) [x] := by
  refine ⟨_, c, rfl, ⟨(fun e => by cases e), hc⟩, fun _ => ⟨b, 0, rfl, hA, fun i hi => ?_⟩⟩
  have hi' : i = 0 := by simp at hi; omega
  subst hi'
  refine ⟨x.cells, rfl, fun j u hu => ?_⟩
  obtain ⟨h0, h1, h2, h3, h4, h5⟩ := h
  match j, hu with
  | 0, hu => simp [Ins.cells] at hu; subst hu; simpa using h0
  | 1, hu => simp [Ins.cells] at hu; subst hu; simpa using h1
  | 2, hu => simp [Ins.cells] at hu; subst hu; simpa using h2
  | 3, hu => simp [Ins.cells] at hu; subst hu; simpa using h3
  | 4, hu => simp [Ins.cells] at hu; subst hu; simpa using h4
  | 5, hu => simp [Ins.cells] at hu; subst hu; simpa using h5
  | j + 6, hu => simp [Ins.cells] at hu
def phiA (n T g cap : Nat) : Nat → Value → World → Prop
  | 0, v, _ => v = .pointer (some ⟨T, 0, none⟩)
  | 1, v, _ => v = .pointer (some ⟨T, 0, none⟩)
  | 2, v, _ => v = .pointer (some ⟨T, 1, none⟩)
  | 3, v, _ => v = .slice (some ⟨g, 0, none⟩) 1 cap
  | 4, v, _ => v = .int .i64 0
  | 5, v, _ => v = .pointer (some ⟨T, 0, none⟩)
  | 6, v, _ => v = .pointer (some ⟨T, 0, none⟩)
  | 7, v, _ => v = .pointer (some ⟨T, 1, none⟩)
  | 8, v, _ => v = .slice (some ⟨g, 0, none⟩) 1 cap
  | 9, v, _ => v = .int .i64 0
  | 10, v, _ => v = .pointer (some ⟨g, 0, none⟩)
  | 11, v, _ => v = .slice none 0 0
  | 12, v, _ => v = .agg #[.int .i64 5, .int .i64 1, .int .i64 (-1), .int .i64 0, .int .i64 0, .int .i64 0]
  | 13, v, w => ∃ b, v = .slice (some ⟨b, 0, none⟩) 1 1 ∧ Blk w b #[.int .i64 5, .int .i64 1, .int .i64 (-1), .int .i64 0, .int .i64 0, .int .i64 0] 23
  | 14, v, w => ∃ p c, v = .slice p 1 c ∧ SlA (fun b => n ≤ b) InsE w (.slice p 1 c) [ldr1]
  | _, v, _ => v = .pointer (some ⟨g, 0, none⟩)
theorem phiA_stab (n T g cap i : Nat) (v : Value) (w w' : World) (h : phiA n T g cap i v w) (hb : Below w.heap.size w w') : phiA n T g cap i v w' := by
  match i, h with
  | 0, h => exact h
  | 1, h => exact h
  | 2, h => exact h
  | 3, h => exact h
  | 4, h => exact h
  | 5, h => exact h
  | 6, h => exact h
  | 7, h => exact h
  | 8, h => exact h
  | 9, h => exact h
  | 10, h => exact h
  | 11, h => exact h
  | 12, h => exact h
  | 13, ⟨b, h1, h2⟩ => exact ⟨b, h1, h2.keep hb⟩
  | 14, ⟨p, c, h1, h2⟩ => exact ⟨p, c, h1, h2.keep hb⟩
  | i + 15, h => exact h

set_option maxRecDepth 100000 in
set_option maxHeartbeats 4000000 in
theorem addLine_2 (T g cap : Nat) (cur : Array Value) (vi : Value) (w : World) (E : Env w) (hT : Blk w T #[vi, .slice (some ⟨g, 0, none⟩) 1 cap] 32) (hg : Blk w g cur 36) (hcur : cur[0]? = some (.slice none 0 0)) (hne : T ≠ g) :
    Calls Tryd.prog 30 #[.pointer (some ⟨T, 0, none⟩), .int .i64 2, .string ⟨line2.toArray⟩] w fun e w' => e = .returned (.bool true) ∧ ∃ p c, SlA (fun b => w.heap.size ≤ b) InsE w' (.slice p 1 c) [ldr1] ∧ w'.cell? ⟨g, 0, none⟩ = some (.slice p 1 c) ∧ Blk w' T #[vi, .slice (some ⟨g, 0, none⟩) 1 cap] 32 ∧ Only g w w' := by
  obtain ⟨i0, hi, hz⟩ := Option.map_eq_some_iff.1 info_ins'
  simp only [Prod.mk.injEq] at hz
  obtain ⟨hz0, hz1, hz2⟩ := hz
  have L1 : Hid _ := hi
  have L2 : Hid _ := hz0
  have L3 : Hid (i0.size = InsE.size) := hz1
  have L4 : Hid _ := hz2
  clear hi hz0 hz1 hz2
  have hd : (line2 == [116, 104, 114, 101, 97, 100]) = false := by decide
  go_enter Tryd.func30, Tryd.ntmps30
  go_wp2_with fail
  have C := Read_line2 w E
  unfold readV at C
  refine C.mono ?_
  clear C
  rintro e w1 ⟨rfl, hb1⟩
  have hT1 := hT.keep hb1
  have hg1 := hg.keep hb1
  have hcT : ∀ j, w1.cell? ⟨T, j, none⟩ = #[vi, .slice (some ⟨g, 0, none⟩) 1 cap][j]? := fun j => hT1.cell j
  have hzT := hT1.lt
  go_wp2_with fail
  generalize hW2 : w1.alloc (Obj.cells #[Value.int IntKind.i64 5, Value.int IntKind.i64 1, Value.int IntKind.i64 (-1), Value.int IntKind.i64 0, Value.int IntKind.i64 0, Value.int IntKind.i64 0] 23) = w2
  have hX2 : Blk w2 w1.heap.size #[.int .i64 5, .int .i64 1, .int .i64 (-1), .int .i64 0, .int .i64 0, .int .i64 0] 23 := by rw [← hW2]; exact Blk.new
  have hT2 : Blk w2 T #[vi, .slice (some ⟨g, 0, none⟩) 1 cap] 32 := by rw [← hW2]; exact hT1.alloc _
  have hg2 : Blk w2 g cur 36 := by rw [← hW2]; exact hg1.alloc _
  have hB2 : Below w.heap.size w w2 := by rw [← hW2]; exact hb1.alloc hb1.size _
  have hgw : g < w.heap.size := hg.lt
  clear hW2 hcT hzT hT1 hg1 hT hg
  generalize w1.heap.size = Y at *
  refine wp_region_par [16] [(53, 0), (54, 1), (55, 2), (56, 3), (57, 4), (58, 5), (59, 6), (60, 7), (61, 8), (62, 9), (63, 10), (64, 11), (65, 12), (66, 13), (67, 14), (68, 15)] (phiA w.heap.size T g cap) (by kernel_rfl) (by kernel_rfl) (phiA_stab w.heap.size T g cap) ?_ ?_
  · intro vals v5 hB5
    have hT5 := hT2.keep hB5
    have hg5 := hg2.keep hB5
    have hX5 := hX2.keep hB5
    have cT : ∀ j, v5.cell? ⟨T, j, none⟩ = #[vi, .slice (some ⟨g, 0, none⟩) 1 cap][j]? := fun j => hT5.cell j
    have cX : ∀ j, v5.cell? ⟨Y, j, none⟩ = #[Value.int .i64 5, .int .i64 1, .int .i64 (-1), .int .i64 0, .int .i64 0, .int .i64 0][j]? := fun j => hX5.cell j
    have cG : v5.cell? ⟨g, 0, none⟩ = some (.slice none 0 0) := (hg5.cell 0).trans hcur
    dsimp only [EachOp, Nat.zero_add, Nat.reduceAdd]
    refine ⟨fun _ hd => ?_, fun _ hd => ?_, fun _ hd => ?_, fun _ hd => ?_, fun _ hd => ?_, fun _ hd => ?_, fun _ hd => ?_, fun _ hd => ?_, fun _ hd => ?_, fun _ hd => ?_, fun _ hd => ?_, fun _ hd => ?_, fun _ hd => ?_, fun _ hd => ?_, fun _ hd => ?_, fun _ hd => ?_, fun h => absurd h (by decide), trivial⟩
    · simp only [laidF, List.foldl, Act.put, List.setIfInBounds_toArray, List.set]
      go_wp2
      exact ⟨_, rfl, rfl, Below.refl _ _⟩
    · have h0 : vals 0 = _ := hd ⟨0, .data⟩ (by simp) rfl
      simp only [laidF, List.foldl, Act.put, List.setIfInBounds_toArray, List.set, h0]
      go_wp2
      exact ⟨_, rfl, rfl, Below.refl _ _⟩
    · have h1 : vals 1 = _ := hd ⟨1, .data⟩ (by simp) rfl
      simp only [laidF, List.foldl, Act.put, List.setIfInBounds_toArray, List.set, h1]
      go_wp2
      exact ⟨_, rfl, rfl, Below.refl _ _⟩
    · have h2 : vals 2 = _ := hd ⟨2, .data⟩ (by simp) rfl
      simp only [laidF, List.foldl, Act.put, List.setIfInBounds_toArray, List.set, h2]
      go_wp2
      exact ⟨_, rfl, rfl, Below.refl _ _⟩
    · simp only [laidF, List.foldl, Act.put, List.setIfInBounds_toArray, List.set]
      go_wp2
      exact ⟨_, rfl, rfl, Below.refl _ _⟩
    · simp only [laidF, List.foldl, Act.put, List.setIfInBounds_toArray, List.set]
      go_wp2
      exact ⟨_, rfl, rfl, Below.refl _ _⟩
    · have h5 : vals 5 = _ := hd ⟨5, .data⟩ (by simp) rfl
      simp only [laidF, List.foldl, Act.put, List.setIfInBounds_toArray, List.set, h5]
      go_wp2
      exact ⟨_, rfl, rfl, Below.refl _ _⟩
    · have h6 : vals 6 = _ := hd ⟨6, .data⟩ (by simp) rfl
      simp only [laidF, List.foldl, Act.put, List.setIfInBounds_toArray, List.set, h6]
      go_wp2
      exact ⟨_, rfl, rfl, Below.refl _ _⟩
    · have h7 : vals 7 = _ := hd ⟨7, .data⟩ (by simp) rfl
      simp only [laidF, List.foldl, Act.put, List.setIfInBounds_toArray, List.set, h7]
      go_wp2
      exact ⟨_, rfl, rfl, Below.refl _ _⟩
    · simp only [laidF, List.foldl, Act.put, List.setIfInBounds_toArray, List.set]
      go_wp2
      exact ⟨_, rfl, rfl, Below.refl _ _⟩
    · have h8 : vals 8 = _ := hd ⟨8, .data⟩ (by simp) rfl
      have h9 : vals 9 = _ := hd ⟨9, .data⟩ (by simp) rfl
      simp only [laidF, List.foldl, Act.put, List.setIfInBounds_toArray, List.set, h8, h9]
      go_wp2
      exact ⟨_, rfl, rfl, Below.refl _ _⟩
    · have h10 : vals 10 = _ := hd ⟨10, .data⟩ (by simp) rfl
      simp only [laidF, List.foldl, Act.put, List.setIfInBounds_toArray, List.set, h10]
      go_wp2
      exact ⟨_, rfl, rfl, Below.refl _ _⟩
    · simp only [laidF, List.foldl, Act.put, List.setIfInBounds_toArray, List.set]
      go_wp2
      exact ⟨_, rfl, rfl, Below.refl _ _⟩
    · have h12 : vals 12 = _ := hd ⟨12, .data⟩ (by simp) rfl
      simp only [laidF, List.foldl, Act.put, List.setIfInBounds_toArray, List.set, h12]
      go_wp2
      exact ⟨_, rfl, ⟨_, rfl, Blk.new⟩, by go_grown⟩
    · have h11 : vals 11 = _ := hd ⟨11, .data⟩ (by simp) rfl
      obtain ⟨q, h13, hq⟩ : ∃ q, vals 13 = .slice (some ⟨q, 0, none⟩) 1 1 ∧ Blk v5 q #[.int .i64 5, .int .i64 1, .int .i64 (-1), .int .i64 0, .int .i64 0, .int .i64 0] 23 := hd ⟨13, .data⟩ (by simp) rfl
      simp only [laidF, List.foldl, Act.put, List.setIfInBounds_toArray, List.set, h11, h13]
      have hB25 := hB2.trans (hB5.mono hB2.size)
      go_wp2_with (at_builtin; refine wpList_app (R := InsE) (A := fun _ => False) (B := fun _ => True) (xs := []) (ys := [ldr1]) (by rfl) (.tmp 64) (.tmp 66) 36 23 i0 (.agg #[.int .i64 0, .int .i64 0, .int .i64 0, .int .i64 0, .int .i64 0, .int .i64 0]) 48 (by rfl) Tryd.underlying36 L1.out L2.out L3.out L4.out rfl w.heap.size (.slice none 0 0) (.slice (some ⟨q, 0, none⟩) 1 1) (by rfl) (by rfl) Own.nil (ins_one1 ldr1 trivial ⟨hq.cell 0, hq.cell 1, hq.cell 2, hq.cell 3, hq.cell 4, hq.cell 5⟩) (fun _ _ _ h => h) (by decide) (by decide) (by have := hB25.size; omega) ?_; intro p6 c6 w6 hO6 hg6 _)
      exact ⟨_, rfl, ⟨p6, c6, rfl, SlA.mono (fun b h => by rcases h with h | h; exact h; exact h.elim) hO6.sl⟩, (Below.refl _ _).grown hg6 (Nat.le_refl _) (fun q hq => by cases hq)⟩
    · have h3 : vals 3 = _ := hd ⟨3, .data⟩ (by simp) rfl
      have h4 : vals 4 = _ := hd ⟨4, .data⟩ (by simp) rfl
      simp only [laidF, List.foldl, Act.put, List.setIfInBounds_toArray, List.set, h3, h4]
      go_wp2
      exact ⟨_, rfl, rfl, Below.refl _ _⟩
  · intro vals v5 hB5 hall
    have hT5 := hT2.keep hB5
    have hg5 := hg2.keep hB5
    have hc5 : v5.cell? ⟨g, 0, none⟩ = some (.slice none 0 0) := (hg5.cell 0).trans hcur
    have hf5 : ∀ j, v5.frozen? ⟨g, j, none⟩ = false := fun j => hg5.frozen j
    obtain ⟨p6, c6, h14, hS⟩ : ∃ p c, vals 14 = .slice p 1 c ∧ SlA (fun b => w.heap.size ≤ b) InsE v5 (.slice p 1 c) [ldr1] := hall 14 (by show 14 < 17; decide) rfl
    have h15 : vals 15 = _ := hall 15 (by show 15 < 17; decide) rfl
    clear hall
    simp only [laidF, List.foldl, Act.put, List.setIfInBounds_toArray, List.set, h14, h15, List.map, opAt]
    have hB25 := hB2.trans (hB5.mono hB2.size)
    go_wp2
    go_ret
    refine ⟨rfl, p6, c6, hS.agree (grownBy_agree (grownBy_set _ _ _) (fun b hb e => by simp at e; omega)), ?_, hT5.grown (grownBy_set _ _ _) (by simpa using hne), Only.set hB25 hgw⟩
    have h1 := (hg5.set (i := 0) (.slice p6 1 c6)).cell 0
    rw [h1]
    have : 0 < cur.size := by
      rcases Nat.eq_zero_or_pos cur.size with h | h
      · simp [Array.getElem?_eq_none (Nat.le_of_eq h)] at hcur
      · exact h
    simp [Array.getElem?_setIfInBounds_self_of_lt this]
end Go.Proofs.YtjmcplbhjihepaaDoor
