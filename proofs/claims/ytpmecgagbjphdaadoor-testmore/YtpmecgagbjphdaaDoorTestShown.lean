/- The contract of shown, at the head of the statements of layer 2: it answers true. -/
import Derived.Test.YtpmecgagbjphdaaDoorTestBare
namespace Go.Proofs.YtpmecgagbjphdaaDoor
open Go.RowKit

def shownTs : List (List Ins) := [[⟨6, 0, -1, 0, 0, 0⟩, dmb, ⟨5, 0, -1, 0, 0, 0⟩]]

theorem ins_three {A : Nat → Prop} {w : World} {b c : Nat} (x y z : Ins) (hA : A b) (h : InsAt w b 0 x) (h' : InsAt w b 6 y) (h'' : InsAt w b 12 z) (hc : 3 ≤ c := by decide) : SlA A InsE w (.slice (some ⟨b, 0, none⟩) 3 c) [x, y, z] := by
  refine ⟨_, c, rfl, ⟨(fun e => by cases e), hc⟩, fun _ => ⟨b, 0, rfl, hA, fun i hi => ?_⟩⟩
  have hi' : i = 0 ∨ i = 1 ∨ i = 2 := by simp at hi; omega
  have gen : ∀ (q : Ins) (o : Nat), InsAt w b o q → ∀ j u, q.cells[j]? = some u → w.cell? ⟨b, o + j, none⟩ = some u := by
    rintro q o ⟨h0, h1, h2, h3, h4, h5⟩ j u hu
    match j, hu with
    | 0, hu => simp [Ins.cells] at hu; subst hu; simpa using h0
    | 1, hu => simp [Ins.cells] at hu; subst hu; simpa using h1
    | 2, hu => simp [Ins.cells] at hu; subst hu; simpa using h2
    | 3, hu => simp [Ins.cells] at hu; subst hu; simpa using h3
    | 4, hu => simp [Ins.cells] at hu; subst hu; simpa using h4
    | 5, hu => simp [Ins.cells] at hu; subst hu; simpa using h5
    | j + 6, hu => simp [Ins.cells] at hu
  rcases hi' with rfl | rfl | rfl
  · exact ⟨x.cells, rfl, fun j u hu => by simpa [InsE] using gen x 0 h j u hu⟩
  · exact ⟨y.cells, rfl, fun j u hu => by simpa [InsE] using gen y 6 h' j u hu⟩
  · exact ⟨z.cells, rfl, fun j u hu => by simpa [InsE] using gen z 12 h'' j u hu⟩
theorem int_one {A : Nat → Prop} {w : World} {b c : Nat} (x : Int) (hA : A b) (h : w.cell? ⟨b, 0, none⟩ = some (.int .i64 x)) (hc : 1 ≤ c := by decide) : SlA A IntE w (.slice (some ⟨b, 0, none⟩) 1 c) [x] := by
  refine ⟨_, c, rfl, ⟨(fun e => by cases e), hc⟩, fun _ => ⟨b, 0, rfl, hA, fun i hi => ⟨[.int .i64 x], ?_, fun j u hu => ?_⟩⟩⟩
  · have : i = 0 := by simp at hi; omega
    subst this; rfl
  · have : i = 0 := by simp at hi; omega
    subst this
    match j, hu with
    | 0, hu => simp at hu; subst hu; simpa using h
    | j + 1, hu => simp at hu

set_option maxRecDepth 20000 in
set_option maxHeartbeats 2000000 in
theorem shown2_any (w : World) (T : Tab w) :
    Calls Tryd.prog 9 #[] w fun e w' => e = .returned (.bool true) ∧ Below w.heap.size w w' := by
  have ec : Hid (checkZ [0] shownTs = (0, 0, 0)) := by unfold Hid; decide
  have eb : Hid (bareT [0] shownTs = [[⟨6, 0, -1, 0, 0, 0⟩, ⟨5, 0, -1, 0, 0, 0⟩]]) := by unfold Hid; rfl
  have es : Hid (sizeTs shownTs ≤ 1000000) := by unfold Hid; decide
  go_enter Tryd.func9, Tryd.ntmps9
  go_wp2_with fail
  generalize hW : (((w.alloc (Obj.cells #[Value.int IntKind.i64 0] 2)).alloc (Obj.cells #[Value.int IntKind.i64 6, Value.int IntKind.i64 0, Value.int IntKind.i64 (-1), Value.int IntKind.i64 0, Value.int IntKind.i64 0, Value.int IntKind.i64 0, Value.int IntKind.i64 11, Value.int IntKind.i64 0, Value.int IntKind.i64 0, Value.int IntKind.i64 0, Value.int IntKind.i64 0, Value.int IntKind.i64 0, Value.int IntKind.i64 5, Value.int IntKind.i64 0, Value.int IntKind.i64 (-1), Value.int IntKind.i64 0, Value.int IntKind.i64 0, Value.int IntKind.i64 0] 40)).alloc (Obj.cells #[Value.slice (some ⟨w.heap.size + 1, 0, none⟩) 3 3] 37)).alloc (Obj.cells #[Value.slice (some ⟨w.heap.size, 0, none⟩) 1 1, Value.slice (some ⟨w.heap.size + 1 + 1, 0, none⟩) 1 1] 25) = W
  have hB : Below w.heap.size w W := by rw [← hW]; go_grown
  have hK0 : Blk W w.heap.size #[.int .i64 0] 2 := by rw [← hW]; exact (((Blk.newAt rfl).alloc _).alloc _).alloc _
  have hK1 : Blk W (w.heap.size + 1) #[.int .i64 6, .int .i64 0, .int .i64 (-1), .int .i64 0, .int .i64 0, .int .i64 0, .int .i64 11, .int .i64 0, .int .i64 0, .int .i64 0, .int .i64 0, .int .i64 0, .int .i64 5, .int .i64 0, .int .i64 (-1), .int .i64 0, .int .i64 0, .int .i64 0] 40 := by rw [← hW]; exact ((Blk.newAt (by simp)).alloc _).alloc _
  have hK2 : Blk W (w.heap.size + 1 + 1) #[.slice (some ⟨w.heap.size + 1, 0, none⟩) 3 3] 37 := by rw [← hW]; exact (Blk.newAt (by simp)).alloc _
  have hi : Sl IntE W (.slice (some ⟨w.heap.size, 0, none⟩) 1 1) [0] := int_one 0 trivial (hK0.cell 0)
  have ht : Sl ThrE W (.slice (some ⟨w.heap.size + 1 + 1, 0, none⟩) 1 1) shownTs := sl_one trivial (hK2.cell 0) (ins_three _ _ _ trivial ⟨hK1.cell 0, hK1.cell 1, hK1.cell 2, hK1.cell 3, hK1.cell 4, hK1.cell 5⟩ ⟨hK1.cell 6, hK1.cell 7, hK1.cell 8, hK1.cell 9, hK1.cell 10, hK1.cell 11⟩ ⟨hK1.cell 12, hK1.cell 13, hK1.cell 14, hK1.cell 15, hK1.cell 16, hK1.cell 17⟩) (Nat.le_refl _)
  have hK : Blk W (w.heap.size + 1 + 1 + 1) #[.slice (some ⟨w.heap.size, 0, none⟩) 1 1, .slice (some ⟨w.heap.size + 1 + 1, 0, none⟩) 1 1] 25 := by rw [← hW]; exact Blk.newAt (by simp)
  clear hW hK0 hK1 hK2
  have C := Bare_any _ _ _ _ [0] shownTs W (T.below hB) hi ht (by decide) (by decide) es.out
  rw [eb.out] at C
  refine C.mono ?_
  clear C
  rintro e w2 ⟨qi, di, qt, dt, rfl, s1, s2, hb2⟩
  have hB2 := hB.trans (hb2.mono hB.size)
  obtain ⟨k0, k1⟩ : w2.cell? ⟨w.heap.size + 1 + 1 + 1, 0, none⟩ = some (.slice (some ⟨w.heap.size, 0, none⟩) 1 1) ∧ w2.cell? ⟨w.heap.size + 1 + 1 + 1, 1, none⟩ = some (.slice (some ⟨w.heap.size + 1 + 1, 0, none⟩) 1 1) := ⟨(hK.keep hb2).cell 0, (hK.keep hb2).cell 1⟩
  have hz2 : w.heap.size + 1 + 1 + 1 < w2.heap.size := (hK.keep hb2).lt
  simp only [List.length_cons, List.length_nil, Nat.zero_add] at s1 s2
  obtain ⟨b1, o1, rfl, v, hv, hV⟩ := (thr_at s2).2 0 (by decide)
  obtain ⟨pv, cv, rfl⟩ := hV.len
  have hzb : b1 < w2.heap.size := cell_lt hv
  simp at hv
  go_wp2_with fail
  have hB3 := hB2.alloc hB2.size (.cells #[.slice qi 1 di, .slice (some ⟨b1, o1, none⟩) 1 dt] 25)
  have hb23 : Below w2.heap.size w2 (w2.alloc (.cells #[.slice qi 1 di, .slice (some ⟨b1, o1, none⟩) 1 dt] 25)) := (Below.refl _ _).alloc (Nat.le_refl _) _
  have C := Check_any _ _ _ _ [0] shownTs _ (T.below hB3) ((hi.keep hb2).keep hb23) ((ht.keep hb2).keep hb23) es.out
  rw [ec.out] at C
  refine C.mono ?_
  clear C
  rintro e w4 ⟨rfl, hb4⟩
  obtain ⟨hc4, hf4⟩ := bcell hb4
  go_wp2
  go_ret
  exact ⟨rfl, hB3.trans (hb4.mono hB3.size)⟩
end Go.Proofs.YtpmecgagbjphdaaDoor
