/- The contract of text.Parse at the document's small test, and of shown. -/
import Derived.Test.YtjmcplbhjihepaaDoorTextAdd2
import Derived.Test.YtjmcplbhjihepaaDoorTestCheck
namespace Go.Proofs.YtjmcplbhjihepaaDoor
open Go.RowKit

def rest1 : List UInt8 := line1 ++ 10 :: (line2 ++ [10])
def rest2 : List UInt8 := line2 ++ [10]
def text0 : List UInt8 := line0 ++ 10 :: rest1
def nil2 : Array Value := #[.slice none 0 0, .slice none 0 0]
/-- How far the test is built. -/
def Pst (T : Nat) (wr : World) (q : Value) (k : Int) : Prop :=
  (k = 0 ∧ q = .string ⟨text0.toArray⟩ ∧ Blk wr T nil2 32) ∨
  (k = 1 ∧ q = .string ⟨rest1.toArray⟩ ∧ ∃ p c, Blk wr T #[.slice p 1 c, .slice none 0 0] 32 ∧ SlA (fun b => T < b) IntE wr (.slice p 1 c) [0]) ∨
  (k = 2 ∧ q = .string ⟨rest2.toArray⟩ ∧ ∃ p c g cap cur, Blk wr T #[.slice p 1 c, .slice (some ⟨g, 0, none⟩) 1 cap] 32 ∧ SlA (fun b => T < b ∧ b ≠ g) IntE wr (.slice p 1 c) [0] ∧ Blk wr g cur 36 ∧ cur[0]? = some (.slice none 0 0) ∧ T < g ∧ 1 ≤ cap) ∨
  (k = 3 ∧ q = .string ⟨#[]⟩ ∧ ∃ p c g cap pv cv, Blk wr T #[.slice p 1 c, .slice (some ⟨g, 0, none⟩) 1 cap] 32 ∧ Sl IntE wr (.slice p 1 c) [0] ∧ wr.cell? ⟨g, 0, none⟩ = some (.slice pv 1 cv) ∧ Sl ThrE wr (.slice (some ⟨g, 0, none⟩) 1 cap) [[ldr1]] ∧ T < g)

set_option maxRecDepth 100000 in
set_option maxHeartbeats 4000000 in
theorem Parse_0 (w : World) (E : Env w) :
    Calls Tryd.prog 9 #[.string ⟨text0.toArray⟩] w fun e w' => ∃ p c g cap pv cv, e = .returned (.tuple #[.agg #[.slice p 1 c, .slice (some ⟨g, 0, none⟩) 1 cap], .int .i64 0, .int .i64 0]) ∧ w'.cell? ⟨g, 0, none⟩ = some (.slice pv 1 cv) ∧ Below w.heap.size w w' := by
  have K0 : Hid (cutB 10 text0 = (line0, rest1, true)) := by unfold Hid; decide
  have K1 : Hid (cutB 10 rest1 = (line1, rest2, true)) := by unfold Hid; decide
  have K2 : Hid (cutB 10 rest2 = (line2, [], true)) := by unfold Hid; decide
  have KC : Hid (checkZ [0] [[ldr1]] = (0, 0, 0)) := by unfold Hid; decide
  have n0 : (text0 == []) = false := by decide
  have n1 : (rest1 == []) = false := by decide
  have n2 : (rest2 == []) = false := by decide
  have m0 : text0.isEmpty = false := by decide
  have m1 : rest1.isEmpty = false := by decide
  have m2 : rest2.isEmpty = false := by decide
  go_enter Tryd.func9, Tryd.ntmps9
  go_wp2
  generalize hW : (w.alloc (Obj.cells #[Value.slice none 0 0, Value.slice none 0 0] 32)).alloc (Obj.cells #[Value.slice none 0 0, Value.slice none 0 0] 32) = W
  have hR : Blk W w.heap.size nil2 32 := by rw [← hW]; exact Blk.new.alloc _
  have hT : Blk W (w.heap.size + 1) nil2 32 := by rw [← hW]; exact Blk.newAt (by simp)
  have hB : Below w.heap.size w W := by rw [← hW]; go_grown
  clear hW
  have hg : gTop < w.heap.size := E.lt
  generalize hRR : w.heap.size = R at hR hT hg ⊢
  have HR : Hid _ := hRR
  go_loopw [0, 6] (fun q n wr => ∃ k : Int, n = .int .i64 k ∧ Blk wr R nil2 32 ∧ Pst (R + 1) wr q k ∧ Below w.heap.size w wr) (fun q _ _ => match q with | .string s => s.size | _ => 0)
  case atStart => exact ⟨0, rfl, hR, .inl ⟨rfl, rfl, hT⟩, hB⟩
  case round =>
    obtain ⟨k, rfl, hRr, hP, hBr⟩ := hrel
    have Er := E.below hBr
    rcases hP with ⟨rfl, rfl, hTr⟩ | ⟨rfl, rfl, p, c, hTr, hS⟩ | ⟨rfl, rfl, p, c, g, cap, cur, hTr, hS, hG, hcur, hTg, hcap⟩ | ⟨rfl, rfl, p, c, g, cap, pv, cv, hTr, hS, hcv, hth, hTg⟩
    · go_wp2_with fail
      have C := Cut_any text0 10 wr (by decide)
      rw [K0.out] at C
      refine C.mono ?_
      clear C
      rintro e w1 ⟨rfl, hb1⟩
      go_wp2_with fail
      refine (addLine_0 (R + 1) (.slice none 0 0) (.slice none 0 0) w1 (Er.below hb1) (hTr.keep hb1)).mono ?_
      rintro e w2 ⟨rfl, p, c, hS2, hT2, hO⟩
      have hB1 := hBr.trans (hb1.mono hBr.size)
      have hB2 := hB1.trans (hO.below.mono (by rw [HR.out]; omega))
      have hlt := (hTr.keep hb1).lt
      go_wp2
      go_roundw
      case rel => exact ⟨1, rfl, hO.blk (by omega) (hRr.keep hb1), .inr (.inl ⟨rfl, rfl, p, c, hT2, SlA.mono (fun b hb => by omega) hS2⟩), hB2⟩
      case measure => decide
    · go_wp2_with fail
      have C := Cut_any rest1 10 wr (by decide)
      rw [K1.out] at C
      refine C.mono ?_
      clear C
      rintro e w1 ⟨rfl, hb1⟩
      go_wp2_with fail
      refine (addLine_1 (R + 1) (.slice p 1 c) w1 (hTr.keep hb1)).mono ?_
      rintro e w2 ⟨rfl, g, cap, cur, hT2, hgl, hG, hcur, hcap, hO⟩
      have hB1 := hBr.trans (hb1.mono hBr.size)
      have hB2 := hB1.trans (hO.below.mono (by rw [HR.out]; omega))
      have hlt := (hTr.keep hb1).lt
      have hS2 : SlA (fun b => R + 1 < b ∧ b ≠ g) IntE w2 (.slice p 1 c) [0] := SlA.mono (fun b hb => ⟨hb.1, by omega⟩) ((SlA.lt (hS.keep hb1)).agree (Agree.mono hO.others (fun b hb => by omega)))
      go_wp2
      go_roundw
      case rel => exact ⟨2, rfl, hO.blk (by omega) (hRr.keep hb1), .inr (.inr (.inl ⟨rfl, rfl, p, c, g, cap, cur, hT2, hS2, hG, hcur, by omega, hcap⟩)), hB2⟩
      case measure => decide
    · go_wp2_with fail
      have C := Cut_any rest2 10 wr (by decide)
      rw [K2.out] at C
      refine C.mono ?_
      clear C
      rintro e w1 ⟨rfl, hb1⟩
      go_wp2_with fail
      refine (addLine_2 (R + 1) g cap cur (.slice p 1 c) w1 (Er.below hb1) (hTr.keep hb1) (hG.keep hb1) hcur (by omega)).mono ?_
      rintro e w2 ⟨rfl, pv, cv, hSv, hcv, hT2, hO⟩
      have hB1 := hBr.trans (hb1.mono hBr.size)
      have hB2 := hB1.trans (hO.below.mono (by rw [HR.out]; omega))
      have hS2 : Sl IntE w2 (.slice p 1 c) [0] := SlA.any ((hS.keep hb1).agree (Agree.mono hO.others (fun b hb => hb.2)))
      have hth : Sl ThrE w2 (.slice (some ⟨g, 0, none⟩) 1 cap) [[ldr1]] := sl_one trivial hcv (SlA.any hSv) hcap
      go_wp2
      go_roundw
      case rel => exact ⟨3, rfl, hO.blk (by omega) (hRr.keep hb1), .inr (.inr (.inr ⟨rfl, rfl, p, c, g, cap, pv, cv, hT2, hS2, hcv, hth, hTg⟩)), hB2⟩
      case measure => decide
    · have hcT : ∀ j, wr.cell? ⟨R + 1, j, none⟩ = #[Value.slice p 1 c, .slice (some ⟨g, 0, none⟩) 1 cap][j]? := fun j => hTr.cell j
      go_wp2_with fail
      have C := Check_any p (some ⟨g, 0, none⟩) c cap [0] [[ldr1]] wr Er.tab hS hth (by decide)
      rw [KC.out] at C
      refine C.mono ?_
      clear C
      rintro e w1 ⟨rfl, hb1⟩
      have hT1 := hTr.keep hb1
      have hR1 := hRr.keep hb1
      have hB1 := hBr.trans (hb1.mono hBr.size)
      have hc1 := cell_keep hcv hb1
      have hcT1 : ∀ j, w1.cell? ⟨R + 1, j, none⟩ = #[Value.slice p 1 c, .slice (some ⟨g, 0, none⟩) 1 cap][j]? := fun j => hT1.cell j
      have hcR1 : ∀ j, w1.cell? ⟨R, j, none⟩ = nil2[j]? := fun j => hR1.cell j
      have hfR1 : ∀ j, w1.frozen? ⟨R, j, none⟩ = false := fun j => hR1.frozen j
      unfold nil2 at hcR1
      clear hcT
      go_wp2
      have hRs := (hR1.set (i := 0) (.slice p 1 c)).set (i := 1) (.slice (some ⟨g, 0, none⟩) 1 cap)
      have e0 := hRs.cell 0
      have e1 := hRs.cell 1
      have hcg : ((w1.setCell ⟨R, 0, none⟩ (.slice p 1 c)).setCell ⟨R, 1, none⟩ (.slice (some ⟨g, 0, none⟩) 1 cap)).cell? ⟨g, 0, none⟩ = some (.slice pv 1 cv) :=
        cell_agree (A := fun b => b ≠ R) (cell_agree (A := fun b => b ≠ R) hc1 (by omega) (grownBy_agree (grownBy_set _ _ _) (fun b hb e => by simp at e; exact hb e))) (by omega) (grownBy_agree (grownBy_set _ _ _) (fun b hb e => by simp at e; exact hb e))
      have hBf : Below w.heap.size w ((w1.setCell ⟨R, 0, none⟩ (.slice p 1 c)).setCell ⟨R, 1, none⟩ (.slice (some ⟨g, 0, none⟩) 1 cap)) := (hB1.setCell (p := ⟨R, 0, none⟩) (Nat.le_of_eq HR.out) _).setCell (p := ⟨R, 1, none⟩) (Nat.le_of_eq HR.out) _
      simp [nil2] at e0 e1
      generalize (w1.setCell ⟨R, 0, none⟩ (.slice p 1 c)).setCell ⟨R, 1, none⟩ (.slice (some ⟨g, 0, none⟩) 1 cap) = wf at *
      exact bodyPost_ret (v := .tuple #[.agg #[.slice p 1 c, .slice (some ⟨g, 0, none⟩) 1 cap], .int .i64 0, .int .i64 0]) (by simp [results, Tryd.results9, go_sem, e0, e1]) rfl ⟨p, c, g, cap, pv, cv, rfl, hcg, hBf⟩

set_option maxRecDepth 100000 in
set_option maxHeartbeats 4000000 in
theorem shown3_any (w : World) (E : Env w) :
    Calls Tryd.prog 4 #[] w fun e w' => e = .returned (.bool true) ∧ Below w.heap.size w w' := by
  have ht : text0.toArray = #[105, 110, 105, 116, 32, 48, 10, 116, 104, 114, 101, 97, 100, 10, 108, 100, 114, 32, 49, 32, 45, 49, 32, 48, 10] := by decide
  have C := Parse_0 w E
  rw [ht] at C
  go_enter Tryd.func4, Tryd.ntmps4
  go_wp2_with fail
  refine C.mono ?_
  clear C
  rintro e w1 ⟨p, c, g, cap, pv, cv, rfl, hc, hb⟩
  have hz := cell_lt hc
  go_wp2_with fail
  have hB2 := hb.alloc hb.size (.cells #[.slice p 1 c, .slice (some ⟨g, 0, none⟩) 1 cap] 32)
  have C := Line_any 5 1 (-1) 0 0 0 (fun k => by unfold pick5; split <;> exact ⟨by decide, by decide⟩) _ (E.below hB2)
  rw [line2_is] at C
  refine C.mono ?_
  clear C
  rintro e w3 ⟨rfl, hb3⟩
  have hT3 : Blk w3 w1.heap.size #[.slice p 1 c, .slice (some ⟨g, 0, none⟩) 1 cap] 32 := Blk.keep Blk.new hb3
  have hc3 : w3.cell? ⟨g, 0, none⟩ = some (.slice pv 1 cv) := cell_keep (cell_keep hc ((Below.refl _ _).alloc (Nat.le_refl _) _)) hb3
  have hB3 := hB2.trans (hb3.mono hB2.size)
  have hl2 : (line2 == [108, 100, 114, 32, 49, 32, 45, 49, 32, 48]) = true := by decide
  generalize w1.heap.size = Y at *
  have hcT : ∀ j, w3.cell? ⟨Y, j, none⟩ = #[Value.slice p 1 c, .slice (some ⟨g, 0, none⟩) 1 cap][j]? := fun j => hT3.cell j
  go_wp2
  go_ret
  exact ⟨rfl, hB3⟩
end Go.Proofs.YtjmcplbhjihepaaDoor
