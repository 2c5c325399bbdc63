/- The contract of text.Read at a line that begins with a name. -/
import Derived.Test.YtjmcplbhjihepaaDoorTextRead
namespace Go.Proofs.YtjmcplbhjihepaaDoor
open Go.RowKit

attribute [local go_sem] ptr0_at ptr1_at ptr2_at ptr3_at ptr4_at

/-- The first k fields, and nothing else. -/
def upZ (v : Nat → Int) (k j : Nat) : Int := bif decide (j < k) then v j else 0
def upA (v : Nat → Int) (k : Nat) : Array Value := #[.int .i64 (upZ v k 0), .int .i64 (upZ v k 1), .int .i64 (upZ v k 2), .int .i64 (upZ v k 3), .int .i64 (upZ v k 4)]
theorem upA_set (v : Nat → Int) (k : Nat) (hk : k < 5) : (upA v k).setIfInBounds k (.int .i64 (v k)) = upA v (k + 1) := by
  have hk' : k = 0 ∨ k = 1 ∨ k = 2 ∨ k = 3 ∨ k = 4 := by omega
  rcases hk' with rfl | rfl | rfl | rfl | rfl <;> rfl
theorem upA_same (v : Nat → Int) (k : Nat) (hk : k < 5) (h : v k = 0) : upA v k = upA v (k + 1) := by
  have e : upZ v (k + 1) k = upZ v k k := by unfold upZ; simp [h]
  have hk' : k = 0 ∨ k = 1 ∨ k = 2 ∨ k = 3 ∨ k = 4 := by omega
  rcases hk' with rfl | rfl | rfl | rfl | rfl <;> (unfold upA; simp only [e]; rfl)

set_option maxRecDepth 100000 in
set_option maxHeartbeats 4000000 in
theorem Read_some (s : List UInt8) (hs : s.length ≤ 1000000) (op : Int) (hop : 1 ≤ op ∧ op ≤ 14) (hn : nameS op = ⟨(cutB 32 s).1.toArray⟩) (v : Nat → Int) (hv : ∀ k, valAt op (cutB 32 s).2.1 k = v k) (ok : Bool)
    (hok : decide (lineL op (v 0) (v 1) (v 2) (v 3) (v 4) = s) = ok) (w : World) (E : Env w) :
    Calls Tryd.prog 5 #[.string ⟨s.toArray⟩] w fun e w' => e = .returned (bif ok then readV op (v 0) (v 1) (v 2) (v 3) (v 4) true else readV 0 0 0 0 0 0 false) ∧ Below w.heap.size w w' := by
  have hcl := (cutB_len 32 s).2
  obtain ⟨q, hq⟩ : ∃ q, cutB 32 s = q := ⟨_, rfl⟩
  rw [hq] at hn hv hcl
  have HQ : Hid _ := hq
  have HN : Hid _ := hn
  have HV : Hid _ := hv
  have HO : Hid _ := hok
  have hin : ∀ k, in64 (v k) := fun k => by rw [← HV.out k]; exact valAt_in _ _ _
  have HRL : Hid (∀ k, (restAt op q.2.1 k).length ≤ 1000000) := fun k => Nat.le_trans (restAt_len op q.2.1 k) (by omega)
  clear hq hn hv hok
  go_enter Tryd.func5, Tryd.ntmps5
  go_wp2_with fail
  refine (Cut_any s 32 _ hs).mono ?_
  rintro e w1 ⟨rfl, hb1⟩
  rw [HQ.out]
  have hR : Blk w1 w.heap.size #[.int .i64 0, .int .i64 0, .int .i64 0, .int .i64 0, .int .i64 0, .int .i64 0] 23 := Blk.keep Blk.new hb1
  have hB1 : Below w.heap.size w w1 := ((Below.refl _ _).alloc (Nat.le_refl _) _).trans (hb1.mono (by simp))
  clear hb1
  go_wp2_with fail
  have C := opNamed_hit op hop w1 (E.below hB1)
  rw [HN.out] at C
  refine C.mono ?_
  clear C
  rintro e w2 ⟨rfl, hb2⟩
  have hB2 := hB1.trans (hb2.mono hB1.size)
  have hR2 := hR.keep hb2
  clear hR hB1 hb2
  generalize hXX : w.heap.size = X at hR2 ⊢
  have HX : Hid _ := hXX
  clear hXX
  go_wp2_with fail
  refine (pointers_any _ _).mono ?_
  rintro e w3 ⟨rfl, hb3⟩
  have hF3 : Blk w3 w2.heap.size (upA v 0) 42 := Blk.keep Blk.new hb3
  have hB3 : Below w.heap.size w w3 := (hB2.alloc hB2.size _).trans (hb3.mono (by have := hB2.size; simp; omega))
  have hR3 := (hR2.alloc (Obj.cells #[Value.int IntKind.i64 0, Value.int IntKind.i64 0, Value.int IntKind.i64 0, Value.int IntKind.i64 0, Value.int IntKind.i64 0] 42)).keep hb3
  have hXF : X < w2.heap.size := hR2.lt
  clear hb3 hR2
  generalize w2.heap.size = F at hF3 hXF ⊢
  obtain ⟨w0, rfl⟩ : ∃ x : World, x = w3 := ⟨_, rfl⟩
  go_wp2
  go_loopw [28, 5] (fun i z wr => ∃ k : Nat, k ≤ 5 ∧ i = .int .i64 k ∧ z = .string ⟨(restAt op q.2.1 k).toArray⟩ ∧ Blk wr F (upA v k) 42 ∧ Blk wr X #[.int .i64 0, .int .i64 0, .int .i64 0, .int .i64 0, .int .i64 0, .int .i64 0] 23 ∧ Below w.heap.size w wr) (fun i _ _ => 5 - (intOf i).toNat)
  case atStart => exact ⟨0, by omega, rfl, rfl, hF3, hR3, hB3⟩
  case round =>
    obtain ⟨k, hk, rfl, rfl, hFr, hXr, hBr⟩ := hrel
    have Er : Env wr := E.below hBr
    have hrl := HRL.out k
    by_cases hk5 : k < 5
    · have C := hasT_any op k hk5 hop wr Er
      obtain ⟨m, hm, hm5⟩ : ∃ m, m = k + 1 ∧ m ≤ 5 := ⟨_, rfl, by omega⟩
      have HM : Hid _ := hm
      clear hm
      have HVk := HV.out k
      unfold valAt at HVk
      have HR1 : Hid (restAt op q.2.1 m = bif hasF op k then (cutB 32 (restAt op q.2.1 k)).2.1 else restAt op q.2.1 k) := by unfold Hid; rw [HM.out]; rfl
      cases hh : hasF op k
      · rw [hh] at C HVk HR1
        have HU : Hid (upA v k = upA v m) := by unfold Hid; rw [HM.out]; exact upA_same v k hk5 HVk.symm
        clear hh HVk
        generalize restAt op q.2.1 k = rs at *
        have hk' : k = 0 ∨ k = 1 ∨ k = 2 ∨ k = 3 ∨ k = 4 := by omega
        rcases hk' with rfl | rfl | rfl | rfl | rfl
        all_goals
          go_wp2_with fail
          refine C.mono ?_
          clear C
          rintro e w5 ⟨rfl, hb5⟩
          go_wp2
          go_roundw
          case rel => exact ⟨m, hm5, by rw [HM.out]; go_num, by rw [HR1.out]; rfl, by rw [← HU.out]; exact hFr.keep hb5, hXr.keep hb5, hBr.trans (hb5.mono hBr.size)⟩
          case measure => simp [intOf]
      · rw [hh] at C HVk HR1
        have HU : Hid ((upA v k).setIfInBounds k (.int .i64 (v k)) = upA v m) := by unfold Hid; rw [HM.out]; exact upA_set v k hk5
        rw [cond_true] at HVk HR1
        have HVV : Hid _ := HVk
        clear hh HVk
        generalize restAt op q.2.1 k = rs at *
        have hk' : k = 0 ∨ k = 1 ∨ k = 2 ∨ k = 3 ∨ k = 4 := by omega
        rcases hk' with rfl | rfl | rfl | rfl | rfl
        all_goals
          go_wp2_with fail
          refine C.mono ?_
          clear C
          rintro e w5 ⟨rfl, hb5⟩
          have hB5 := hBr.trans (hb5.mono hBr.size)
          go_wp2_with fail
          refine (number_any rs w5 (E.below hB5) hrl).mono ?_
          rintro e w6 ⟨rfl, hb6⟩
          rw [HVV.out]
          have hB6 := hB5.trans (hb6.mono hB5.size)
          have hF6 := (hFr.keep hb5).keep hb6
          have hX6 := (hXr.keep hb5).keep hb6
          have hcF : ∀ j, w6.cell? ⟨F, j, none⟩ = (upA v _)[j]? := fun j => hF6.cell j
          have hfF : ∀ j, w6.frozen? ⟨F, j, none⟩ = false := fun j => hF6.frozen j
          go_wp2
          go_roundw
          case rel => exact ⟨m, hm5, by rw [HM.out]; go_num, by rw [HR1.out], by rw [← HU.out]; exact hF6.set _, hX6.grown (grownBy_set _ _ _) (by simp; omega), hB6.setCell (p := ⟨F, _, none⟩) (by rw [HX.out]; show X ≤ F; omega) _⟩
          case measure => simp [intOf]
    · obtain rfl : k = 5 := by omega
      clear hrl HRL
      have hcF : ∀ j, wr.cell? ⟨F, j, none⟩ = #[Value.int .i64 (v 0), .int .i64 (v 1), .int .i64 (v 2), .int .i64 (v 3), .int .i64 (v 4)][j]? := fun j => hFr.cell j
      go_wp2_with fail
      refine (instruction_any _ _ _ _ _ _ _).mono ?_
      rintro e w7 ⟨rfl, hb7⟩
      have hB7 := hBr.trans (hb7.mono hBr.size)
      have hX7 := hXr.keep hb7
      go_wp2_with fail
      have hB8 := hB7.alloc hB7.size (.cells #[.int .i64 op, .int .i64 (v 0), .int .i64 (v 1), .int .i64 (v 2), .int .i64 (v 3), .int .i64 (v 4)] 23)
      refine (Line_any op (v 0) (v 1) (v 2) (v 3) (v 4) (fun j => by unfold pick5; split <;> exact hin _) _ (E.below hB8)).mono ?_
      rintro e w9 ⟨rfl, hb9⟩
      have hB9 := hB8.trans (hb9.mono hB8.size)
      have hX9 := (hX7.alloc (.cells #[.int .i64 op, .int .i64 (v 0), .int .i64 (v 1), .int .i64 (v 2), .int .i64 (v 3), .int .i64 (v 4)] 23)).keep hb9
      have hY9 : Blk w9 w7.heap.size #[.int .i64 op, .int .i64 (v 0), .int .i64 (v 1), .int .i64 (v 2), .int .i64 (v 3), .int .i64 (v 4)] 23 := Blk.keep Blk.new hb9
      have hne : X ≠ w7.heap.size := Nat.ne_of_lt hX7.lt
      have hz9 := hX9.lt
      have hy9 := hY9.lt
      have hcX : ∀ j, w9.cell? ⟨X, j, none⟩ = #[Value.int .i64 0, .int .i64 0, .int .i64 0, .int .i64 0, .int .i64 0, .int .i64 0][j]? := fun j => hX9.cell j
      have hfX : ∀ j, w9.frozen? ⟨X, j, none⟩ = false := fun j => hX9.frozen j
      generalize w7.heap.size = Y at *
      have hcY : ∀ j, w9.cell? ⟨Y, j, none⟩ = #[Value.int .i64 op, .int .i64 (v 0), .int .i64 (v 1), .int .i64 (v 2), .int .i64 (v 3), .int .i64 (v 4)][j]? := fun j => hY9.cell j
      obtain ⟨L, hL⟩ : ∃ L, lineL op (v 0) (v 1) (v 2) (v 3) (v 4) = L := ⟨_, rfl⟩
      rw [hL] at HO ⊢
      clear hL
      cases ok
      · have hd : (L == s) = false := by have := of_decide_eq_false HO.out; simpa using this
        go_wp2
        obtain ⟨W, hW, c0, c1, c2, c3, c4, c5, hBf⟩ := ret_ins (v0 := .int .i64 0) (v1 := .int .i64 0) (v2 := .int .i64 0) (v3 := .int .i64 0) (v4 := .int .i64 0) (v5 := .int .i64 0) hX9 rfl (Nat.le_of_eq HX.out) hB9
        rw [hW]
        exact bodyPost_ret (v := .tuple #[.agg #[.int .i64 0, .int .i64 0, .int .i64 0, .int .i64 0, .int .i64 0, .int .i64 0], .bool false]) (by simp [results, Tryd.results5, go_sem, c0, c1, c2, c3, c4, c5]) rfl ⟨rfl, hBf⟩
      · have hd : (L == s) = true := by have := of_decide_eq_true HO.out; simpa using this
        go_wp2
        obtain ⟨W, hW, c0, c1, c2, c3, c4, c5, hBf⟩ := ret_ins (v0 := .int .i64 op) (v1 := .int .i64 (v 0)) (v2 := .int .i64 (v 1)) (v3 := .int .i64 (v 2)) (v4 := .int .i64 (v 3)) (v5 := .int .i64 (v 4)) hX9 rfl (Nat.le_of_eq HX.out) hB9
        rw [hW]
        exact bodyPost_ret (v := .tuple #[.agg #[.int .i64 op, .int .i64 (v 0), .int .i64 (v 1), .int .i64 (v 2), .int .i64 (v 3), .int .i64 (v 4)], .bool true]) (by simp [results, Tryd.results5, go_sem, c0, c1, c2, c3, c4, c5]) rfl ⟨rfl, hBf⟩
end Go.Proofs.YtjmcplbhjihepaaDoor
