/- The contract of text.Line: it returns the line. -/
import Derived.Test.YtjmcplbhjihepaaDoorTextLine
namespace Go.Proofs.YtjmcplbhjihepaaDoor
open Go.RowKit

attribute [local go_sem] ptr0_at ptr1_at ptr2_at ptr3_at ptr4_at

theorem upTo_len {op : Int} {v : Nat → Int} (hop : 1 ≤ op ∧ op ≤ 14) (hv : ∀ k, in64 (v k)) (k : Nat) (hk : k ≤ 5) : (nameL op ++ body (pres op v k)).length ≤ 114 := by
  have h1 := (name_in hop).2.2
  have h2 := body_len (pres op v k) (fun n hn => by obtain ⟨j, _, rfl⟩ := pres_mem hn; exact hv j)
  have h3 := pres_len op v k
  rw [List.length_append]
  omega
theorem name_ne {op : Int} (hop : 1 ≤ op ∧ op ≤ 14) : nameS op ≠ ⟨#[]⟩ := fun h => (name_in hop).2.1 (by unfold nameL; rw [h])
theorem nameV (op : Int) : nameS op = ⟨(nameL op).toArray⟩ := by unfold nameL; simp

set_option maxRecDepth 100000 in
set_option maxHeartbeats 2000000 in
theorem Line_in (op d a b l i : Int) (hop : 1 ≤ op ∧ op ≤ 14) (hv : ∀ k, in64 (pick5 d a b l i k)) (w : World) (E : Env w) :
    Calls Tryd.prog 7 #[.agg #[.int .i64 op, .int .i64 d, .int .i64 a, .int .i64 b, .int .i64 l, .int .i64 i]] w fun e w' => e = .returned (.string ⟨(nameL op ++ body (pres op (pick5 d a b l i) 5)).toArray⟩) ∧ Below w.heap.size w w' := by
  have hn : (nameS op).toList.isEmpty = false := by rw [name_empty, decide_eq_true hop]; rfl
  have HL : Hid (∀ k, k ≤ 5 → (nameL op ++ body (pres op (pick5 d a b l i) k)).length ≤ 114) := fun k hk => upTo_len hop hv k hk
  go_enter Tryd.func7, Tryd.ntmps7
  go_wp2_with fail
  refine (Name_any _ _ (E.alloc _).tab).mono ?_
  rintro e w1 ⟨rfl, hb1⟩
  have hX : Blk w1 w.heap.size #[.int .i64 op, .int .i64 d, .int .i64 a, .int .i64 b, .int .i64 l, .int .i64 i] 23 := Blk.keep Blk.new hb1
  have hB1 : Below w.heap.size w w1 := ((Below.refl _ _).alloc (Nat.le_refl _) _).trans (hb1.mono (by simp))
  clear hb1
  have hz := hX.lt
  generalize hXX : w.heap.size = X at hX hz ⊢
  have HX : Hid _ := hXX
  clear hXX
  have hc : ∀ j, w1.cell? ⟨X, j, none⟩ = #[Value.int .i64 op, .int .i64 d, .int .i64 a, .int .i64 b, .int .i64 l, .int .i64 i][j]? := fun j => hX.cell j
  go_wp2_with fail
  refine (fieldsOf_any _ _ _ _ _ _ _).mono ?_
  rintro e w2 ⟨rfl, hb2⟩
  go_wp2_with fail
  generalize hW : (w2.alloc (Obj.cells #[Value.int IntKind.i64 d, Value.int IntKind.i64 a, Value.int IntKind.i64 b, Value.int IntKind.i64 l, Value.int IntKind.i64 i] 42)).alloc (Obj.cells #[Value.pointer none, Value.slice none 0 0] 60) = W
  generalize hFF : w2.heap.size = F
  have hF : Blk W F #[.int .i64 d, .int .i64 a, .int .i64 b, .int .i64 l, .int .i64 i] 42 := by rw [← hW]; exact (Blk.newAt hFF).alloc _
  have hBd : Bld W (F + 1) [] := by rw [← hW]; exact Bld.newAt (by simp [hFF])
  have hB2 := hB1.trans (hb2.mono hB1.size)
  have hBW : Below w.heap.size w W := by rw [← hW]; exact (hB2.alloc hB2.size _).alloc (by have := hB2.size; simp; omega) _
  have hXW : Blk W X #[.int .i64 op, .int .i64 d, .int .i64 a, .int .i64 b, .int .i64 l, .int .i64 i] 23 := by rw [← hW]; exact ((hX.keep hb2).alloc _).alloc _
  have hFX : X < F := by rw [← hFF]; exact (hX.keep hb2).lt
  have hFW : w.heap.size ≤ F := by rw [← hFF]; exact hB2.size
  clear hW hFF hB1 hB2 hb2 hX hz hc
  have C := WriteString_any (F + 1) [] (nameL op) W hBd (by have := (name_in hop).2.2; simp; omega)
  rw [← nameV, List.nil_append] at C
  refine C.mono ?_
  clear C
  rintro e w3 ⟨rfl, hBd3, hb3⟩
  go_wp2_with fail
  refine (pointers_any _ _).mono ?_
  rintro e w4 ⟨rfl, hb4⟩
  have hE : gTop < F := Nat.lt_of_lt_of_le E.lt hFW
  have hB4 : Below (F + 1) W w4 := hb3.trans (hb4.mono (Nat.le_of_lt hBd3.lt))
  have hBd4 := hBd3.keep hb4
  clear hb3 hb4 hBd3 hBd
  go_wp2
  go_loopw [18] (fun q wr => ∃ k : Nat, k ≤ 5 ∧ q = .int .i64 k ∧ Bld wr (F + 1) (nameL op ++ body (pres op (pick5 d a b l i) k)) ∧ Below (F + 1) W wr) (fun q _ => 5 - (intOf q).toNat)
  case atStart => exact ⟨0, by omega, rfl, by simpa [pres, body] using hBd4, hB4⟩
  case round =>
    obtain ⟨k, hk, rfl, hBr, hBWr⟩ := hrel
    have hFr : Blk wr F #[.int .i64 d, .int .i64 a, .int .i64 b, .int .i64 l, .int .i64 i] 42 := (hBWr.block F (Nat.lt_succ_self F)).trans hF
    have hXr : Blk wr X #[.int .i64 op, .int .i64 d, .int .i64 a, .int .i64 b, .int .i64 l, .int .i64 i] 23 := (hBWr.block X (by omega)).trans hXW
    have Er : Env wr := (E.below hBW).belowAt hBWr (by omega)
    have hLk := HL.out k hk
    have hxr : wr.cell? ⟨X, 0, none⟩ = some (.int .i64 op) := hXr.cell 0
    by_cases hk5 : k < 5
    · have hvk := hv k
      have C := hasT_any op k hk5 hop wr Er
      have HP : Hid (nameL op ++ body (pres op (pick5 d a b l i) (k + 1)) = (nameL op ++ body (pres op (pick5 d a b l i) k)) ++ (bif hasF op k then figs (pick5 d a b l i k) else [])) := by
        unfold Hid
        simp only [pres]
        cases hasF op k <;> simp [body]
      obtain ⟨m, hm, hm5⟩ : ∃ m, m = k + 1 ∧ m ≤ 5 := ⟨_, rfl, by omega⟩
      rw [← hm] at HP
      have HM : Hid _ := hm
      clear hm
      cases hh : hasF op k
      · rw [hh] at C HP
        clear hh
        generalize nameL op ++ body (pres op (pick5 d a b l i) k) = acc at *
        have hk' : k = 0 ∨ k = 1 ∨ k = 2 ∨ k = 3 ∨ k = 4 := by omega
        rcases hk' with rfl | rfl | rfl | rfl | rfl
        all_goals
          go_wp2_with fail
          refine C.mono ?_
          clear C
          rintro e w5 ⟨rfl, hb5⟩
          go_wp2
          go_roundw
          case rel => exact ⟨m, hm5, by rw [HM.out]; go_num, by rw [HP.out]; simpa using hBr.keep hb5, hBWr.trans (hb5.mono (Nat.le_of_lt hBr.lt))⟩
          case measure => simp [intOf]
      · rw [hh] at C HP
        clear hh
        generalize nameL op ++ body (pres op (pick5 d a b l i) k) = acc at *
        have hk' : k = 0 ∨ k = 1 ∨ k = 2 ∨ k = 3 ∨ k = 4 := by omega
        rcases hk' with rfl | rfl | rfl | rfl | rfl
        all_goals
          go_wp2_with fail
          refine C.mono ?_
          clear C
          rintro e w5 ⟨rfl, hb5⟩
          have hc5 : ∀ j, w5.cell? ⟨F, j, none⟩ = #[Value.int .i64 d, .int .i64 a, .int .i64 b, .int .i64 l, .int .i64 i][j]? := fun j => (hFr.keep hb5).cell j
          have hBW5 : Below (F + 1) W w5 := hBWr.trans (hb5.mono (Nat.le_of_lt hBr.lt))
          go_wp2_with fail
          refine (writeNumber_any (F + 1) acc _ w5 (Er.below hb5) hvk (hBr.keep hb5) (by omega) (by omega)).mono ?_
          rintro e w6 ⟨rfl, hB6, hb6⟩
          go_wp2
          go_roundw
          case rel => exact ⟨m, hm5, by rw [HM.out]; go_num, by rw [HP.out]; exact hB6, hBW5.trans hb6⟩
          case measure => simp [intOf]
    · obtain rfl : k = 5 := by omega
      obtain ⟨acc, ha⟩ : ∃ acc, nameL op ++ body (pres op (pick5 d a b l i) 5) = acc := ⟨_, rfl⟩
      rw [ha] at hBr
      have HA : Hid _ := ha
      clear ha
      go_wp2_with fail
      refine (String_any (F + 1) acc wr hBr).mono ?_
      rintro e w6 ⟨rfl, hb6⟩
      go_wp2
      go_ret
      exact ⟨by rw [HA.out]; rfl, hBW.trans ((hBWr.trans hb6).mono (by omega))⟩
set_option maxHeartbeats 2000000 in
theorem Line_out (op d a b l i : Int) (hop : ¬ (1 ≤ op ∧ op ≤ 14)) (w : World) (E : Env w) :
    Calls Tryd.prog 7 #[.agg #[.int .i64 op, .int .i64 d, .int .i64 a, .int .i64 b, .int .i64 l, .int .i64 i]] w fun e w' => e = .returned (.string ⟨#[63]⟩) ∧ Below w.heap.size w w' := by
  have hn : (nameS op).toList.isEmpty = true := by rw [name_empty, decide_eq_false hop]; rfl
  go_enter Tryd.func7, Tryd.ntmps7
  go_wp2_with fail
  refine (Name_any _ _ (E.alloc _).tab).mono ?_
  rintro e w1 ⟨rfl, hb1⟩
  go_wp2
  go_ret
  exact ⟨rfl, ((Below.refl _ _).alloc (Nat.le_refl _) _).trans (hb1.mono (by simp))⟩
theorem Line_any (op d a b l i : Int) (hv : ∀ k, in64 (pick5 d a b l i k)) (w : World) (E : Env w) :
    Calls Tryd.prog 7 #[.agg #[.int .i64 op, .int .i64 d, .int .i64 a, .int .i64 b, .int .i64 l, .int .i64 i]] w fun e w' => e = .returned (.string ⟨(lineL op d a b l i).toArray⟩) ∧ Below w.heap.size w w' := by
  unfold lineL
  split
  · exact Line_in op d a b l i (by assumption) hv w E
  · exact Line_out op d a b l i (by assumption) w E
end Go.Proofs.YtjmcplbhjihepaaDoor
