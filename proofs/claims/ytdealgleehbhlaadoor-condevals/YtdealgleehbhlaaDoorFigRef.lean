/- The contract of the document's Figures: a number in figures. -/
import Derived.Test.YtdealgleehbhlaaDoorFigs
import Derived.Test.YtdealgleehbhlaaDoorRep
import Derived.Test.YtdealgleehbhlaaDoorProg
import Derived.Test.YtdealgleehbhlaaDoorPar
namespace Go.Proofs.YtdealgleehbhlaaDoor
open Go.RowKit

/-- A text of one byte, out of a slice of one. -/
theorem conv_one (w : World) (b c : Nat) (x : Int) (h : w.cell? ⟨b, 0, none⟩ = some (.int .u8 x)) :
    Sem.run Tryd.prog (convert 58 9 (.slice (some ⟨b, 0, none⟩) 1 c)) w = .ok (.string ⟨#[UInt8.ofNat x.toNat]⟩) w := by
  rw [run_convert_bytes_string w _ _ 5 (some ⟨b, 0, none⟩) 1 c Tryd.underlying58 Tryd.underlying5 Tryd.underlying9]
  have hl := run_loadCells_list (P := Tryd.prog) w ⟨b, 0, none⟩ ([x].map (Value.int .u8)) (fun j v hj => by
    match j, hj with
    | 0, hj => simp at hj; subst hj; rw [addr_add]; exact h
    | j + 1, hj => simp at hj)
  exact run_bytesToString w ⟨b, 0, none⟩ 1 c [x] hl
theorem conv_new (w : World) (c : Nat) (x : Int) :
    Sem.run Tryd.prog (convert 58 9 (.slice (some ⟨w.heap.size, 0, none⟩) 1 c)) (w.alloc (.cells #[.int .u8 x] 5)) = .ok (.string ⟨#[UInt8.ofNat x.toNat]⟩) (w.alloc (.cells #[.int .u8 x] 5)) :=
  conv_one _ _ _ _ (Blk.new.cell 0)
attribute [local go_sem] conv_new

def phiF (n q d : Int) : Nat → Value → World → Prop
  | 0, v, _ => v = .int .i64 n
  | 1, v, _ => v = .int .i64 q
  | 2, v, _ => v = .string ⟨(Lib.itoa q).toArray⟩
  | 3, v, _ => v = .int .i64 d
  | 4, v, _ => v = .int .i64 (48 + d)
  | 5, v, _ => v = .int .u8 (48 + d)
  | 6, v, w => ∃ b, v = .slice (some ⟨b, 0, none⟩) 1 1 ∧ Blk w b #[.int .u8 (48 + d)] 5
  | 7, v, _ => v = .string ⟨#[UInt8.ofNat (48 + d).toNat]⟩
  | _, v, _ => v = .string (⟨(Lib.itoa q).toArray⟩ ++ ⟨#[UInt8.ofNat (48 + d).toNat]⟩)
theorem phiF_stab (n q d : Int) (i : Nat) (v : Value) (w w' : World) (h : phiF n q d i v w) (hb : Below w.heap.size w w') : phiF n q d i v w' := by
  match i, h with
  | 0, h => exact h
  | 1, h => exact h
  | 2, h => exact h
  | 3, h => exact h
  | 4, h => exact h
  | 5, h => exact h
  | 6, ⟨b, h1, h2⟩ => exact ⟨b, h1, h2.keep hb⟩
  | 7, h => exact h
  | i + 8, h => exact h
set_option maxRecDepth 100000 in
set_option maxHeartbeats 1000000 in
theorem Figures_neg (n : Int) (h0 : -10 < n) (h1 : n < 0) (w : World) :
    Calls Tryd.prog 42 #[.int .i64 n] w fun e w' => e = .returned (.string ⟨(Lib.itoa n).toArray⟩) ∧ Below w.heap.size w w' := by
  rw [itoa_m n h0 h1]
  go_enter Tryd.func42, Tryd.ntmps42
  go_wp2
  go_ret
  exact ⟨rfl, by go_grown⟩
set_option maxRecDepth 100000 in
set_option maxHeartbeats 1000000 in
theorem Figures_pos (n : Int) (h0 : 0 ≤ n) (h1 : n < 10) (w : World) :
    Calls Tryd.prog 42 #[.int .i64 n] w fun e w' => e = .returned (.string ⟨(Lib.itoa n).toArray⟩) ∧ Below w.heap.size w w' := by
  rw [itoa_p n h0 h1]
  go_enter Tryd.func42, Tryd.ntmps42
  go_wp2
  go_ret
  exact ⟨rfl, by go_grown⟩
set_option maxRecDepth 100000 in
set_option maxHeartbeats 2000000 in
theorem Figures_more (n q d : Int) (hn : n ≤ -10 ∨ 10 ≤ n) (h64 : in64 n) (hq : n.tdiv 10 = q) (hd0 : 0 ≤ d) (hd9 : d ≤ 9) (hr : n.tmod 10 = (if n < 0 then -d else d)) (hlen : (Lib.itoa q).length ≤ 21) (w : World)
    (ih : ∀ w, Calls Tryd.prog 42 #[.int .i64 q] w fun e w' => e = .returned (.string ⟨(Lib.itoa q).toArray⟩) ∧ Below w.heap.size w w') :
    Calls Tryd.prog 42 #[.int .i64 n] w fun e w' => e = .returned (.string ⟨(Lib.itoa q ++ [UInt8.ofNat (48 + d).toNat]).toArray⟩) ∧ Below w.heap.size w w' := by
  obtain ⟨g0, g1⟩ := h64
  have IH : Hid _ := ih
  clear ih
  have hsz : (⟨(Lib.itoa q).toArray⟩ : ByteArray).size ≤ 21 := by rw [size_l]; exact hlen
  obtain ⟨q0, q1⟩ : -9223372036854775808 ≤ q ∧ q ≤ 9223372036854775807 := by
    have := (tdiv_parts n).1
    rw [hq] at this
    split at this <;> exact ⟨by omega, by omega⟩
  have K : (n ≤ -10 ∧ n.tmod 10 = -d ∧ 0 < d) ∨ (n ≤ -10 ∧ n.tmod 10 = 0 ∧ d = 0) ∨ (10 ≤ n ∧ n.tmod 10 = d ∧ n % 10 = d ∧ n / 10 = q) := by
    rcases hn with hn | hn
    · rw [if_pos (by omega)] at hr
      by_cases h : d = 0
      · exact .inr (.inl ⟨hn, by omega, h⟩)
      · exact .inl ⟨hn, hr, by omega⟩
    · rw [if_neg (by omega)] at hr
      exact .inr (.inr ⟨hn, hr, by rw [← Int.tmod_eq_emod_of_nonneg (by omega)]; exact hr, by rw [← Int.tdiv_eq_ediv_of_nonneg (by omega)]; exact hq⟩)
  clear hr hn
  rcases K with ⟨k0, k1, k2⟩ | ⟨k0, k1, rfl⟩ | ⟨k0, k1, k2, k3⟩
  all_goals
    try (have kk : -10 < n := by omega)
    go_enter Tryd.func42, Tryd.ntmps42
    go_wp2
    first
      | refine wp_region_par [9] [(29, 0), (30, 1), (31, 2), (32, 3), (33, 4), (34, 5), (35, 6), (36, 7), (37, 8)] (phiF n q d) (by kernel_rfl) (by kernel_rfl) (phiF_stab n q d) ?_ ?_
      | refine wp_region_par [9] [(29, 0), (30, 1), (31, 2), (32, 3), (33, 4), (34, 5), (35, 6), (36, 7), (37, 8)] (phiF n q 0) (by kernel_rfl) (by kernel_rfl) (phiF_stab n q 0) ?_ ?_
    · intro vals v5 hB5
      dsimp only [EachOp, Nat.zero_add, Nat.reduceAdd]
      refine ⟨fun _ hd => ?_, fun _ hd => ?_, fun _ hd => ?_, fun _ hd => ?_, fun _ hd => ?_, fun _ hd => ?_, fun _ hd => ?_, fun _ hd => ?_, fun _ hd => ?_, fun h => absurd h (by decide), trivial⟩
      · simp only [laidF, List.foldl, Act.put, List.setIfInBounds_toArray, List.set]
        go_wp2
        exact ⟨_, rfl, rfl, Below.refl _ _⟩
      · have h0 : vals 0 = _ := hd ⟨0, .data⟩ (by simp) rfl
        simp only [laidF, List.foldl, Act.put, List.setIfInBounds_toArray, List.set, h0]
        go_wp2
        exact ⟨_, rfl, rfl, Below.refl _ _⟩
      · have h1 : vals 1 = _ := hd ⟨1, .data⟩ (by simp) rfl
        simp only [laidF, List.foldl, Act.put, List.setIfInBounds_toArray, List.set, h1]
        go_wp2_with (go_at_call 42; refine (IH.out _).mono ?_; rintro e w' ⟨rfl, hb⟩)
        exact ⟨_, rfl, rfl, hb⟩
      · simp only [laidF, List.foldl, Act.put, List.setIfInBounds_toArray, List.set]
        go_wp2
        exact ⟨_, rfl, rfl, Below.refl _ _⟩
      · have h3 : vals 3 = _ := hd ⟨3, .data⟩ (by simp) rfl
        simp only [laidF, List.foldl, Act.put, List.setIfInBounds_toArray, List.set, h3]
        go_wp2
        exact ⟨_, rfl, rfl, Below.refl _ _⟩
      · have h4 : vals 4 = _ := hd ⟨4, .data⟩ (by simp) rfl
        simp only [laidF, List.foldl, Act.put, List.setIfInBounds_toArray, List.set, h4]
        go_wp2
        exact ⟨_, rfl, rfl, Below.refl _ _⟩
      · have h5 : vals 5 = _ := hd ⟨5, .data⟩ (by simp) rfl
        simp only [laidF, List.foldl, Act.put, List.setIfInBounds_toArray, List.set, h5]
        go_wp2
        exact ⟨_, rfl, ⟨_, rfl, Blk.new⟩, by go_grown⟩
      · obtain ⟨b, h6, hK⟩ := hd ⟨6, .data⟩ (by simp) rfl
        have hcv := conv_one v5 b 1 _ (hK.cell 0)
        simp only [laidF, List.foldl, Act.put, List.setIfInBounds_toArray, List.set, h6]
        go_wp2
        exact ⟨_, rfl, rfl, Below.refl _ _⟩
      · have h2 : vals 2 = _ := hd ⟨2, .data⟩ (by simp) rfl
        have h7 : vals 7 = _ := hd ⟨7, .data⟩ (by simp) rfl
        simp only [laidF, List.foldl, Act.put, List.setIfInBounds_toArray, List.set, h2, h7]
        go_wp2
        exact ⟨_, rfl, rfl, Below.refl _ _⟩
    · intro vals v5 hB5 hall
      have h8 : vals 8 = _ := hall 8 (by show 8 < 10; decide) rfl
      simp only [laidF, List.foldl, Act.put, List.setIfInBounds_toArray, List.set, h8, List.map, opAt]
      go_wp2
      go_ret
      exact ⟨by rw [← app_l]; rfl, hB5⟩
theorem Figures_any (m : Nat) : ∀ (n : Int), n.natAbs = m → in64 n → ∀ w : World,
    Calls Tryd.prog 42 #[.int .i64 n] w fun e w' => e = .returned (.string ⟨(Lib.itoa n).toArray⟩) ∧ Below w.heap.size w w' := by
  induction m using Nat.strongRecOn with
  | _ m ih =>
    intro n hm h w
    by_cases h0 : -10 < n
    · by_cases h1 : n < 0
      · exact Figures_neg n h0 h1 w
      · by_cases h2 : n < 10
        · exact Figures_pos n (by omega) h2 w
        · obtain ⟨e1, e2⟩ := tdiv_parts n
          have hq : in64 (n.tdiv 10) := by unfold in64 at *; rw [e1]; split <;> omega
          rw [itoa_big n _ _ (by omega) e1 rfl]
          exact Figures_more n _ ((n.natAbs % 10 : Nat) : Int) (by omega) h rfl (by omega) (by omega) e2 (itoa_len hq) w (fun w => ih (n.tdiv 10).natAbs (by rw [e1]; split <;> omega) _ rfl hq w)
    · obtain ⟨e1, e2⟩ := tdiv_parts n
      have hq : in64 (n.tdiv 10) := by unfold in64 at *; rw [e1]; split <;> omega
      rw [itoa_big n _ _ (by omega) e1 rfl]
      exact Figures_more n _ ((n.natAbs % 10 : Nat) : Int) (by omega) h rfl (by omega) (by omega) e2 (itoa_len hq) w (fun w => ih (n.tdiv 10).natAbs (by rw [e1]; split <;> omega) _ rfl hq w)
end Go.Proofs.YtdealgleehbhlaaDoor
