/- The contract of the document's Line. -/
import Derived.Test.YtjmcplbhjihepaaDoorTextCut
import Derived.Test.YtjmcplbhjihepaaDoorTextLine2
import Derived.Test.YtjmcplbhjihepaaDoorInsRef
namespace Go.Proofs.YtjmcplbhjihepaaDoor
open Go.RowKit

set_option maxHeartbeats 4000000 in
theorem refHasImm_any (op d a b l i : Int) (w : World) :
    Calls Tryd.prog 23 #[.agg #[.int .i64 op, .int .i64 d, .int .i64 a, .int .i64 b, .int .i64 l, .int .i64 i]] w fun e w' => e = .returned (.bool (hasIB op)) ∧ Below w.heap.size w w' := by
  rcases op_cases op with h | h | h | h | h | h | h | h | h | h | h | h | h | h | h
  · have e1 : hasIB op = false := by unfold hasIB; exact decide_eq_false (by omega)
    have n1 : (op == 1) = false := by simp; omega
    have n11 : (op == 11) = false := by simp; omega
    have n13 : (op == 13) = false := by simp; omega
    have n14 : (op == 14) = false := by simp; omega
    rw [e1]
    go_enter Tryd.func23, Tryd.ntmps23
    go_wp2
    go_ret
    exact ⟨rfl, by go_grown⟩
  all_goals
    subst h
    go_enter Tryd.func23, Tryd.ntmps23
    go_wp2
    go_ret
    exact ⟨rfl, by go_grown⟩

theorem app_one (a : List UInt8) : (⟨a.toArray⟩ : ByteArray) ++ ⟨#[32]⟩ = ⟨(a ++ [32]).toArray⟩ := app_l a [32]
/-- Which fields there are. -/
theorem flags (op : Int) (hop : 1 ≤ op ∧ op ≤ 14) :
    (hasDB op = true ∧ hasAB op = false ∧ hasBB op = false ∧ (hasLB op = false ∧ kindZ op = 0) ∧ hasIB op = true) ∨
    (hasDB op = true ∧ hasAB op = true ∧ hasBB op = true ∧ (hasLB op = false ∧ kindZ op = 0) ∧ hasIB op = false) ∨
    (hasDB op = true ∧ hasAB op = true ∧ hasBB op = false ∧ (hasLB op = true ∧ kindZ op = 1) ∧ hasIB op = false) ∨
    (hasDB op = false ∧ hasAB op = true ∧ hasBB op = true ∧ (hasLB op = true ∧ kindZ op = 2) ∧ hasIB op = false) ∨
    (hasDB op = true ∧ hasAB op = true ∧ hasBB op = true ∧ (hasLB op = true ∧ kindZ op = 2) ∧ hasIB op = false) ∨
    (hasDB op = false ∧ hasAB op = false ∧ hasBB op = false ∧ (hasLB op = false ∧ kindZ op = 0) ∧ hasIB op = true) ∨
    (hasDB op = false ∧ hasAB op = false ∧ hasBB op = false ∧ (hasLB op = false ∧ kindZ op = 0) ∧ hasIB op = false) ∨
    (hasDB op = false ∧ hasAB op = true ∧ hasBB op = false ∧ (hasLB op = false ∧ kindZ op = 0) ∧ hasIB op = true) := by
  rcases op_cases op with h | h | h | h | h | h | h | h | h | h | h | h | h | h | h
  · omega
  all_goals subst h; decide

set_option maxRecDepth 100000 in
set_option maxHeartbeats 8000000 in
theorem refLine_in (op d a b l i : Int) (hop : 1 ≤ op ∧ op ≤ 14) (hd : in64 d) (ha : in64 a) (hb' : in64 b) (hl : in64 l) (hi : in64 i) (w : World) :
    Calls Tryd.prog 8 #[.agg #[.int .i64 op, .int .i64 d, .int .i64 a, .int .i64 b, .int .i64 l, .int .i64 i]] w fun e w' => e = .returned (.string ⟨(nameL op ++ body (pres op (pick5 d a b l i) 5)).toArray⟩) ∧ Below w.heap.size w w' := by
  have hn : (nameS op).toList.isEmpty = false := by rw [name_empty, decide_eq_true hop]; rfl
  have hs0 : (nameS op).size ≤ 4 := by rw [nameV, size_l]; exact (name_in hop).2.2
  have ld := itoa_len hd
  have la := itoa_len ha
  have lb := itoa_len hb'
  have ll := itoa_len hl
  have li := itoa_len hi
  have NV : Hid (nameS op = ⟨(nameL op).toArray⟩) := nameV op
  rcases flags op hop with ⟨fD, fA, fB, ⟨fL, fK⟩, fI⟩ | ⟨fD, fA, fB, ⟨fL, fK⟩, fI⟩ | ⟨fD, fA, fB, ⟨fL, fK⟩, fI⟩ | ⟨fD, fA, fB, ⟨fL, fK⟩, fI⟩ | ⟨fD, fA, fB, ⟨fL, fK⟩, fI⟩ | ⟨fD, fA, fB, ⟨fL, fK⟩, fI⟩ | ⟨fD, fA, fB, ⟨fL, fK⟩, fI⟩ | ⟨fD, fA, fB, ⟨fL, fK⟩, fI⟩
  all_goals
    have FD : Hid _ := fD
    have FA : Hid _ := fA
    have FB : Hid _ := fB
    have FL : Hid _ := fL
    have FK : Hid _ := fK
    have FI : Hid _ := fI
    clear fD fA fB fL fK fI
    go_enter Tryd.func8, Tryd.ntmps8
    go_wp2_with fail
    refine (refName_any _ _).mono ?_
    rintro e w1 ⟨rfl, hb1⟩
    have hX : Blk w1 w.heap.size #[.int .i64 op, .int .i64 d, .int .i64 a, .int .i64 b, .int .i64 l, .int .i64 i] 23 := Blk.keep Blk.new hb1
    have hB : Below w.heap.size w w1 := ((Below.refl _ _).alloc (Nat.le_refl _) _).trans (hb1.mono (by simp))
    clear hb1
    generalize hXX : w.heap.size = X at hX ⊢
    have HX : Hid _ := hXX
    clear hXX
    have hc : ∀ j, w1.cell? ⟨X, j, none⟩ = #[Value.int .i64 op, .int .i64 d, .int .i64 a, .int .i64 b, .int .i64 l, .int .i64 i][j]? := fun j => hX.cell j
    go_wp2_with (first
      | (go_at_call 18; refine (refHasD_any _ _ _ _ _ _ _).mono ?_; rintro e w1 ⟨rfl, hb⟩; rw [FD.out]; replace hX := hX.keep hb; replace hB := hB.trans (hb.mono hB.size); replace hc := fun j => hX.cell j)
      | (go_at_call 20; refine (refHasA_any _ _ _ _ _ _ _).mono ?_; rintro e w1 ⟨rfl, hb⟩; rw [FA.out]; replace hX := hX.keep hb; replace hB := hB.trans (hb.mono hB.size); replace hc := fun j => hX.cell j)
      | (go_at_call 21; refine (refHasB_any _ _ _ _ _ _ _).mono ?_; rintro e w1 ⟨rfl, hb⟩; rw [FB.out]; replace hX := hX.keep hb; replace hB := hB.trans (hb.mono hB.size); replace hc := fun j => hX.cell j)
      | (go_at_call 22; refine (refKind_any _ _ _ _ _ _ _).mono ?_; rintro e w1 ⟨rfl, hb⟩; rw [FK.out]; replace hX := hX.keep hb; replace hB := hB.trans (hb.mono hB.size); replace hc := fun j => hX.cell j)
      | (go_at_call 23; refine (refHasImm_any _ _ _ _ _ _ _).mono ?_; rintro e w1 ⟨rfl, hb⟩; rw [FI.out]; replace hX := hX.keep hb; replace hB := hB.trans (hb.mono hB.size); replace hc := fun j => hX.cell j)
      | (go_at_call 29; refine (Figures_any _ _ rfl (by assumption) _).mono ?_; rintro e w1 ⟨rfl, hb⟩; replace hX := hX.keep hb; replace hB := hB.trans (hb.mono hB.size); replace hc := fun j => hX.cell j))
    go_ret
    refine ⟨congrArg (fun x => Ending.returned (Value.string x)) ?_, hB⟩
    have fD := FD.out
    have fA := FA.out
    have fB := FB.out
    have fL := FL.out
    have fI := FI.out
    rw [NV.out]
    simp [pres, hasF, fD, fA, fB, fL, fI, pick5, body, figs, app_l]
set_option maxHeartbeats 2000000 in
theorem refLine_out (op d a b l i : Int) (hop : ¬ (1 ≤ op ∧ op ≤ 14)) (w : World) :
    Calls Tryd.prog 8 #[.agg #[.int .i64 op, .int .i64 d, .int .i64 a, .int .i64 b, .int .i64 l, .int .i64 i]] w fun e w' => e = .returned (.string ⟨#[63]⟩) ∧ Below w.heap.size w w' := by
  have hn : (nameS op).toList.isEmpty = true := by rw [name_empty, decide_eq_false hop]; rfl
  go_enter Tryd.func8, Tryd.ntmps8
  go_wp2_with fail
  refine (refName_any _ _).mono ?_
  rintro e w1 ⟨rfl, hb1⟩
  go_wp2
  go_ret
  exact ⟨rfl, ((Below.refl _ _).alloc (Nat.le_refl _) _).trans (hb1.mono (by simp))⟩
theorem refLine_any (op d a b l i : Int) (hv : ∀ k, in64 (pick5 d a b l i k)) (w : World) :
    Calls Tryd.prog 8 #[.agg #[.int .i64 op, .int .i64 d, .int .i64 a, .int .i64 b, .int .i64 l, .int .i64 i]] w fun e w' => e = .returned (.string ⟨(lineL op d a b l i).toArray⟩) ∧ Below w.heap.size w w' := by
  unfold lineL
  split
  · exact refLine_in op d a b l i (by assumption) (hv 0) (hv 1) (hv 2) (hv 3) (hv 4) w
  · exact refLine_out op d a b l i (by assumption) w
end Go.Proofs.YtjmcplbhjihepaaDoor
