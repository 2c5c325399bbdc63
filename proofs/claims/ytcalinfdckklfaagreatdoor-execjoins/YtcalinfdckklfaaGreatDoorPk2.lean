/- InsP: InsPlain, InsFacts, InsCalls, InsUses, Ints, in one text. -/
import Derived.Test.YtcalinfdckklfaaGreatDoorProg
import Derived.Test.YtcalinfdckklfaaGreatDoorPk1
import Derived.Deep.AppendLies
namespace Go.Proofs.YtcalinfdckklfaaGreatDoor

/-- The name of an operation. -/
def nameS (op : Int) : ByteArray :=
  if op = 1 then ⟨#[109, 111, 118]⟩ else if op = 2 then ⟨#[97, 100, 100]⟩ else if op = 3 then ⟨#[101, 111, 114]⟩ else if op = 4 then ⟨#[97, 110, 100]⟩
  else if op = 5 then ⟨#[108, 100, 114]⟩ else if op = 6 then ⟨#[115, 116, 114]⟩ else if op = 7 then ⟨#[108, 100, 97, 114]⟩ else if op = 8 then ⟨#[115, 116, 108, 114]⟩
  else if op = 9 then ⟨#[108, 100, 120, 114]⟩ else if op = 10 then ⟨#[115, 116, 120, 114]⟩ else if op = 11 then ⟨#[100, 109, 98]⟩ else if op = 12 then ⟨#[105, 115, 98]⟩
  else if op = 13 then ⟨#[99, 98, 122]⟩ else if op = 14 then ⟨#[99, 98, 110, 122]⟩ else ⟨#[]⟩
def kindZ (op : Int) : Int := if op = 5 ∨ op = 7 ∨ op = 9 then 1 else if op = 6 ∨ op = 8 ∨ op = 10 then 2 else 0
def fieldsZ (op : Int) : Int :=
  if op = 1 then 17 else if op = 2 ∨ op = 3 ∨ op = 4 then 7 else if op = 5 ∨ op = 7 ∨ op = 9 then 11 else if op = 6 ∨ op = 8 then 14
  else if op = 10 then 15 else if op = 11 then 16 else if op = 13 ∨ op = 14 then 18 else 0
def hasDB (op : Int) : Bool := decide (1 ≤ op ∧ op ≤ 5 ∨ op = 7 ∨ op = 9 ∨ op = 10)
def hasAB (op : Int) : Bool := decide (2 ≤ op ∧ op ≤ 10 ∨ op = 13 ∨ op = 14)
def hasBB (op : Int) : Bool := decide (2 ≤ op ∧ op ≤ 4 ∨ op = 6 ∨ op = 8 ∨ op = 10)
def hasLB (op : Int) : Bool := decide (5 ≤ op ∧ op ≤ 10)
def hasIB (op : Int) : Bool := decide (op = 1 ∨ op = 11 ∨ op = 13 ∨ op = 14)
def regB (n : Int) : Bool := decide (0 ≤ n) && decide (n < 4)
def baseB (op a : Int) : Bool := regB a || (kindZ op != 0 && (a == -1))
def immB (op imm behind : Int) : Bool :=
  if op = 1 then decide (-1000 ≤ imm) && decide (imm ≤ 1000) else if op = 11 then decide (0 ≤ imm) && decide (imm ≤ 2) else decide (0 ≤ imm) && decide (imm ≤ behind)
def m1B (op d : Int) : Bool := bif hasDB op then regB d else (d == 0)
def m2B (op a : Int) : Bool := bif hasAB op then baseB op a else (a == 0)
def m3B (op b : Int) : Bool := bif hasBB op then regB b else (b == 0)
def m4B (op l locs : Int) : Bool := bif hasLB op then decide (0 ≤ l) && decide (l < locs) else (l == 0)
def m5B (op i behind : Int) : Bool := bif hasIB op then immB op i behind else (i == 0)
def mayB (op d a b l i behind locs : Int) : Bool := decide (1 ≤ op ∧ op ≤ 14) && (m1B op d && (m2B op a && (m3B op b && (m4B op l locs && m5B op i behind))))
/-- Which registers an instruction reads. -/
def usesL (op a b : Int) : List Int := (if hasAB op = true ∧ 0 ≤ a then [a] else []) ++ (if hasBB op = true ∧ 0 ≤ b then [b] else [])
def givesZ (op d : Int) : Int := bif hasDB op then d else -1

/-- What there is of operations. -/
theorem op_cases (op : Int) : (op ≤ 0 ∨ 15 ≤ op) ∨ op = 1 ∨ op = 2 ∨ op = 3 ∨ op = 4 ∨ op = 5 ∨ op = 6 ∨ op = 7 ∨ op = 8 ∨ op = 9 ∨ op = 10 ∨ op = 11 ∨ op = 12 ∨ op = 13 ∨ op = 14 := by omega

end Go.Proofs.YtcalinfdckklfaaGreatDoor

namespace Go.Proofs.YtcalinfdckklfaaGreatDoor

theorem kind_cases (op : Int) : kindZ op = 0 ∨ kindZ op = 1 ∨ kindZ op = 2 := by
  unfold kindZ; split
  · simp
  · split <;> simp
end Go.Proofs.YtcalinfdckklfaaGreatDoor

namespace Go.Proofs.YtcalinfdckklfaaGreatDoor
open Go.RowKit

/-- The table of shapes lies in its block. -/
structure Tab (w : World) : Prop where
  pos : 0 < w.heap.size
  name : ∀ op : Int, 0 ≤ op → op < 15 → w.cell? ⟨0, op.toNat * 3, none⟩ = some (.string (nameS op))
  kind : ∀ op : Int, 0 ≤ op → op < 15 → w.cell? ⟨0, op.toNat * 3 + 1, none⟩ = some (.int .i64 (kindZ op))
  fields : ∀ op : Int, 0 ≤ op → op < 15 → w.cell? ⟨0, op.toNat * 3 + 2, none⟩ = some (.int .i64 (fieldsZ op))

theorem Tab.below {w w' : World} (h : Tab w) (hb : Below w.heap.size w w') : Tab w' :=
  ⟨Nat.lt_of_lt_of_le h.pos hb.size, fun op h0 h1 => (hb.cell (p := ⟨_, _, none⟩) h.pos).trans (h.name op h0 h1), fun op h0 h1 => (hb.cell (p := ⟨_, _, none⟩) h.pos).trans (h.kind op h0 h1), fun op h0 h1 => (hb.cell (p := ⟨_, _, none⟩) h.pos).trans (h.fields op h0 h1)⟩
theorem Tab.alloc {w : World} (h : Tab w) (o : Obj) : Tab (w.alloc o) := h.below ((Below.refl _ _).alloc (Nat.le_refl _) _)

theorem name_out {op : Int} (h : op < 0 ∨ 15 ≤ op) : nameS op = ⟨#[]⟩ ∧ kindZ op = 0 ∧ fieldsZ op = 0 := by
  unfold nameS kindZ fieldsZ
  refine ⟨?_, ?_, ?_⟩
  · repeat rw [if_neg (by omega)]
  · repeat rw [if_neg (by omega)]
  · repeat rw [if_neg (by omega)]

set_option maxHeartbeats 400000 in
theorem shapeOf_out (op : Int) (w : World) (h : op < 0 ∨ 15 ≤ op) :
    Calls Tryz.prog 89 #[.int .i64 op] w fun e w' => e = .returned (.agg #[.string ⟨#[]⟩, .int .i64 0, .int .i64 0]) ∧ Below w.heap.size w w' := by
  rcases h with h | h
  all_goals
    go_enter Tryz.func89, Tryz.ntmps89
    go_wp2
    go_returns
    exact ⟨rfl, by go_grown⟩
set_option maxHeartbeats 400000 in
theorem shapeOf_in (op : Int) (w : World) (h : 0 ≤ op) (h' : op < 15) (hz : 0 < w.heap.size) (a : ByteArray) (k f : Int)
  (h0 : w.cell? ⟨0, op.toNat * 3, none⟩ = some (.string a))
  (h1 : w.cell? ⟨0, op.toNat * 3 + 1, none⟩ = some (.int .i64 k))
  (h2 : w.cell? ⟨0, op.toNat * 3 + 2, none⟩ = some (.int .i64 f)) :
    Calls Tryz.prog 89 #[.int .i64 op] w fun e w' => e = .returned (.agg #[.string a, .int .i64 k, .int .i64 f]) ∧ Below w.heap.size w w' := by
  have hne : w.heap.size ≠ 0 := by omega
  go_enter Tryz.func89, Tryz.ntmps89
  go_wp2
  go_returns
  exact ⟨rfl, by go_grown⟩
theorem shapeOf_any (op : Int) (w : World) (T : Tab w) :
    Calls Tryz.prog 89 #[.int .i64 op] w fun e w' => e = .returned (.agg #[.string (nameS op), .int .i64 (kindZ op), .int .i64 (fieldsZ op)]) ∧ Below w.heap.size w w' := by
  by_cases h : op < 0 ∨ 15 ≤ op
  · obtain ⟨e1, e2, e3⟩ := name_out h
    rw [e1, e2, e3]
    exact shapeOf_out op w h
  · exact shapeOf_in op w (by omega) (by omega) T.pos _ _ _ (T.name op (by omega) (by omega)) (T.kind op (by omega) (by omega)) (T.fields op (by omega) (by omega))

set_option maxHeartbeats 400000 in
theorem has_any (a : ByteArray) (k f b : Int) (w : World) :
    Calls Tryz.prog 114 #[.agg #[.string a, .int .i64 k, .int .i64 f], .int .i64 b] w fun e w' => e = .returned (.bool (bits BinOp.and IntKind.i64 f b != 0)) ∧ Below w.heap.size w w' := by
  go_enter Tryz.func114, Tryz.ntmps114
  go_wp2
  go_ret
  exact ⟨rfl, by go_grown⟩
theorem has_is (a : ByteArray) (k f b : Int) (r : Bool) (w : World) (h : (bits BinOp.and IntKind.i64 f b != 0) = r) :
    Calls Tryz.prog 114 #[.agg #[.string a, .int .i64 k, .int .i64 f], .int .i64 b] w fun e w' => e = .returned (.bool r) ∧ Below w.heap.size w w' := by
  subst h; exact has_any a k f b w

/-- The bits of the fields, one by one. -/
theorem bit_D (op : Int) : (bits BinOp.and IntKind.i64 (fieldsZ op) 1 != 0) = hasDB op := by
  rcases op_cases op with h | h | h | h | h | h | h | h | h | h | h | h | h | h | h
  · have e : fieldsZ op = 0 := by unfold fieldsZ; repeat rw [if_neg (by omega)]
    rw [e]; unfold hasDB; rw [decide_eq_false (by omega)]; decide
  all_goals subst h; decide
theorem bit_A (op : Int) : (bits BinOp.and IntKind.i64 (fieldsZ op) 2 != 0) = hasAB op := by
  rcases op_cases op with h | h | h | h | h | h | h | h | h | h | h | h | h | h | h
  · have e : fieldsZ op = 0 := by unfold fieldsZ; repeat rw [if_neg (by omega)]
    rw [e]; unfold hasAB; rw [decide_eq_false (by omega)]; decide
  all_goals subst h; decide
theorem bit_B (op : Int) : (bits BinOp.and IntKind.i64 (fieldsZ op) 4 != 0) = hasBB op := by
  rcases op_cases op with h | h | h | h | h | h | h | h | h | h | h | h | h | h | h
  · have e : fieldsZ op = 0 := by unfold fieldsZ; repeat rw [if_neg (by omega)]
    rw [e]; unfold hasBB; rw [decide_eq_false (by omega)]; decide
  all_goals subst h; decide
theorem bit_L (op : Int) : (bits BinOp.and IntKind.i64 (fieldsZ op) 8 != 0) = hasLB op := by
  rcases op_cases op with h | h | h | h | h | h | h | h | h | h | h | h | h | h | h
  · have e : fieldsZ op = 0 := by unfold fieldsZ; repeat rw [if_neg (by omega)]
    rw [e]; unfold hasLB; rw [decide_eq_false (by omega)]; decide
  all_goals subst h; decide
theorem bit_I (op : Int) : (bits BinOp.and IntKind.i64 (fieldsZ op) 16 != 0) = hasIB op := by
  rcases op_cases op with h | h | h | h | h | h | h | h | h | h | h | h | h | h | h
  · have e : fieldsZ op = 0 := by unfold fieldsZ; repeat rw [if_neg (by omega)]
    rw [e]; unfold hasIB; rw [decide_eq_false (by omega)]; decide
  all_goals subst h; decide

theorem field_name (a : ByteArray) (k f : Int) (w : World) : Sem.run Tryz.prog (Instr.field 148 (.agg #[.string a, .int .i64 k, .int .i64 f]) 0) w = .ok (.string a) w := by kernel_rfl
theorem field_kind (a : ByteArray) (k f : Int) (w : World) : Sem.run Tryz.prog (Instr.field 148 (.agg #[.string a, .int .i64 k, .int .i64 f]) 1) w = .ok (.int .i64 k) w := by kernel_rfl
attribute [local go_sem] field_name field_kind

set_option maxHeartbeats 400000 in
theorem Kind_any (op d a b l i : Int) (w : World) (T : Tab w) :
    Calls Tryz.prog 80 #[.agg #[.int .i64 op, .int .i64 d, .int .i64 a, .int .i64 b, .int .i64 l, .int .i64 i]] w fun e w' => e = .returned (.int .i64 (kindZ op)) ∧ Below w.heap.size w w' := by
  go_enter Tryz.func80, Tryz.ntmps80
  go_wp2_with (go_at_call 89; refine (shapeOf_any _ _ (T.alloc _)).mono ?_; rintro e w' ⟨rfl, hb⟩)
  go_ret
  exact ⟨rfl, ((Below.refl _ _).alloc (Nat.le_refl _) _).trans (hb.mono (by simp))⟩
set_option maxHeartbeats 400000 in
theorem Gives_any (op d a b l i : Int) (w : World) (T : Tab w) :
    Calls Tryz.prog 143 #[.agg #[.int .i64 op, .int .i64 d, .int .i64 a, .int .i64 b, .int .i64 l, .int .i64 i]] w fun e w' => e = .returned (.int .i64 (givesZ op d)) ∧ Below w.heap.size w w' := by
  cases h : hasDB op
  all_goals
    have hbit := (bit_D op).trans h
    have hg : Hid (givesZ op d = givesZ op d) := rfl
    unfold givesZ
    rw [h]
    go_enter Tryz.func143, Tryz.ntmps143
    go_wp2_with fail
    refine (shapeOf_any _ _ (T.alloc _)).mono ?_
    rintro e w1 ⟨rfl, hb⟩
    obtain ⟨hc, hf⟩ := bcell hb
    go_wp2_with fail
    refine (has_is _ _ _ _ _ _ hbit).mono ?_
    rintro e w2 ⟨rfl, hb2⟩
    obtain ⟨hc2, hf2⟩ := bcell hb2
    have hz : w.heap.size < w1.heap.size := by have := hb.size; simp at this; omega
    go_wp2
    go_ret
    exact ⟨rfl, (((Below.refl _ _).alloc (Nat.le_refl _) _).trans (hb.mono (by simp))).trans (hb2.mono (by omega))⟩
end Go.Proofs.YtcalinfdckklfaaGreatDoor

namespace Go.Proofs.YtcalinfdckklfaaGreatDoor
open Go.RowKit

theorem info_int : (Tryz.prog.info? 3).map (fun i => (i.zero, i.size, i.bytes)) = some (some (.int .i64 0), 1, 8) := by kernel_rfl

theorem one_news {w : World} {b : Nat} {v : Value} (h : w.cell? ⟨b, 0, none⟩ = some v) : ∀ (j : Nat) (u : Value), [v][j]? = some u → w.cell? ((⟨b, 0, none⟩ : Addr).add j) = some u := by
  intro j u hj
  match j, hj with
  | 0, hj => simp at hj; subst hj; simpa [Addr.add] using h
theorem one_cell {k : IntKind} {n : Int} : ∀ u ∈ [Value.int k n], u.oneCell' = true := by
  intro u hu; simp at hu; subst hu; rfl

set_option maxHeartbeats 4000000 in
theorem Uses_noA (op d a b l i : Int) (w : World) (T : Tab w) (ys : List Int)
    (HA : hasAB op = false ∨ (hasAB op = true ∧ a < 0))
    (HB : (hasBB op = false ∧ ys = []) ∨ (hasBB op = true ∧ b < 0 ∧ ys = []) ∨ (hasBB op = true ∧ 0 ≤ b ∧ ys = [b])) :
    Calls Tryz.prog 156 #[.agg #[.int .i64 op, .int .i64 d, .int .i64 a, .int .i64 b, .int .i64 l, .int .i64 i]] w fun e w' =>
      ∃ v, e = .returned v ∧ w'.ownsRow w.heap.size 3 1 v ys.length (ys.map (Value.int .i64)) ∧ Below w.heap.size w w' := by
  obtain ⟨i0, hi, hz0, hz1, hz2⟩ := info_parts info_int
  have hA : Hid _ := bit_A op
  have hB : Hid _ := bit_B op
  rcases HA with h1 | ⟨h1, ha⟩
  all_goals
    rcases HB with ⟨h2, rfl⟩ | ⟨h2, hb', rfl⟩ | ⟨h2, hb', rfl⟩
  all_goals
    have hA' : Hid _ := hA.out.trans h1
    have hB' : Hid _ := hB.out.trans h2
    clear hA hB h1 h2
    try (have had : decide (0 ≤ a) = false := decide_eq_false (by omega))
    try (have hbd : decide (0 ≤ b) = false := decide_eq_false (by omega))
    go_enter Tryz.func156, Tryz.ntmps156
    go_wp2_with fail
    refine (shapeOf_any _ _ (T.alloc _)).mono ?_
    rintro e w1 ⟨rfl, hb⟩
    obtain ⟨hc, hf⟩ := bcell hb
    have hz : w.heap.size < w1.heap.size := by have := hb.size; simp at this; omega
    go_wp2_with fail
    refine (has_is _ _ _ _ _ _ hA'.out).mono ?_
    rintro e w2 ⟨rfl, hb2⟩
    obtain ⟨hc2, hf2⟩ := bcell hb2
    have hz2' : w1.heap.size < w2.heap.size := by have := hb2.size; simp at this; omega
    have B2 : Below w.heap.size w w2 := ((((Below.refl _ _).alloc (Nat.le_refl _) _).trans (hb.mono (by simp))).alloc (by omega) _).trans (hb2.mono (by simp; omega))
    go_wp2_with fail
    refine (has_is _ _ _ _ _ _ hB'.out).mono ?_
    rintro e w3 ⟨rfl, hb3⟩
    obtain ⟨hc3, hf3⟩ := bcell hb3
    have hz3' : w2.heap.size ≤ w3.heap.size := hb3.size
    have hz4' : w.heap.size < w2.heap.size := by omega
    have hz5' : w.heap.size < w3.heap.size := by omega
    have B3 : Below w.heap.size w w3 := B2.trans (hb3.mono (by omega))
    go_wp2_with (at_builtin; refine wpList_append_lies _ (by rfl) (.tmp 27) (.tmp 30) 27 (by rfl) w.heap.size 3 i0 (.int .i64 0) 1 8 Tryz.underlying27 hi hz0 hz1 hz2 rfl (by decide) (.slice none 0 0) 0 [] (by rfl) (World.ownsRow_nil _ _ _ _) ⟨w3.heap.size, 0, none⟩ 1 1 [.int .i64 b] (by rfl) rfl (one_news (by simp)) one_cell (by decide) (by unfold maxLen; omega) (by omega) (by simp; omega) (w3.heap.size + 1) (by simp) ?_; intro g cap w4 hown hgrow hat hlt)
    go_ret
    first
      | exact ⟨_, rfl, World.ownsRow_nil _ _ _ _, B3⟩
      | exact ⟨_, rfl, hown, (B3.alloc (by omega) _).grown hgrow (by simp; omega) (by simp [Value.ownBlock])⟩

set_option maxHeartbeats 4000000 in
theorem Uses_A (op d a b l i : Int) (w : World) (T : Tab w) (ys : List Int)
    (h1 : hasAB op = true) (ha : 0 ≤ a)
    (HB : (hasBB op = false ∧ ys = []) ∨ (hasBB op = true ∧ b < 0 ∧ ys = []) ∨ (hasBB op = true ∧ 0 ≤ b ∧ ys = [b])) :
    Calls Tryz.prog 156 #[.agg #[.int .i64 op, .int .i64 d, .int .i64 a, .int .i64 b, .int .i64 l, .int .i64 i]] w fun e w' =>
      ∃ v, e = .returned v ∧ w'.ownsRow w.heap.size 3 1 v (1 + ys.length) (Value.int .i64 a :: ys.map (Value.int .i64)) ∧ Below w.heap.size w w' := by
  obtain ⟨i0, hi, hz0, hz1, hz2⟩ := info_parts info_int
  have hA : Hid _ := bit_A op
  have hB : Hid _ := bit_B op
  rcases HB with ⟨h2, rfl⟩ | ⟨h2, hb', rfl⟩ | ⟨h2, hb', rfl⟩
  all_goals
    have hA' : Hid _ := hA.out.trans h1
    have hB' : Hid _ := hB.out.trans h2
    clear hA hB h1 h2
    try (have hbd : decide (0 ≤ b) = false := decide_eq_false (by omega))
    go_enter Tryz.func156, Tryz.ntmps156
    go_wp2_with fail
    refine (shapeOf_any _ _ (T.alloc _)).mono ?_
    rintro e w1 ⟨rfl, hb⟩
    obtain ⟨hc, hf⟩ := bcell hb
    have hz : w.heap.size < w1.heap.size := by have := hb.size; simp at this; omega
    go_wp2_with fail
    refine (has_is _ _ _ _ _ _ hA'.out).mono ?_
    rintro e w2 ⟨rfl, hb2⟩
    obtain ⟨hc2, hf2⟩ := bcell hb2
    have hz2' : w1.heap.size < w2.heap.size := by have := hb2.size; simp at this; omega
    have hz4' : w.heap.size < w2.heap.size := by omega
    have B2 : Below w.heap.size w w2 := ((((Below.refl _ _).alloc (Nat.le_refl _) _).trans (hb.mono (by simp))).alloc (by omega) _).trans (hb2.mono (by simp; omega))
    go_wp2_with (at_builtin; refine wpList_append_lies _ (by rfl) (.tmp 15) (.tmp 18) 27 (by rfl) w.heap.size 3 i0 (.int .i64 0) 1 8 Tryz.underlying27 hi hz0 hz1 hz2 rfl (by decide) (.slice none 0 0) 0 [] (by rfl) (World.ownsRow_nil _ _ _ _) ⟨w2.heap.size, 0, none⟩ 1 1 [.int .i64 a] (by rfl) rfl (one_news (by simp)) one_cell (by decide) (by unfold maxLen; omega) (by omega) (by simp; omega) (w2.heap.size + 1) (by simp) ?_; intro g cap w3 hown hgrow hat hlt; have hc3 := gcell hgrow; have hz3' : w2.heap.size < w3.heap.size := (by have := hgrow.size; simp at this; omega); have hz5' : w.heap.size < w3.heap.size := (by omega); have hz6' : w1.heap.size < w3.heap.size := (by omega); have B3 : Below w.heap.size w w3 := (B2.alloc (by omega) _).grown hgrow (by simp; omega) (by simp [Value.ownBlock]))
    refine (has_is _ _ _ _ _ _ hB'.out).mono ?_
    rintro e w4 ⟨rfl, hb4⟩
    obtain ⟨hc4, hf4⟩ := bcell hb4
    have hz7' : w3.heap.size ≤ w4.heap.size := hb4.size
    have hown' := ownsRow_below hown hb4
    have B4 : Below w.heap.size w w4 := B3.trans (hb4.mono (by omega))
    go_wp2_with (at_builtin; refine wpList_append_lies _ (by rfl) (.tmp 27) (.tmp 30) 27 (by rfl) w.heap.size 3 i0 (.int .i64 0) 1 8 Tryz.underlying27 hi hz0 hz1 hz2 rfl (by decide) _ _ _ (by rfl) (hown'.alloc _) ⟨w4.heap.size, 0, none⟩ 1 1 [.int .i64 b] (by rfl) rfl (one_news (by simp)) one_cell (by decide) (by unfold maxLen; omega) (by omega) (by simp; omega) (w4.heap.size + 1) (by simp) ?_; intro g2 cap2 w5 hown2 hgrow2 hat2 hlt2)
    go_ret
    first
      | exact ⟨_, rfl, hown', B4⟩
      | exact ⟨_, rfl, hown2, (B4.alloc (by omega) _).grown hgrow2 (by simp; omega) (fun k hk => (hown.lt k hk).1)⟩

theorem Uses_any (op d a b l i : Int) (w : World) (T : Tab w) :
    Calls Tryz.prog 156 #[.agg #[.int .i64 op, .int .i64 d, .int .i64 a, .int .i64 b, .int .i64 l, .int .i64 i]] w fun e w' =>
      ∃ v, e = .returned v ∧ w'.ownsRow w.heap.size 3 1 v (usesL op a b).length ((usesL op a b).map (Value.int .i64)) ∧ Below w.heap.size w w' := by
  obtain ⟨ys, hy, HB⟩ : ∃ ys, (if hasBB op = true ∧ 0 ≤ b then [b] else []) = ys ∧ ((hasBB op = false ∧ ys = []) ∨ (hasBB op = true ∧ b < 0 ∧ ys = []) ∨ (hasBB op = true ∧ 0 ≤ b ∧ ys = [b])) := by
    refine ⟨_, rfl, ?_⟩
    cases hasBB op
    · simp
    · by_cases h : 0 ≤ b
      · simp [h]
      · simp [h]; omega
  unfold usesL
  rw [hy]
  by_cases h : hasAB op = true ∧ 0 ≤ a
  · rw [if_pos h]
    refine (Uses_A op d a b l i w T ys h.1 h.2 HB).mono ?_
    rintro e w' ⟨v, h1, h2, h3⟩
    refine ⟨v, h1, ?_, h3⟩
    rw [show ([a] ++ ys).length = 1 + ys.length from by simp; omega]
    exact h2
  · rw [if_neg h]
    refine Uses_noA op d a b l i w T ys ?_ HB
    cases h' : hasAB op
    · exact .inl rfl
    · exact .inr ⟨rfl, by rw [h'] at h; simp at h; omega⟩
end Go.Proofs.YtcalinfdckklfaaGreatDoor

namespace Go.Proofs.YtcalinfdckklfaaGreatDoor
open Go.RowKit

/-- A slice of ints that reads as a list. -/
def IntSl (w : World) (v : Value) (xs : List Int) : Prop :=
  (v = .slice none 0 0 ∧ xs = []) ∨ ∃ b o cap, v = .slice (some ⟨b, o, none⟩) xs.length cap ∧ ∀ i, i < xs.length → w.cell? ⟨b, o + i, none⟩ = some (.int .i64 (xs.getD i 0))

/-- What the call owns reads so. -/
theorem ints_own {w : World} {base : Nat} {e : TypeId} {v : Value} {xs : List Int} (h : w.ownsRow base e 1 v xs.length (xs.map (Value.int .i64))) : IntSl w v xs := by
  rcases h.2 with ⟨rfl, h0⟩ | ⟨g, cap, cur, rfl, hb, hg, _, _, _, _⟩
  · exact .inl ⟨rfl, List.length_eq_zero_iff.1 h0⟩
  · refine .inr ⟨g, 0, cap, rfl, fun i hi => ?_⟩
    have := h.cells (g := g) rfl i (.int .i64 (xs.getD i 0)) (by simp [List.getElem?_map, List.getElem?_eq_getElem hi, List.getD_eq_getElem?_getD])
    by_cases h0 : i = 0
    · subst h0; simpa [Addr.add] using this
    · simpa [Addr.add, h0] using this
theorem IntSl.below {w w' : World} {v : Value} {xs : List Int} (h : IntSl w v xs) (hb : Below w.heap.size w w') : IntSl w' v xs := by
  rcases h with h | ⟨b, o, c, rfl, hx⟩
  · exact .inl h
  · refine .inr ⟨b, o, c, rfl, fun i hi => ?_⟩
    have h1 := hx i hi
    have hlt : b < w.heap.size := by
      rcases Nat.lt_or_ge b w.heap.size with hlt | hge
      · exact hlt
      · simp [World.cell?, Array.getElem?_eq_none hge] at h1
    exact (hb.cell (p := ⟨b, o + i, none⟩) hlt).trans h1
theorem intsl_at {w : World} {v : Value} {xs : List Int} (h : IntSl w v xs) {k : Nat} (hk : k < xs.length) : ∃ b o cap, v = .slice (some ⟨b, o, none⟩) xs.length cap ∧ w.cell? ⟨b, o + k, none⟩ = some (.int .i64 (xs.getD k 0)) := by
  rcases h with ⟨_, rfl⟩ | ⟨b, o, c, rfl, hx⟩
  · simp at hk
  · exact ⟨b, o, c, rfl, hx k hk⟩
theorem intsl_len {w : World} {v : Value} {xs : List Int} (h : IntSl w v xs) : ∃ p cap, v = .slice p xs.length cap := by
  rcases h with ⟨rfl, rfl⟩ | ⟨b, o, c, rfl, hx⟩ <;> exact ⟨_, _, rfl⟩

end Go.Proofs.YtcalinfdckklfaaGreatDoor
