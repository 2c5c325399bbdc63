/- Contracts of what text calls of the library: strings.Cut at one byte, the Builder, strconv; and text's own small functions over them. -/
import Derived.Test.YtjmcplbhjihepaaDoorShelf
import Derived.Test.YtjmcplbhjihepaaDoorTextMath
import Derived.Test.YtjmcplbhjihepaaDoorInsMay
import Derived.Test.YtjmcplbhjihepaaDoorRep
import Derived.Lib.SmallJoins
namespace Go.Proofs.YtjmcplbhjihepaaDoor
open Go.RowKit

/-- What the calls read of variables. -/
structure Env (w : World) : Prop where
  tab : Tab w
  pow : Lib.TabIs Tryd.prog w "internal/strconv.uint64pow10" .u64 Lib.pow10Tab
  syn : ∃ t p, w.cell? ⟨2, 0, none⟩ = some (.iface t p)
  rng : ∃ t p, w.cell? ⟨3, 0, none⟩ = some (.iface t p)
theorem gPow : Tryd.prog.globalNamed "internal/strconv.uint64pow10" = some 4 := by kernel_rfl
theorem Env.below {w w' : World} (h : Env w) (hb : Below w.heap.size w w') : Env w' := by
  obtain ⟨t1, p1, h1⟩ := h.syn
  obtain ⟨t2, p2, h2⟩ := h.rng
  exact ⟨h.tab.below hb, Go.Joins.var_stays gPow h.pow hb (Nat.le_refl _), ⟨t1, p1, cell_keep h1 hb⟩, ⟨t2, p2, cell_keep h2 hb⟩⟩
/-- The blocks of these variables lie below. -/
def gTop : Nat := Nat.max (Nat.max 0 4) (Nat.max 2 3)
theorem pow_cell {w : World} (h : Lib.TabIs Tryd.prog w "internal/strconv.uint64pow10" .u64 Lib.pow10Tab) : ∃ v, w.cell? ⟨4, 0, none⟩ = some v := ⟨_, h.cell gPow 0 (by decide)⟩
theorem Env.lt {w : World} (h : Env w) : gTop < w.heap.size := by
  obtain ⟨t1, p1, h1⟩ := h.syn
  obtain ⟨t2, p2, h2⟩ := h.rng
  obtain ⟨v, h3⟩ := pow_cell h.pow
  have a1 := cell_lt h1
  have a2 := cell_lt h2
  have a3 := cell_lt h3
  have a4 := cell_lt (h.tab.name 1 (by decide) (by decide))
  exact Nat.max_lt.2 ⟨Nat.max_lt.2 ⟨a4, a3⟩, Nat.max_lt.2 ⟨a1, a2⟩⟩
theorem Env.belowAt {w w' : World} {B : Nat} (h : Env w) (hb : Below B w w') (hB : gTop < B) : Env w' := by
  obtain ⟨t1, p1, h1⟩ := h.syn
  obtain ⟨t2, p2, h2⟩ := h.rng
  have hm := Nat.max_lt.1 hB
  have g0 := (Nat.max_lt.1 hm.1).1
  have g4 := (Nat.max_lt.1 hm.1).2
  have g1 := (Nat.max_lt.1 hm.2).1
  have g2 := (Nat.max_lt.1 hm.2).2
  refine ⟨⟨Nat.lt_of_lt_of_le h.tab.pos hb.size, fun op a b => (hb.cell (p := ⟨_, _, none⟩) g0).trans (h.tab.name op a b), fun op a b => (hb.cell (p := ⟨_, _, none⟩) g0).trans (h.tab.kind op a b), fun op a b => (hb.cell (p := ⟨_, _, none⟩) g0).trans (h.tab.fields op a b)⟩, ?_, ⟨t1, p1, (hb.cell (p := ⟨_, _, none⟩) g1).trans h1⟩, ⟨t2, p2, (hb.cell (p := ⟨_, _, none⟩) g2).trans h2⟩⟩
  have hp := h.pow
  unfold Lib.TabIs World.var? at hp ⊢
  rw [gPow] at hp ⊢
  simp only [Option.bind_some] at hp ⊢
  rw [hb.block _ g4]
  exact hp
theorem Env.alloc {w : World} (h : Env w) (o : Obj) : Env (w.alloc o) := h.below ((Below.refl _ _).alloc (Nat.le_refl _) _)

/-- A text as a value. -/
def strV (l : List UInt8) : Value := .string ⟨l.toArray⟩

theorem cutB_index (c : UInt8) : ∀ l : List UInt8, (Lib.indexByte l c = -1 ∧ cutB c l = (l, [], false)) ∨ ∃ i : Nat, Lib.indexByte l c = i ∧ i < l.length ∧ cutB c l = (l.take i, l.drop (i + 1), true)
  | [] => .inl ⟨rfl, rfl⟩
  | x :: r => by
    unfold Lib.indexByte cutB
    by_cases h : x = c
    · right
      exact ⟨0, by simp [h], by simp, by simp [h]⟩
    · rcases cutB_index c r with ⟨h1, h2⟩ | ⟨i, h1, h2, h3⟩
      · left
        simp [h, h1, h2]
      · right
        refine ⟨i + 1, ?_, by simp; omega, ?_⟩
        · simp only [beq_iff_eq, h, if_false, h1]
          have : ¬ ((i : Int) = -1) := by omega
          simp [this]
        · simp [h, h3]

theorem ext_take (l : List UInt8) (i : Nat) : (⟨l.toArray⟩ : ByteArray).extract 0 i = ⟨(l.take i).toArray⟩ := by
  rw [Lib.extract_eq]; simp
theorem ext_drop (l : List UInt8) (i : Nat) : (⟨l.toArray⟩ : ByteArray).extract i (⟨l.toArray⟩ : ByteArray).size = ⟨(l.drop i).toArray⟩ := by
  rw [Lib.extract_eq]
  simp only [ByteArray.size, List.size_toArray]
  rw [List.take_of_length_le (by simp)]
theorem size_l (l : List UInt8) : (⟨l.toArray⟩ : ByteArray).size = l.length := by simp [ByteArray.size]

set_option maxHeartbeats 1000000 in
theorem sCut_any (l : List UInt8) (c : UInt8) (w : World) (hl : l.length ≤ 1000000) :
    Calls Tryd.prog 32 #[.string ⟨l.toArray⟩, .string ⟨#[c]⟩] w fun e w' => e = .returned (.tuple #[.string ⟨(cutB c l).1.toArray⟩, .string ⟨(cutB c l).2.1.toArray⟩, .bool (cutB c l).2.2]) ∧ Below w.heap.size w w' := by
  rcases cutB_index c l with ⟨h1, h2⟩ | ⟨i, h1, h2, h3⟩
  · rw [h2]
    have H1 : Hid _ := h1
    clear h1 h2
    go_enter Tryd.func32, Tryd.ntmps32
    go_wp2_with (go_at_call 42; refine (Tryd.stringslite_Index_one _ _ _).mono ?_; rintro e w' ⟨rfl, rfl⟩; rw [show Lib.indexByte (⟨l.toArray⟩ : ByteArray).data.toList c = -1 from H1.out])
    go_ret3
    exact ⟨rfl, Below.refl _ _⟩
  · rw [h3]
    have H1 : Hid _ := h1
    have hsz := size_l l
    have c1 : (0 : Int) ≤ ↑i := by omega
    have c2 : (↑i : Int) ≤ ↑(⟨l.toArray⟩ : ByteArray).size := by omega
    have c3 : (0 : Int) ≤ ↑i + 1 := by omega
    have c4 : (↑i + 1 : Int) ≤ ↑(⟨l.toArray⟩ : ByteArray).size := by omega
    have HE : Hid ((⟨l.toArray⟩ : ByteArray).extract 0 i = ⟨(l.take i).toArray⟩ ∧ (⟨l.toArray⟩ : ByteArray).extract (i + 1) (⟨l.toArray⟩ : ByteArray).size = ⟨(l.drop (i + 1)).toArray⟩) := ⟨ext_take l i, ext_drop l (i + 1)⟩
    have HS : Hid ((⟨l.toArray⟩ : ByteArray).data.toList = l) := by simp [Hid]
    clear h1 h3
    generalize (⟨l.toArray⟩ : ByteArray) = s at *
    go_enter Tryd.func32, Tryd.ntmps32
    go_wp2_with (go_at_call 42; refine (Tryd.stringslite_Index_one _ _ _).mono ?_; rintro e w' ⟨rfl, rfl⟩; rw [HS.out, H1.out])
    have mixed : Tryd.prog.follows .mixedOrders = true := by kernel_rfl
    go_region_o
    go_wp2
    go_ret3
    have h2 := HE.out.2
    rw [hsz] at h2
    exact ⟨by rw [← HE.out.1, ← h2]; rfl, (Below.refl _ _).drew⟩
set_option maxHeartbeats 1000000 in
theorem Cut_any (l : List UInt8) (c : UInt8) (w : World) (hl : l.length ≤ 1000000) :
    Calls Tryd.prog 10 #[.string ⟨l.toArray⟩, .string ⟨#[c]⟩] w fun e w' => e = .returned (.tuple #[.string ⟨(cutB c l).1.toArray⟩, .string ⟨(cutB c l).2.1.toArray⟩, .bool (cutB c l).2.2]) ∧ Below w.heap.size w w' := by
  obtain ⟨q, hq⟩ : ∃ q, cutB c l = q := ⟨_, rfl⟩
  rw [hq]
  have HQ : Hid _ := hq
  clear hq
  go_enter Tryd.func10, Tryd.ntmps10
  go_wp2_with (go_at_call 32; refine (sCut_any l c _ hl).mono ?_; rintro e w' ⟨rfl, hb⟩; rw [HQ.out])
  go_ret3
  exact ⟨rfl, hb⟩

/-- A Builder that the call has made, and what it holds. -/
def Bld (w : World) (b : Nat) (l : List UInt8) : Prop := Lib.IsBuilderF 60 5 b b (Lib.byteCells l) w
theorem Bld.lt {w : World} {b : Nat} {l : List UInt8} (h : Bld w b l) : b < w.heap.size := by
  rcases h with h | h <;> exact h.lt
theorem builderAt_keep {T e : TypeId} {B b : Nat} {p : Value} {bs : List Value} {w w' : World} (h : Lib.BuilderAtF T e B b p bs w) (hb : Below w.heap.size w w') : Lib.BuilderAtF T e B b p bs w' := by
  have hlt := h.lt
  obtain ⟨hB, v, hbk, hown, hne⟩ := h
  exact ⟨hB, v, (hb.block b hlt).trans hbk, hown.kept (Below.grownBy hb) (by cases hv : v.ownBlock <;> simp), hne⟩
theorem Bld.keep {w w' : World} {b : Nat} {l : List UInt8} (h : Bld w b l) (hb : Below w.heap.size w w') : Bld w' b l :=
  h.elim (fun h => .inl (builderAt_keep h hb)) (fun h => .inr (builderAt_keep h hb))
theorem Bld.new (w : World) : Bld (w.alloc (.cells #[.pointer none, .slice none 0 0] 60)) w.heap.size [] := Lib.IsBuilderF.of (Lib.fresh_isBuilder _ _ w)
theorem Bld.newAt {w : World} {b : Nat} (h : w.heap.size = b) : Bld (w.alloc (.cells #[.pointer none, .slice none 0 0] 60)) b [] := by subst h; exact Bld.new w

theorem sizeB : (Tryd.prog.info? 60).map (·.size) = some 2 := by kernel_rfl
theorem liesB : liesAt Tryd.prog Tryd.prog.depth 60 (2 / Tryd.prog.cellsOf 60) 0 60 1 = true := by kernel_rfl
theorem infoB : (Tryd.prog.info? 5).map (fun i => (i.zero, i.size, i.bytes)) = some (some (.int .u8 0), 1, 1) := by kernel_rfl

set_option maxHeartbeats 1000000 in
set_option maxRecDepth 100000 in
theorem copyCheck_used (b : Nat) (w : World) (h0 : w.cell? ⟨b, 0, none⟩ = some (.pointer (some ⟨b, 0, none⟩))) :
    Calls Tryd.prog 36 #[.pointer (some ⟨b, 0, none⟩)] w fun e w' => e = .returned (.tuple #[]) ∧ w' = w := by
  obtain ⟨j, hj, _⟩ := Option.map_eq_some_iff.1 sizeB
  go_enter Tryd.func36, Tryd.ntmps36
  go_wp2
  rw [Lib.run_neq_ptr_same w _ Tryd.underlying57 hj]
  go_wp2
  go_end0
  exact ⟨rfl, rfl⟩
set_option maxHeartbeats 1000000 in
set_option maxRecDepth 100000 in
theorem copyCheck_fresh (b : Nat) (w : World) (h0 : w.cell? ⟨b, 0, none⟩ = some (.pointer none)) (hsh : w.shape? b = some (60, 2)) (hfz : w.frozen? ⟨b, 0, none⟩ = false) :
    Calls Tryd.prog 36 #[.pointer (some ⟨b, 0, none⟩)] w fun e w' => e = .returned (.tuple #[]) ∧ w' = w.setCell ⟨b, 0, none⟩ (.pointer (some ⟨b, 0, none⟩)) := by
  obtain ⟨j, hj, hjs⟩ := Option.map_eq_some_iff.1 sizeB
  go_enter Tryd.func36, Tryd.ntmps36
  go_wp2
  rw [Lib.run_to_unsafe w ⟨b, 0, none⟩ Tryd.underlying57 Tryd.underlying95 hj (by rw [hjs]; decide) hsh (Nat.zero_lt_succ 1)]
  simp only [Result.andThen]
  rw [Oper.upon_value]
  go_wp2
  rw [run_callFunc_extern Tryd.func50 (by kernel_rfl) (by kernel_rfl) (by kernel_rfl) (e := Extern.AbiNoEscape.same) (by kernel_rfl)]
  rw [Lib.run_noEscape]
  simp only [Result.andThen]
  rw [Oper.upon_value]
  go_wp2
  rw [Lib.run_from_unsafe w ⟨b, 0, none⟩ Tryd.underlying95 Tryd.underlying57 hj hsh liesB]
  simp only [Result.andThen]
  rw [Oper.upon_value]
  go_wp2
  go_end0
  exact ⟨rfl, rfl⟩
theorem copyCheck_any (b : Nat) (l : List UInt8) (w : World) (h : Bld w b l) :
    Calls Tryd.prog 36 #[.pointer (some ⟨b, 0, none⟩)] w fun e w' => e = .returned (.tuple #[]) ∧ Lib.BuilderAtF 60 5 b b (.pointer (some ⟨b, 0, none⟩)) (Lib.byteCells l) w' ∧ Below b w w' := by
  rcases h with h | h
  · refine (copyCheck_fresh b w h.cell0 h.shape h.frozen0).mono ?_
    rintro e w' ⟨rfl, rfl⟩
    exact ⟨rfl, h.used _, (Below.refl b w).setCell (p := ⟨b, 0, none⟩) h.1 _⟩
  · refine (copyCheck_used b w h.cell0).mono ?_
    rintro e w' ⟨rfl, rfl⟩
    exact ⟨rfl, h, Below.refl b _⟩

theorem strCells_l (l : List UInt8) : Lib.strCells ⟨l.toArray⟩ = Lib.byteCells l := by simp [Lib.strCells, Lib.byteCells]
set_option maxHeartbeats 2000000 in
set_option maxRecDepth 100000 in
theorem WriteString_any (b : Nat) (l r : List UInt8) (w : World) (h : Bld w b l) (hlen : l.length + r.length ≤ 1000000) :
    Calls Tryd.prog 26 #[.pointer (some ⟨b, 0, none⟩), .string ⟨r.toArray⟩] w fun e w' => e = .returned (.tuple #[.int .i64 r.length, .nilIface]) ∧ Bld w' b (l ++ r) ∧ Below b w w' := by
  have hsz := size_l r
  have hbw := h.lt
  have HC : Hid (Lib.strCells ⟨r.toArray⟩ = Lib.byteCells r) := strCells_l r
  generalize (⟨r.toArray⟩ : ByteArray) = s at *
  obtain ⟨i0, hi, hz⟩ := Option.map_eq_some_iff.1 infoB
  simp only [Prod.mk.injEq] at hz
  obtain ⟨hz0, hz1, hz2⟩ := hz
  go_enter Tryd.func26, Tryd.ntmps26
  go_wp2_with (go_at_call 36; refine (copyCheck_any b l _ h).mono ?_)
  rintro e w1 ⟨rfl, h1, hb1⟩
  obtain ⟨hB, v, hbk, hown, hne⟩ := h1
  have c0 : w1.cell? ⟨b, 0, none⟩ = some (.pointer (some ⟨b, 0, none⟩)) := by rw [Lib.cell_of_heap hbk]; rfl
  have c1 : w1.cell? ⟨b, 1, none⟩ = some v := by rw [Lib.cell_of_heap hbk]; rfl
  rw [Lib.byteCells_length] at hown
  go_wp2_with (at_builtin; refine Lib.wpList_append_own_stringF _ rfl _ _ 58 9 rfl b 5 i0 Tryd.underlying58 Tryd.underlying9 hi hz0 hz1 hz2 _ _ _ rfl hown s rfl ?c3 ?c4 ?c5 ?_)
  case c3 => unfold maxLen; omega
  case c4 => omega
  case c5 => have := hb1.size; omega
  intro v' w2 hown' hgrow _
  have hlt : b < w1.heap.size := by have := hb1.size; omega
  have hb2 : w2.heap[b]? = some (.cells #[.pointer (some ⟨b, 0, none⟩), v] 60 (0, 0)) := by
    rw [hgrow.block b hlt (fun e => hne e.symm)]
    exact hbk
  have d0 : w2.cell? ⟨b, 0, none⟩ = some (.pointer (some ⟨b, 0, none⟩)) := by rw [Lib.cell_of_heap hb2]; rfl
  have d1 : w2.cell? ⟨b, 1, none⟩ = some v := by rw [Lib.cell_of_heap hb2]; rfl
  have f1 : w2.frozen? ⟨b, 1, none⟩ = false := Lib.frozen_of_heap hb2 1
  obtain ⟨ao, n', cap, rfl⟩ : ∃ ao n' cap, v' = .slice ao n' cap := by
    rcases hown'.2 with ⟨hv, _⟩ | ⟨g, cap, cur, fz, hv, _⟩
    · exact ⟨_, _, _, hv⟩
    · exact ⟨_, _, _, hv⟩
  go_wp2
  go_ret2
  refine ⟨rfl, .inr ?_, ?_⟩
  · refine Lib.BuilderAtF.put (T := 60) (e := 5) hB hb2 (bs' := Lib.byteCells (l ++ r)) ?_ (by decide)
    rw [Lib.byteCells_append, ← HC.out]
    rw [show (Lib.byteCells l ++ Lib.strCells s).length = l.length + r.length by simp [Lib.strCells_length, Lib.byteCells_length, hsz]]
    exact hown'
  · exact (hb1.grown hgrow (by have := hb1.size; omega) (fun k hk => (hown.lt k hk).1)).setCell (p := ⟨b, 1, none⟩) hB _
theorem String_any (b : Nat) (l : List UInt8) (w : World) (h : Bld w b l) :
    Calls Tryd.prog 28 #[.pointer (some ⟨b, 0, none⟩)] w fun e w' => e = .returned (.string ⟨l.toArray⟩) ∧ Below b w w' :=
  (Tryd.Builder_String_any_k b b l w h (Nat.le_of_lt h.lt)).mono fun _ _ ⟨h1, _, h2, _⟩ => ⟨h1, h2⟩

theorem grow_below (w : World) (k : Nat) (os : Array Obj) : Below w.heap.size w (Sort.grow (w.drewN k) os) :=
  ⟨rfl, rfl, rfl, by simp [Sort.grow, World.drewN], fun i hi => by
    show (w.heap ++ os)[i]? = _
    rw [Array.getElem?_append_left hi]⟩

/-- strconv's two. -/
theorem FormatInt_any (n : Int) (h : in64 n) (w : World) (E : Env w) :
    Calls Tryd.prog 37 #[.int .i64 n, .int .i64 10] w fun e w' => e = .returned (.string ⟨(Lib.itoa n).toArray⟩) ∧ Below w.heap.size w w' :=
  (Tryd.strconv_FormatInt_10 n h.1 h.2 w E.pow).mono fun _ _ ⟨h1, k, os, h2⟩ => ⟨h1, by rw [h2]; exact grow_below w k os⟩
theorem data_l (l : List UInt8) : (⟨l.toArray⟩ : ByteArray).data.toList = l := by simp
theorem ParseInt_any (l : List UInt8) (w : World) (E : Env w) (hl : l.length ≤ 1000000) :
    Calls Tryd.prog 34 #[.string ⟨l.toArray⟩, .int .i64 10, .int .i64 64] w fun e w' => ∃ v, e = .returned (.tuple #[.int .i64 (numOf l), v]) ∧ Below w.heap.size w w' := by
  have hs := size_l l
  cases h : Lib.parseIntB 64 l with
  | ok v =>
    have e : numOf l = v := by unfold numOf; rw [h]
    rw [e]
    refine (Tryd.strconv_ParseInt_10_at64_ok ⟨l.toArray⟩ (by omega) v (by rw [data_l]; exact h) w).mono ?_
    rintro e w' ⟨rfl, rfl | ⟨t, rfl⟩⟩
    · exact ⟨_, rfl, Below.refl _ _⟩
    · exact ⟨_, rfl, Go.Joins.below_bytesWorld _ _ _ _ (Nat.le_refl _)⟩
  | «syntax» =>
    have e : numOf l = 0 := by unfold numOf; rw [h]
    rw [e]
    obtain ⟨t, p, hv⟩ := E.syn
    refine (Tryd.strconv_ParseInt_10_at64_syntax ⟨l.toArray⟩ (by omega) (by rw [data_l]; exact h) _ w hv (.inr ⟨t, p, rfl⟩)).mono ?_
    rintro e w' ⟨N, rfl, _, _, hb⟩
    exact ⟨_, rfl, hb⟩
  | range =>
    have e : numOf l = Lib.intSat 64 (⟨l.toArray⟩ : ByteArray).data.toList := by unfold numOf; rw [h, data_l]
    rw [e]
    obtain ⟨t, p, hv⟩ := E.rng
    refine (Tryd.strconv_ParseInt_10_at64_range ⟨l.toArray⟩ (by omega) (by rw [data_l]; exact h) _ w hv (.inr ⟨t, p, rfl⟩)).mono ?_
    rintro e w' ⟨N, rfl, _, _, hb⟩
    exact ⟨_, rfl, hb⟩

set_option maxHeartbeats 1000000 in
theorem number_any (l : List UInt8) (w : World) (E : Env w) (hl : l.length ≤ 1000000) :
    Calls Tryd.prog 14 #[.string ⟨l.toArray⟩] w fun e w' => e = .returned (.tuple #[.int .i64 (numOf (cutB 32 l).1), .string ⟨(cutB 32 l).2.1.toArray⟩]) ∧ Below w.heap.size w w' := by
  have hcl := (cutB_len 32 l).1
  obtain ⟨q, hq⟩ : ∃ q, cutB 32 l = q := ⟨_, rfl⟩
  rw [hq] at hcl ⊢
  have HQ : Hid _ := hq
  clear hq
  go_enter Tryd.func14, Tryd.ntmps14
  go_wp2_with (go_at_call 10; refine (Cut_any l 32 _ hl).mono ?_; rintro e w1 ⟨rfl, hb1⟩; rw [HQ.out])
  go_wp2_with (go_at_call 34; refine (ParseInt_any q.1 _ (E.below hb1) (by omega)).mono ?_; rintro e w2 ⟨v, rfl, hb2⟩)
  go_ret2
  exact ⟨rfl, Below.thru hb1 hb2 (Nat.le_refl _)⟩
set_option maxHeartbeats 1000000 in
theorem writeNumber_any (b : Nat) (l : List UInt8) (n : Int) (w : World) (E : Env w) (hn : in64 n) (h : Bld w b l) (hlen : l.length ≤ 900000) (hg : gTop < b) :
    Calls Tryd.prog 27 #[.pointer (some ⟨b, 0, none⟩), .int .i64 n] w fun e w' => e = .returned (.tuple #[]) ∧ Bld w' b (l ++ figs n) ∧ Below b w w' := by
  have hi := itoa_len hn
  go_enter Tryd.func27, Tryd.ntmps27
  go_wp2_with (go_at_call 26; refine (WriteString_any b l [32] _ h (by simp; omega)).mono ?_; rintro e w1 ⟨rfl, h1, hb1⟩)
  go_wp2_with (go_at_call 37; refine (FormatInt_any n hn _ (E.belowAt hb1 hg)).mono ?_; rintro e w2 ⟨rfl, hb2⟩)
  go_wp2_with (go_at_call 26; refine (WriteString_any b (l ++ [32]) (Lib.itoa n) _ (h1.keep hb2) (by simp; omega)).mono ?_; rintro e w3 ⟨rfl, h3, hb3⟩)
  go_end0
  refine ⟨rfl, ?_, (hb1.trans (hb2.mono (Nat.le_of_lt h1.lt))).trans hb3⟩
  rw [List.append_assoc] at h3
  exact h3
end Go.Proofs.YtjmcplbhjihepaaDoor
