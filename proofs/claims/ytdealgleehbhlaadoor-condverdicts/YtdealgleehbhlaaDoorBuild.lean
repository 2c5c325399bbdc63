/- Contracts of what a program calls of the library to write texts: the Builder, strconv.FormatInt and Itoa. -/
import Derived.Test.YtdealgleehbhlaaDoorShelf
import Derived.Test.YtdealgleehbhlaaDoorFigs
import Derived.Test.YtdealgleehbhlaaDoorRep
import Derived.Lib.SmallJoins
namespace Go.Proofs.YtdealgleehbhlaaDoor
open Go.RowKit

/-- The table of powers of ten, as the calls read it. -/
def Pow (w : World) : Prop := Lib.TabIs Tryd.prog w "internal/strconv.uint64pow10" .u64 Lib.pow10Tab
theorem gPow : Tryd.prog.globalNamed "internal/strconv.uint64pow10" = some 0 := by kernel_rfl
theorem Pow.below {w w' : World} (h : Pow w) (hb : Below w.heap.size w w') : Pow w' := Go.Joins.var_stays gPow h hb (Nat.le_refl _)
def gTop : Nat := 0
theorem Pow.lt {w : World} (h : Pow w) : gTop < w.heap.size := cell_lt (h.cell gPow 0 (by decide))
theorem Pow.belowAt {w w' : World} {B : Nat} (h : Pow w) (hb : Below B w w') (hB : gTop < B) : Pow w' := by
  unfold Pow Lib.TabIs World.var? at h ⊢
  rw [gPow] at h ⊢
  simp only [Option.bind_some] at h ⊢
  rw [show w'.heap[0]? = w.heap[0]? from hb.block _ hB]
  exact h

/-- A Builder that the call has made, and what it holds. -/
def Bld (w : World) (b : Nat) (l : List UInt8) : Prop := Lib.IsBuilderF 60 5 b b (Lib.byteCells l) w
theorem Bld.lt {w : World} {b : Nat} {l : List UInt8} (h : Bld w b l) : b < w.heap.size := by
  rcases h with h | h <;> exact h.lt
theorem builderAt_keep {T e : TypeId} {B b : Nat} {p : Value} {bs : List Value} {w w' : World} (h : Lib.BuilderAtF T e B b p bs w) (hb : Below w.heap.size w w') : Lib.BuilderAtF T e B b p bs w' := by
  have hlt := h.lt
  obtain ⟨hB, v, hbk, hown, hne⟩ := h
  exact ⟨hB, v, (hb.block b hlt).trans hbk, hown.kept (Below.grownBy hb) (by cases hv : v.ownBlock <;> simp), hne⟩
theorem Bld.keep {w w' : World} {b : Nat} {l : List UInt8} (h : Bld w b l) (hb : Below w.heap.size w w') : Bld w' b l :=
  h.elim (fun h => .inl (builderAt_keep h hb)) (fun h => .inr (builderAt_keep h hb))
theorem Bld.new (w : World) : Bld (w.alloc (.cells #[.pointer none, .slice none 0 0] 60)) w.heap.size [] := Lib.IsBuilderF.of (Lib.fresh_isBuilder _ _ w)
theorem Bld.newAt {w : World} {b : Nat} (h : w.heap.size = b) : Bld (w.alloc (.cells #[.pointer none, .slice none 0 0] 60)) b [] := by subst h; exact Bld.new w

theorem sizeB : (Tryd.prog.info? 60).map (·.size) = some 2 := by kernel_rfl
theorem liesB : liesAt Tryd.prog Tryd.prog.depth 60 (2 / Tryd.prog.cellsOf 60) 0 60 1 = true := by kernel_rfl
theorem infoB : (Tryd.prog.info? 5).map (fun i => (i.zero, i.size, i.bytes)) = some (some (.int .u8 0), 1, 1) := by kernel_rfl

set_option maxHeartbeats 1000000 in
set_option maxRecDepth 100000 in
theorem copyCheck_used (b : Nat) (w : World) (h0 : w.cell? ⟨b, 0, none⟩ = some (.pointer (some ⟨b, 0, none⟩))) :
    Calls Tryd.prog 40 #[.pointer (some ⟨b, 0, none⟩)] w fun e w' => e = .returned (.tuple #[]) ∧ w' = w := by
  obtain ⟨j, hj, _⟩ := Option.map_eq_some_iff.1 sizeB
  go_enter Tryd.func40, Tryd.ntmps40
  go_wp2
  rw [Lib.run_neq_ptr_same w _ Tryd.underlying57 hj]
  go_wp2
  go_end0
  exact ⟨rfl, rfl⟩
set_option maxHeartbeats 1000000 in
set_option maxRecDepth 100000 in
theorem copyCheck_fresh (b : Nat) (w : World) (h0 : w.cell? ⟨b, 0, none⟩ = some (.pointer none)) (hsh : w.shape? b = some (60, 2)) (hfz : w.frozen? ⟨b, 0, none⟩ = false) :
    Calls Tryd.prog 40 #[.pointer (some ⟨b, 0, none⟩)] w fun e w' => e = .returned (.tuple #[]) ∧ w' = w.setCell ⟨b, 0, none⟩ (.pointer (some ⟨b, 0, none⟩)) := by
  obtain ⟨j, hj, hjs⟩ := Option.map_eq_some_iff.1 sizeB
  go_enter Tryd.func40, Tryd.ntmps40
  go_wp2
  rw [Lib.run_to_unsafe w ⟨b, 0, none⟩ Tryd.underlying57 Tryd.underlying87 hj (by rw [hjs]; decide) hsh (Nat.zero_lt_succ 1)]
  simp only [Result.andThen]
  rw [Oper.upon_value]
  go_wp2
  rw [run_callFunc_extern Tryd.func51 (by kernel_rfl) (by kernel_rfl) (by kernel_rfl) (e := Extern.AbiNoEscape.same) (by kernel_rfl)]
  rw [Lib.run_noEscape]
  simp only [Result.andThen]
  rw [Oper.upon_value]
  go_wp2
  rw [Lib.run_from_unsafe w ⟨b, 0, none⟩ Tryd.underlying87 Tryd.underlying57 hj hsh liesB]
  simp only [Result.andThen]
  rw [Oper.upon_value]
  go_wp2
  go_end0
  exact ⟨rfl, rfl⟩
/-- What a call that writes to the Builder in b leaves alone: all below b, and every other variable's block of another type. -/
structure KeptB (b : Nat) (w w' : World) : Prop where
  below : Below b w w'
  box : ∀ k cs t fz, k ≠ b → t ≠ 5 → w.heap[k]? = some (.cells cs t fz) → w'.heap[k]? = some (.cells cs t fz)
theorem KeptB.refl (b : Nat) (w : World) : KeptB b w w := ⟨Below.refl _ _, fun _ _ _ _ _ _ h => h⟩
theorem KeptB.trans {b : Nat} {a c d : World} (h : KeptB b a c) (k : KeptB b c d) : KeptB b a d := ⟨h.below.trans k.below, fun i cs t fz h1 h2 h3 => k.box i cs t fz h1 h2 (h.box i cs t fz h1 h2 h3)⟩
theorem KeptB.of {b : Nat} {w w' : World} (h : Below w.heap.size w w') (hb : b ≤ w.heap.size) : KeptB b w w' := ⟨h.mono hb, fun k cs t fz _ _ h3 => by
  rw [h.block k (by
    rcases Nat.lt_or_ge k w.heap.size with g | g
    · exact g
    · rw [Array.getElem?_eq_none g] at h3; cases h3)]
  exact h3⟩
theorem KeptB.blk {b k : Nat} {w w' : World} {cs : Array Value} {t : TypeId} (h : KeptB b w w') (hk : Blk w k cs t) (h1 : k ≠ b) (h2 : t ≠ 5) : Blk w' k cs t := h.box k cs t (0, 0) h1 h2 hk
theorem KeptB.set {b i : Nat} {w : World} (v : Value) : KeptB b w (w.setCell ⟨b, i, none⟩ v) :=
  ⟨(Below.refl b w).setCell (p := ⟨b, i, none⟩) (Nat.le_refl _) _, fun k cs t fz h1 _ h3 => by rw [Below.heap_setCell _ _ _ _ (fun e => h1 e)]; exact h3⟩
theorem copyCheck_any (b : Nat) (l : List UInt8) (w : World) (h : Bld w b l) :
    Calls Tryd.prog 40 #[.pointer (some ⟨b, 0, none⟩)] w fun e w' => e = .returned (.tuple #[]) ∧ Lib.BuilderAtF 60 5 b b (.pointer (some ⟨b, 0, none⟩)) (Lib.byteCells l) w' ∧ KeptB b w w' := by
  rcases h with h | h
  · refine (copyCheck_fresh b w h.cell0 h.shape h.frozen0).mono ?_
    rintro e w' ⟨rfl, rfl⟩
    exact ⟨rfl, h.used _, KeptB.set _⟩
  · refine (copyCheck_used b w h.cell0).mono ?_
    rintro e w' ⟨rfl, rfl⟩
    exact ⟨rfl, h, KeptB.refl b _⟩

theorem strCells_l (l : List UInt8) : Lib.strCells ⟨l.toArray⟩ = Lib.byteCells l := by simp [Lib.strCells, Lib.byteCells]
set_option maxHeartbeats 2000000 in
set_option maxRecDepth 100000 in
theorem WriteString_any (b : Nat) (l r : List UInt8) (w : World) (h : Bld w b l) (hlen : l.length + r.length ≤ 1000000) :
    Calls Tryd.prog 27 #[.pointer (some ⟨b, 0, none⟩), .string ⟨r.toArray⟩] w fun e w' => e = .returned (.tuple #[.int .i64 r.length, .nilIface]) ∧ Bld w' b (l ++ r) ∧ KeptB b w w' := by
  have hsz := size_l r
  have hbw := h.lt
  have HC : Hid (Lib.strCells ⟨r.toArray⟩ = Lib.byteCells r) := strCells_l r
  generalize (⟨r.toArray⟩ : ByteArray) = s at *
  obtain ⟨i0, hi, hz⟩ := Option.map_eq_some_iff.1 infoB
  simp only [Prod.mk.injEq] at hz
  obtain ⟨hz0, hz1, hz2⟩ := hz
  go_enter Tryd.func27, Tryd.ntmps27
  go_wp2_with (go_at_call 40; refine (copyCheck_any b l _ h).mono ?_)
  rintro e w1 ⟨rfl, h1, hk1⟩
  have hb1 := hk1.below
  obtain ⟨hB, v, hbk, hown, hne⟩ := h1
  have c0 : w1.cell? ⟨b, 0, none⟩ = some (.pointer (some ⟨b, 0, none⟩)) := by rw [Lib.cell_of_heap hbk]; rfl
  have c1 : w1.cell? ⟨b, 1, none⟩ = some v := by rw [Lib.cell_of_heap hbk]; rfl
  rw [Lib.byteCells_length] at hown
  go_wp2_with (at_builtin; refine Lib.wpList_append_own_stringF _ rfl _ _ 58 9 rfl b 5 i0 Tryd.underlying58 Tryd.underlying9 hi hz0 hz1 hz2 _ _ _ rfl hown s rfl ?c3 ?c4 ?c5 ?_)
  case c3 => unfold maxLen; omega
  case c4 => omega
  case c5 => have := hb1.size; omega
  intro v' w2 hown' hgrow _
  have hlt : b < w1.heap.size := by have := hb1.size; omega
  have hb2 : w2.heap[b]? = some (.cells #[.pointer (some ⟨b, 0, none⟩), v] 60 (0, 0)) := by
    rw [hgrow.block b hlt (fun e => hne e.symm)]
    exact hbk
  have d0 : w2.cell? ⟨b, 0, none⟩ = some (.pointer (some ⟨b, 0, none⟩)) := by rw [Lib.cell_of_heap hb2]; rfl
  have d1 : w2.cell? ⟨b, 1, none⟩ = some v := by rw [Lib.cell_of_heap hb2]; rfl
  have f1 : w2.frozen? ⟨b, 1, none⟩ = false := Lib.frozen_of_heap hb2 1
  obtain ⟨ao, n', cap, rfl⟩ : ∃ ao n' cap, v' = .slice ao n' cap := by
    rcases hown'.2 with ⟨hv, _⟩ | ⟨g, cap, cur, fz, hv, _⟩
    · exact ⟨_, _, _, hv⟩
    · exact ⟨_, _, _, hv⟩
  go_wp2
  go_ret2
  refine ⟨rfl, .inr ?_, ?_⟩
  · refine Lib.BuilderAtF.put (T := 60) (e := 5) hB hb2 (bs' := Lib.byteCells (l ++ r)) ?_ (by decide)
    rw [Lib.byteCells_append, ← HC.out]
    rw [show (Lib.byteCells l ++ Lib.strCells s).length = l.length + r.length by simp [Lib.strCells_length, Lib.byteCells_length, hsz]]
    exact hown'
  · refine (hk1.trans ⟨(Below.refl b w1).grown hgrow (by have := hb1.size; omega) (fun k hk => (hown.lt k hk).1), fun k cs t fz g1 g2 g3 => ?_⟩).trans (KeptB.set _)
    rw [hgrow.block k (by
      rcases Nat.lt_or_ge k w1.heap.size with g | g
      · exact g
      · rw [Array.getElem?_eq_none g] at g3; cases g3) (fun e => Lib.ownBlock_neF hown g3 g2 e.symm)]
    exact g3
theorem String_any (b : Nat) (l : List UInt8) (w : World) (h : Bld w b l) :
    Calls Tryd.prog 29 #[.pointer (some ⟨b, 0, none⟩)] w fun e w' => e = .returned (.string ⟨l.toArray⟩) ∧ Below b w w' :=
  (Tryd.Builder_String_any_k b b l w h (Nat.le_of_lt h.lt)).mono fun _ _ ⟨h1, _, h2, _⟩ => ⟨h1, h2⟩

theorem grow_below (w : World) (k : Nat) (os : Array Obj) : Below w.heap.size w (Sort.grow (w.drewN k) os) :=
  ⟨rfl, rfl, rfl, by simp [Sort.grow, World.drewN], fun i hi => by
    show (w.heap ++ os)[i]? = _
    rw [Array.getElem?_append_left hi]⟩

theorem FormatInt_any (n : Int) (h : in64 n) (w : World) (E : Pow w) :
    Calls Tryd.prog 53 #[.int .i64 n, .int .i64 10] w fun e w' => e = .returned (.string ⟨(Lib.itoa n).toArray⟩) ∧ Below w.heap.size w w' :=
  (Tryd.strconv_FormatInt_10 n h.1 h.2 w E).mono fun _ _ ⟨h1, k, os, h2⟩ => ⟨h1, by rw [h2]; exact grow_below w k os⟩
theorem Itoa_any (n : Int) (h : in64 n) (w : World) (E : Pow w) :
    Calls Tryd.prog 52 #[.int .i64 n] w fun e w' => e = .returned (.string ⟨(Lib.itoa n).toArray⟩) ∧ Below w.heap.size w w' :=
  (Tryd.strconv_Itoa n h.1 h.2 w E).mono fun _ _ ⟨h1, k, os, h2⟩ => ⟨h1, by rw [h2]; exact grow_below w k os⟩
end Go.Proofs.YtdealgleehbhlaaDoor
