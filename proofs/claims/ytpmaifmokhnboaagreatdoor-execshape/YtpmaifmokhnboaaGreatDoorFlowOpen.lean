/- What the rows' list gives: the two variables that the calls read; and arguments that are slices, opened. -/
import Derived.Test.YtpmaifmokhnboaaGreatDoorFlowShown
import Derived.Test.YtpmaifmokhnboaaGreatDoorInsTab
import Derived.Test.YtpmaifmokhnboaaGreatDoorInsOpen
import Derived.Test.YtpmaifmokhnboaaGreatDoorRepOpen
import Derived.Stop.LaidErr
namespace Go.Proofs.YtpmaifmokhnboaaGreatDoor
set_option maxRecDepth 20000
open Go.ChangeShapes Go.WideShapes Go.ChangeAt Go.RowKit

def laid8 : List (String × DataW Unit) := [("cupola/ins.shapes", Rows.laid_cupola_ins_shapes), ("cupola/flow.barriers", Rows.laid_cupola_flow_barriers)]
theorem gBar : Tryz.prog.globalNamed "cupola/flow.barriers" = some 1 := by kernel_rfl
theorem tBar : (Tryz.prog.globals[1]?).map (·.type) = some 182 := by kernel_rfl

theorem bar_of {W : World} (h : laidMet Tryz.prog [("cupola/flow.barriers", Rows.laid_cupola_flow_barriers)] W) : Bar W := by
  obtain ⟨ps, ⟨g0, t0, cs0, f0, p0, q0, hg0, ht0, hv0, hd0, _, _⟩, _, _⟩ := h
  obtain rfl := Option.some.inj (gBar.symm.trans hg0)
  obtain rfl := Option.some.inj (tBar.symm.trans ht0)
  obtain ⟨xs, m, _, hx, hlen, hn, hel⟩ := DataW.trod_array Tryz.underlying182 hd0
  rw [cellsInt] at hel
  simp only [Prod.mk.injEq] at hx
  have hx' : xs.map (·.1) = [.lit (.int .i64 3), .lit (.int .i64 4), .lit (.int .i64 5)] := (DataW.agg.inj hx.1).symm
  have at0 : ∀ i, W.cell? ⟨1, i, none⟩ = cs0.toList[i]? := fun i => by rw [World.var?_cell hg0 hv0 i]; simp
  have key : ∀ i (k : Int), i < 3 → (xs.map (·.1))[i]? = some (.lit (.int .i64 k)) → cs0.toList[i]? = some (.int .i64 k) := by
    intro i k hi hk
    rw [List.getElem?_map, Option.map_eq_some_iff] at hk
    obtain ⟨y, hy, hy1⟩ := hk
    have h1 := hel i hi
    rw [hy] at h1
    obtain ⟨a, e, f, _⟩ := DataW.trod_int Tryz.underlying3 h1
    subst f
    simp only [DataW.lit.injEq, Lit.int.injEq, true_and] at hy1
    subst hy1
    have : cs0.toList[i]? = ((cs0.toList.drop (i * 1)).take 1)[0]? := by rw [List.getElem?_take, if_pos (by decide), List.getElem?_drop, Nat.mul_one]; simp
    rw [this, e]
    rfl
  exact ⟨(at0 0).trans (key 0 3 (by decide) (by rw [hx']; rfl)), (at0 1).trans (key 1 4 (by decide) (by rw [hx']; rfl)), (at0 2).trans (key 2 5 (by decide) (by rw [hx']; rfl))⟩
theorem tab_head {W : World} {r : List (String × DataW Unit)} (h : laidMet Tryz.prog (("cupola/ins.shapes", Rows.laid_cupola_ins_shapes) :: r) W) : laidMet Tryz.prog [("cupola/ins.shapes", Rows.laid_cupola_ins_shapes)] W := by
  obtain ⟨ps, ⟨g0, t0, cs0, f0, p0, q0, hg0, ht0, hv0, hd0, _, e0⟩, hnd, hrows⟩ := h
  subst e0
  refine ⟨MemPlace.row ⟨g0, 0, none⟩ cs0.size ++ p0 ++ [], ⟨g0, t0, cs0, f0, p0, [], hg0, ht0, hv0, hd0, rfl, rfl⟩, ?_, fun b off hm => hrows b off ?_⟩
  · rw [List.append_nil]; exact (List.nodup_append.1 hnd).1
  · rw [List.append_nil] at hm; exact List.mem_append_left _ hm
theorem fenv_of {W : World} (h : laidMetH Tryz.prog laid8 W) : FEnv W := by
  unfold laid8 at h
  rw [MakeChecks.laidMetH_plain _ _ _ (by kernel_rfl)] at h
  exact ⟨tab_of (by rw [MakeChecks.laidMetH_plain _ _ _ (by kernel_rfl)]; exact tab_head h), bar_of h.tail⟩

theorem opens_bool {H : Type} {enc : TypeId × Value → H} {P : Program} {W : World} {sp : Nat → Bool} {held : Bool} {t : TypeId} (ht : P.underlying t = some .bool) : Opens enc P W sp held t BoolE := by
  intro m cs y h
  obtain ⟨a, e, _⟩ := DataW.trod_bool ht h
  exact ⟨a, e⟩
theorem opens_ins8 {H : Type} {enc : TypeId × Value → H} {W : World} {sp : Nat → Bool} {held : Bool} : Opens enc Tryz.prog W sp held 84 InsE := by
  intro m cs y h
  obtain ⟨op, d, a, b, l, i, e⟩ := ins_cells h
  exact ⟨⟨op, d, a, b, l, i⟩, e⟩
theorem boolCells : Tryz.prog.cellsOf 4 = 1 := by kernel_rfl
theorem open_sl {α H : Type} {enc : TypeId × Value → H} {W : World} {b0 : Nat} {r : Reach} {sp : Nat → Bool} {held : Bool} {v : Value} {d : DataW H} {p : List MemPlace} {t e : TypeId} {R : Elem α} (ht : Tryz.prog.underlying t = some (.slice e)) (hs : Tryz.prog.cellsOf e = R.size) (hE : Opens enc Tryz.prog W sp held e R)
    (hv : Value.okWide Tryz.prog W r b0 t v) (h : DataW.Trod enc Tryz.prog W 0 sp held t v d p) :
    ∃ q c xs, v = .slice q (xs : List α).length c ∧ Sl R W (.slice q xs.length c) xs := by
  obtain ⟨a, len, cap, rfl⟩ := okWide_slice ht hv
  obtain ⟨fuel, hf⟩ := h
  obtain ⟨xs, v, e, s⟩ := opens_slice ht hs hE _ _ _ hf
  simp only [Value.cells, List.cons.injEq, and_true] at e
  subst e
  obtain ⟨q, c, e⟩ := s.len
  rw [e] at s ⊢
  exact ⟨q, c, xs, rfl, s⟩
theorem open_inss {H : Type} {enc : TypeId × Value → H} {W : World} {b0 : Nat} {r : Reach} {sp : Nat → Bool} {held : Bool} {v : Value} {d : DataW H} {p : List MemPlace} (hv : Value.okWide Tryz.prog W r b0 85 v) (h : DataW.Trod enc Tryz.prog W 0 sp held 85 v d p) :
    ∃ q c xs, v = .slice q (xs : List Ins).length c ∧ Sl InsE W (.slice q xs.length c) xs := open_sl Tryz.underlying85 insCells opens_ins8 hv h
theorem open_i64s {H : Type} {enc : TypeId × Value → H} {W : World} {b0 : Nat} {r : Reach} {sp : Nat → Bool} {held : Bool} {v : Value} {d : DataW H} {p : List MemPlace} (hv : Value.okWide Tryz.prog W r b0 60 v) (h : DataW.Trod enc Tryz.prog W 0 sp held 60 v d p) :
    ∃ q c xs, v = .slice q (xs : List Int).length c ∧ Sl IntE W (.slice q xs.length c) xs := open_sl Tryz.underlying60 int641 (opens_int Tryz.underlying2) hv h
theorem open_bools {H : Type} {enc : TypeId × Value → H} {W : World} {b0 : Nat} {r : Reach} {sp : Nat → Bool} {held : Bool} {v : Value} {d : DataW H} {p : List MemPlace} (hv : Value.okWide Tryz.prog W r b0 127 v) (h : DataW.Trod enc Tryz.prog W 0 sp held 127 v d p) :
    ∃ q c xs, v = .slice q (xs : List Bool).length c ∧ Sl BoolE W (.slice q xs.length c) xs := open_sl Tryz.underlying127 boolCells (opens_bool Tryz.underlying4) hv h
theorem nat8 {n : Int} (h : (Lit.int .u8 n).wf = true) : ∃ x : Nat, n = (x : Int) ∧ x < 256 := by
  obtain ⟨h1, h2⟩ := bounds_u8 h
  exact ⟨n.toNat, by omega, by omega⟩
end Go.Proofs.YtpmaifmokhnboaaGreatDoor
