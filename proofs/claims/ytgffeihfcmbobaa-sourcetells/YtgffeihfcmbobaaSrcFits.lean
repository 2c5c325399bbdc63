/- Contracts of source.Fits and source.Rf. -/
import Derived.Test.YtgffeihfcmbobaaSrcMay2
import Derived.Test.YtgffeihfcmbobaaSrcG
namespace Go.Proofs.Ytgffeihfcmbobaa
open Go.RowKit
attribute [local go_sem] Ext.cell Ext.frozen

theorem mayRB_mem {l : List Ev} {init : List Int} {x : Ev} (hx : x.kd = 1) (z : Int) : mayRB l init x z = true ↔ z ∈ mayE l init x := by
  unfold mayRB
  rw [show (x.kd == 1) = true by simp [hx], Bool.true_and, mem_mayE]
  by_cases hz : z = -1
  · rw [if_pos hz]
    constructor
    · exact fun h => .inl ⟨hz, h⟩
    · rintro (⟨_, h⟩ | ⟨i, y, _, _, rfl⟩)
      · exact h
      · omega
  · rw [if_neg hz]
    unfold isEvB
    constructor
    · intro h
      simp only [Bool.and_eq_true, decide_eq_true_eq] at h
      obtain ⟨⟨h0, h1⟩, h2⟩ := h
      have hl : z.toNat < l.length := by omega
      rw [List.getElem?_eq_getElem hl] at h2
      exact .inr ⟨z.toNat, _, List.getElem?_eq_getElem hl, h2, by omega⟩
    · rintro (⟨h, _⟩ | ⟨i, y, hi, hw, rfl⟩)
      · exact absurd h hz
      · have hl : i < l.length := by
          rcases Nat.lt_or_ge i l.length with h | h
          · exact h
          · rw [List.getElem?_eq_none h] at hi; cases hi
        rw [decide_eq_true (by omega), decide_eq_true (by omega), Int.toNat_natCast, hi]
        exact hw
/-- What a number of a way may be, at an event. -/
def okFrom (l : List Ev) (init : List Int) (x : Ev) (z : Int) : Bool := if x.kd == 1 then mayRB l init x z else z == -2
theorem okFrom_mem {l : List Ev} {init : List Int} {x : Ev} {z : Int} : okFrom l init x z = true ↔ z ∈ choE l init x := by
  unfold okFrom choE
  by_cases hx : x.kd = 1
  · rw [if_pos (by simp [hx]), if_pos (by simp [hx])]
    exact mayRB_mem hx z
  · rw [if_neg (by simp [hx]), if_neg (by simp [hx])]
    simp
def okTo (l : List Ev) (init from_ : List Int) (k : Nat) : Prop := ∀ (i : Nat) (x : Ev) (z : Int), i < k → l[i]? = some x → from_[i]? = some z → okFrom l init x z = true
theorem okTo_next {l : List Ev} {init from_ : List Int} {k : Nat} {x : Ev} {z : Int} (h : okTo l init from_ k) (hx : l[k]? = some x) (hz : from_[k]? = some z) (hk : okFrom l init x z = true) : okTo l init from_ (k + 1) := by
  intro i y t hi hy ht
  rcases Nat.lt_or_ge i k with h1 | h1
  · exact h i y t h1 hy ht
  · obtain rfl : i = k := by omega
    rw [hx] at hy
    rw [hz] at ht
    cases hy
    cases ht
    exact hk
theorem fits_of {l : List Ev} {init from_ : List Int} (hl : from_.length = l.length) (h : okTo l init from_ l.length) : fitsZ l init from_ = true :=
  fits_iff.2 ⟨hl, fun i x z hx hz => okFrom_mem.1 (h i x z (by
    rcases Nat.lt_or_ge i l.length with h | h
    · exact h
    · rw [List.getElem?_eq_none h] at hx; cases hx) hx hz)⟩
theorem fits_not {l : List Ev} {init from_ : List Int} {k : Nat} {x : Ev} {z : Int} (hx : l[k]? = some x) (hz : from_[k]? = some z) (hk : okFrom l init x z = false) : fitsZ l init from_ = false := by
  rw [Bool.eq_false_iff]
  intro h
  have := okFrom_mem.2 ((fits_iff.1 h).2 k x z hx hz)
  rw [hk] at this
  cases this
theorem fits_len {l : List Ev} {init from_ : List Int} (h : from_.length ≠ l.length) : fitsZ l init from_ = false := by
  unfold fitsZ
  rw [decide_eq_false h]
  rfl

set_option maxRecDepth 20000 in
set_option maxHeartbeats 8000000 in
theorem Fits_any (v : Value) (r : Nat → Value) (q pi pf : Option Addr) (c ci cf : Nat) (l : List Ev) (init from_ : List Int) (w : World) (hv : v = .slice q l.length c) (hl : Sl EvE w (.slice q l.length c) l) (hi : Sl IntE w (.slice pi init.length ci) init) (hf : Sl IntE w (.slice pf from_.length cf) from_) (hn : l.length ≤ 1000) (_ : from_.length ≤ 1000000) :
    Calls Try.prog 18 #[exV v r, .slice pi init.length ci, .slice pf from_.length cf] w fun e w' => e = .returned (.bool (fitsZ l init from_)) ∧ Below w.heap.size w w' := by
  subst hv
  obtain ⟨w1, hw1⟩ : ∃ w1, w.alloc (.cells #[.slice q l.length c, r 1, r 2, r 3, r 4, r 5, r 6] 30) = w1 := ⟨_, rfl⟩
  have k1 : Blk w1 w.heap.size #[.slice q l.length c, r 1, r 2, r 3, r 4, r 5, r 6] 30 := by rw [← hw1]; exact Blk.new
  have b1 : Below w.heap.size w w1 := by rw [← hw1]; exact below_new _ _
  have c0 := (ex_cells k1).1
  have lc := k1.lt
  unfold exV
  by_cases hlen : from_.length = l.length
  · have hlb : ((from_.length : Int) != (l.length : Int)) = false := by rw [hlen]; simp
    have HLE : Hid _ := hlen
    clear hlen
    go_enter Try.func18, Try.ntmps18
    go_wp2
    go_loopw [19] (fun i wr => ∃ k : Nat, k ≤ l.length ∧ i = .int .i64 k ∧ okTo l init from_ k ∧ Below w1.heap.size w1 wr) (fun i _ => l.length - (Go.RowKit.intOf i).toNat)
    case atStart => exact ⟨0, Nat.zero_le _, rfl, fun i _ _ h => absurd h (Nat.not_lt_zero i), Below.refl _ _⟩
    case round =>
      obtain ⟨k, hk, rfl, hok, hbr⟩ := hrel
      have HOK : Hid _ := hok
      clear hok
      have Br := Below.thru b1 hbr (Nat.le_refl _)
      obtain ⟨q0, q1, q2, q3, q4, q5, q6⟩ := ex_cells (k1.keep hbr)
      by_cases hlt : k < l.length
      · have hlt' : (k : Int) < (l.length : Int) := by omega
        have hltf : k < from_.length := by rw [HLE.out]; exact hlt
        have hltf' : (k : Int) < (from_.length : Int) := by omega
        obtain ⟨eb, eo, rfl, g0, g1, g2, g3, g4, g5, g6⟩ := (ev_at (hl.keep Br)).2 k hlt
        obtain ⟨fb, fo, rfl, f0⟩ := (ints_at (hf.keep Br)).2 k hltf
        have hnx := fun h => okTo_next HOK.out (List.getElem?_eq_getElem hlt) (List.getElem?_eq_getElem hltf) h
        have hno := fun h => fits_not (init := init) (List.getElem?_eq_getElem hlt) (List.getElem?_eq_getElem hltf) h
        generalize l[k] = x at *
        generalize from_[k] = z at *
        have lg := cell_lt g0
        have lf := cell_lt f0
        have lq := cell_lt q0
        have HNX : Hid _ := hnx
        have HNO : Hid _ := hno
        have hne : ∀ w, Nonempty (Ext w) := ext_some
        clear hnx hno
        have F1 := trivial
        by_cases hx : x.kd = 1
        · have hx1 : (x.kd == 1) = true := by simp [hx]
          have hof : okFrom l init x z = mayRB l init x z := by unfold okFrom; rw [if_pos hx1]
          rw [hof] at HNX HNO
          clear hx
          cases hb : mayRB l init x z
          · have HN3 : Hid _ := HNO.out hb
            go_wp2_with ((clear F1; refine wpList_toldE (w := wr) (by rfl) (.tmp 8) (.tmp 23) (by rfl) x (by rfl) (by rfl) ?_; intro w5 kE b5; simp only [Act.put]; obtain ⟨s0, s1, s2, s3, s4, s5, s6⟩ := ev_cells kE; have lE := kE.lt; have t0 := cell_keep q0 b5; have t1 := cell_keep q1 b5; have t2 := cell_keep q2 b5; have t3 := cell_keep q3 b5; have t4 := cell_keep q4 b5; have t5 := cell_keep q5 b5; have t6 := cell_keep q6 b5; have lt0 := cell_lt t0; have f5 := cell_keep f0 b5; have lf5 := cell_lt f5; have B5 := Below.thru Br b5 (Nat.le_refl _); have b15 := Below.thru hbr b5 (Nat.le_refl _); have F2 := trivial))
            have CC : ∀ p : Ext w5, Calls Try.prog 25 #[exV (.slice (some ⟨eb, eo, none⟩) l.length c) r, .slice pi init.length ci, .agg x.cells.toArray, .int .i64 z] p.wd fun e w'' => e = .returned (.bool (mayRB l init x z)) ∧ ∃ q' : Ext w5, w'' = q'.wd := fun p => calls_ext (mayRead_any _ r (some ⟨eb, eo, none⟩) pi c ci l init x z p.wd rfl ((hl.keep B5).keep p.ok) ((hi.keep B5).keep p.ok))
            rw [hb] at CC
            unfold exV Ev.cells at CC
            have HCC : Hid _ := CC
            clear CC
            refine wp_region_ext (by kernel_rfl) (by kernel_rfl) ?_
            repeat (go_big_quiet_step (first | (with_reducible exact HCC.out _)))
            refine wpQuiet_nil ?_
            rintro _ ⟨rr, rfl⟩
            have b6 := rr.ok
            generalize rr.wd = w6 at *
            go_wp2
            go_ret
            exact ⟨by rw [HN3.out]; rfl, Below.thru B5 b6 (Nat.le_refl _)⟩
          · have HN2 : Hid _ := HNX.out hb
            go_wp2_with ((clear F1; refine wpList_toldE (w := wr) (by rfl) (.tmp 8) (.tmp 23) (by rfl) x (by rfl) (by rfl) ?_; intro w5 kE b5; simp only [Act.put]; obtain ⟨s0, s1, s2, s3, s4, s5, s6⟩ := ev_cells kE; have lE := kE.lt; have t0 := cell_keep q0 b5; have t1 := cell_keep q1 b5; have t2 := cell_keep q2 b5; have t3 := cell_keep q3 b5; have t4 := cell_keep q4 b5; have t5 := cell_keep q5 b5; have t6 := cell_keep q6 b5; have lt0 := cell_lt t0; have f5 := cell_keep f0 b5; have lf5 := cell_lt f5; have B5 := Below.thru Br b5 (Nat.le_refl _); have b15 := Below.thru hbr b5 (Nat.le_refl _); have F2 := trivial))
            have CC : ∀ p : Ext w5, Calls Try.prog 25 #[exV (.slice (some ⟨eb, eo, none⟩) l.length c) r, .slice pi init.length ci, .agg x.cells.toArray, .int .i64 z] p.wd fun e w'' => e = .returned (.bool (mayRB l init x z)) ∧ ∃ q' : Ext w5, w'' = q'.wd := fun p => calls_ext (mayRead_any _ r (some ⟨eb, eo, none⟩) pi c ci l init x z p.wd rfl ((hl.keep B5).keep p.ok) ((hi.keep B5).keep p.ok))
            rw [hb] at CC
            unfold exV Ev.cells at CC
            have HCC : Hid _ := CC
            clear CC
            refine wp_region_ext (by kernel_rfl) (by kernel_rfl) ?_
            repeat (go_big_quiet_step (first | (with_reducible exact HCC.out _)))
            refine wpQuiet_nil ?_
            rintro _ ⟨rr, rfl⟩
            have b6 := rr.ok
            generalize rr.wd = w6 at *
            go_wp2
            go_roundw
            case rel => exact ⟨k + 1, by omega, by go_num, HN2.out, Below.thru b15 b6 (Nat.le_refl _)⟩
            case measure => simp [Go.RowKit.intOf]; omega
        · have hx1 : (x.kd == 1) = false := by simp [hx]
          have hof : okFrom l init x z = (z == -2) := by unfold okFrom; rw [if_neg (by simp [hx])]
          rw [hof] at HNX HNO
          clear hx
          cases hb : (z == -2)
          · have HN3 : Hid _ := HNO.out hb
            go_wp2_with ((clear F1; refine wpList_toldE (w := wr) (by rfl) (.tmp 8) (.tmp 23) (by rfl) x (by rfl) (by rfl) ?_; intro w5 kE b5; simp only [Act.put]; obtain ⟨s0, s1, s2, s3, s4, s5, s6⟩ := ev_cells kE; have lE := kE.lt; have t0 := cell_keep q0 b5; have t1 := cell_keep q1 b5; have t2 := cell_keep q2 b5; have t3 := cell_keep q3 b5; have t4 := cell_keep q4 b5; have t5 := cell_keep q5 b5; have t6 := cell_keep q6 b5; have lt0 := cell_lt t0; have f5 := cell_keep f0 b5; have lf5 := cell_lt f5; have B5 := Below.thru Br b5 (Nat.le_refl _); have b15 := Below.thru hbr b5 (Nat.le_refl _); have F2 := trivial))
            go_ret
            exact ⟨by rw [HN3.out]; rfl, B5⟩
          · have HN2 : Hid _ := HNX.out hb
            go_wp2_with ((clear F1; refine wpList_toldE (w := wr) (by rfl) (.tmp 8) (.tmp 23) (by rfl) x (by rfl) (by rfl) ?_; intro w5 kE b5; simp only [Act.put]; obtain ⟨s0, s1, s2, s3, s4, s5, s6⟩ := ev_cells kE; have lE := kE.lt; have t0 := cell_keep q0 b5; have t1 := cell_keep q1 b5; have t2 := cell_keep q2 b5; have t3 := cell_keep q3 b5; have t4 := cell_keep q4 b5; have t5 := cell_keep q5 b5; have t6 := cell_keep q6 b5; have lt0 := cell_lt t0; have f5 := cell_keep f0 b5; have lf5 := cell_lt f5; have B5 := Below.thru Br b5 (Nat.le_refl _); have b15 := Below.thru hbr b5 (Nat.le_refl _); have F2 := trivial))
            go_roundw
            case rel => exact ⟨k + 1, by omega, by go_num, HN2.out, b15⟩
            case measure => simp [Go.RowKit.intOf]; omega
      · have e : k = l.length := by omega
        subst e
        go_wp2
        go_ret
        exact ⟨by rw [fits_of HLE.out HOK.out]; rfl, Br⟩
  · have hlb : ((from_.length : Int) != (l.length : Int)) = true := by rw [bne_iff_ne]; omega
    rw [fits_len hlen]
    clear hlen
    go_enter Try.func18, Try.ntmps18
    go_wp2
    go_ret
    exact ⟨rfl, b1⟩
end Go.Proofs.Ytgffeihfcmbobaa
