/- Contracts of the document's Fits and Rf. -/
import Derived.Test.YtgffeihfcmbobaaSrcRefCho
import Derived.Test.YtgffeihfcmbobaaSrcFits
import Derived.Test.YtgffeihfcmbobaaNumsI
import Derived.Test.YtgffeihfcmbobaaSrcRf
namespace Go.Proofs.Ytgffeihfcmbobaa
open Go.RowKit
attribute [local go_sem] Ext.cell Ext.frozen

theorem okFrom_has (l : List Ev) (init : List Int) (x : Ev) (z : Int) : (choE l init x).contains z = okFrom l init x z := by
  rw [Bool.eq_iff_iff, okFrom_mem]
  simp

set_option maxRecDepth 20000 in
set_option maxHeartbeats 8000000 in
theorem refFits_any (v : Value) (r : Nat → Value) (q pi pf : Option Addr) (c ci cf : Nat) (l : List Ev) (init from_ : List Int) (w : World) (hv : v = .slice q l.length c) (hl : Sl EvE w (.slice q l.length c) l) (hi : Sl IntE w (.slice pi init.length ci) init) (hf : Sl IntE w (.slice pf from_.length cf) from_) (hn : l.length ≤ 1000) (_ : from_.length ≤ 1000000) :
    Calls Try.prog 19 #[exV v r, .slice pi init.length ci, .slice pf from_.length cf] w fun e w' => e = .returned (.bool (fitsZ l init from_)) ∧ Below w.heap.size w w' := by
  subst hv
  obtain ⟨w1, hw1⟩ : ∃ w1, w.alloc (.cells #[.slice q l.length c, r 1, r 2, r 3, r 4, r 5, r 6] 33) = w1 := ⟨_, rfl⟩
  have k1 : Blk w1 w.heap.size #[.slice q l.length c, r 1, r 2, r 3, r 4, r 5, r 6] 33 := by rw [← hw1]; exact Blk.new
  have b1 : Below w.heap.size w w1 := by rw [← hw1]; exact below_new _ _
  obtain ⟨c0, c1, c2, c3, c4, c5, c6⟩ := ex_cells k1
  have lc := k1.lt
  have hCh := refChoices_any (.slice q l.length c) r q pi c ci l init w1 rfl (hl.keep b1) (hi.keep b1) hn
  unfold exV at *
  have HCH : Hid (Calls _ _ _ _ _) := hCh
  have hCl := choZ_len l init
  have HCL : Hid _ := hCl
  have F1 := trivial
  have hne : ∀ w, Nonempty (Ext w) := ext_some
  clear hCh
  by_cases hlen : from_.length = l.length
  · have hlb : ((from_.length : Int) != ((choZ l init).length : Int)) = false := by rw [hlen, hCl]; simp
    have HLE : Hid _ := hlen
    clear hlen hCl
    go_enter Try.func19, Try.ntmps19
    go_wp2_with (go_at_call 29; clear F1; refine HCH.out.mono ?_; rintro e w2 ⟨vc, rfl, hC, hb2⟩; obtain ⟨pc, cc, rfl⟩ := hC.len; have B2 := Below.thru b1 hb2 (Nat.le_refl _))
    clear c0 c1 c2 c3 c4 c5 c6 lc hw1 HCH
    go_loopw [8] (fun i wr => ∃ k : Nat, k ≤ l.length ∧ i = .int .i64 k ∧ okTo l init from_ k ∧ Below w2.heap.size w2 wr) (fun i _ => l.length - (Go.RowKit.intOf i).toNat)
    case atStart => exact ⟨0, Nat.zero_le _, rfl, fun i _ _ h => absurd h (Nat.not_lt_zero i), Below.refl _ _⟩
    case round =>
      obtain ⟨k, hk, rfl, hok, hbr⟩ := hrel
      have HOK : Hid _ := hok
      clear hok
      have Br := Below.thru B2 hbr (Nat.le_refl _)
      by_cases hlt : k < l.length
      · have hltC : k < (choZ l init).length := by rw [HCL.out]; exact hlt
        have hltC' : (k : Int) < ((choZ l init).length : Int) := by omega
        have hltf : k < from_.length := by rw [HLE.out]; exact hlt
        have hltf' : (k : Int) < (from_.length : Int) := by omega
        obtain ⟨cb, co, rfl, vk, g0, hk0⟩ := (sl_at (hC.keep hbr)).2 k hltC
        obtain ⟨fb, fo, rfl, f0⟩ := (ints_at (hf.keep Br)).2 k hltf
        have hcx : (choZ l init)[k] = choE l init l[k] := by
          have h1 := choZ_at (init := init) (List.getElem?_eq_getElem hlt)
          rw [List.getElem?_eq_getElem hltC] at h1
          exact Option.some.inj h1
        rw [hcx] at hk0
        have hnx := fun h => okTo_next HOK.out (List.getElem?_eq_getElem hlt) (List.getElem?_eq_getElem hltf) h
        have hno := fun h => fits_not (init := init) (List.getElem?_eq_getElem hlt) (List.getElem?_eq_getElem hltf) h
        have hce : (choE l init l[k]).length ≤ 1000000 := by
          unfold choE
          split
          · have := mayE_len l init l[k]; omega
          · simp
        have hha := okFrom_has l init l[k] from_[k]
        generalize from_[k] = z at *
        generalize okFrom l init l[k] z = b at *
        generalize choE l init l[k] = ch at *
        obtain ⟨pk, ck, rfl⟩ := hk0.len
        have CC : ∀ p : Ext wr, Calls Try.prog 30 #[.slice pk ch.length ck, .int .i64 z] p.wd fun e w'' => e = .returned (.bool b) ∧ ∃ q' : Ext wr, w'' = q'.wd := fun p => calls_ext (by have h := In_int pk ck ch z p.wd (hk0.any.keep p.ok) hce; rw [hha] at h; exact h)
        have HCC : Hid _ := CC
        have HNX : Hid _ := hnx
        have HNO : Hid _ := hno
        have lg := cell_lt g0
        have lf := cell_lt f0
        clear CC hnx hno hcx hha
        generalize (choZ l init).length = nC at *
        cases b
        · have HN3 : Hid _ := HNO.out rfl
          go_wp2
          refine wp_region_ext (by kernel_rfl) (by kernel_rfl) ?_
          repeat (go_big_quiet_step (first | (with_reducible exact HCC.out _)))
          refine wpQuiet_nil ?_
          rintro _ ⟨rr, rfl⟩
          have b6 := rr.ok
          generalize rr.wd = w6 at *
          go_wp2
          go_ret
          exact ⟨by rw [HN3.out]; rfl, Below.thru Br b6 (Nat.le_refl _)⟩
        · have HN2 : Hid _ := HNX.out rfl
          go_wp2
          refine wp_region_ext (by kernel_rfl) (by kernel_rfl) ?_
          repeat (go_big_quiet_step (first | (with_reducible exact HCC.out _)))
          refine wpQuiet_nil ?_
          rintro _ ⟨rr, rfl⟩
          have b6 := rr.ok
          generalize rr.wd = w6 at *
          go_wp2
          go_roundw
          case rel => exact ⟨k + 1, by omega, by go_num, HN2.out, Below.thru hbr b6 (Nat.le_refl _)⟩
          case measure => simp [Go.RowKit.intOf]; omega
      · have e : k = l.length := by omega
        have hltC' : ¬ (k : Int) < ((choZ l init).length : Int) := by rw [HCL.out]; omega
        subst e
        go_wp2
        go_ret
        exact ⟨by rw [fits_of HLE.out HOK.out]; rfl, Br⟩
  · have hlb : ((from_.length : Int) != ((choZ l init).length : Int)) = true := by rw [hCl, bne_iff_ne]; omega
    rw [fits_len hlen]
    clear hlen hCl
    go_enter Try.func19, Try.ntmps19
    go_wp2_with (go_at_call 29; clear F1; refine HCH.out.mono ?_; rintro e w2 ⟨vc, rfl, hC, hb2⟩; obtain ⟨pc, cc, rfl⟩ := hC.len; have B2 := Below.thru b1 hb2 (Nat.le_refl _))
    go_ret
    exact ⟨rfl, B2⟩

/-- The pairs of what is read, so far. -/
def rfP (n : Nat) (from_ : List Int) : Nat → List (Nat × Nat)
  | 0 => []
  | k + 1 => rfP n from_ k ++ (match from_[k]? with | some z => if (decide (0 ≤ z) && decide (z < (n : Int))) = true then [(z.toNat, k)] else [] | none => [])
theorem rfP_next {n : Nat} {from_ : List Int} {k : Nat} {z : Int} (h : from_[k]? = some z) : rfP n from_ (k + 1) = rfP n from_ k ++ (if (decide (0 ≤ z) && decide (z < (n : Int))) = true then [(z.toNat, k)] else []) := by
  rw [rfP, h]
theorem rfP_len (n : Nat) (from_ : List Int) : ∀ k, (rfP n from_ k).length ≤ k
  | 0 => Nat.le_refl _
  | k + 1 => by
    have := rfP_len n from_ k
    rw [rfP, List.length_append]
    split
    · split <;> simp <;> omega
    · simp; omega
theorem rfP_mem {n : Nat} {from_ : List Int} {i j : Nat} : ∀ {k : Nat}, (i, j) ∈ rfP n from_ k ↔ j < k ∧ i < n ∧ from_[j]? = some (i : Int)
  | 0 => by simp [rfP]
  | k + 1 => by
    rw [rfP, List.mem_append, rfP_mem (k := k)]
    constructor
    · rintro (⟨h1, h2, h3⟩ | h)
      · exact ⟨by omega, h2, h3⟩
      · split at h
        · rename_i z hz
          split at h
          · rename_i hb
            simp only [Bool.and_eq_true, decide_eq_true_eq] at hb
            simp only [List.mem_singleton, Prod.mk.injEq] at h
            obtain ⟨rfl, rfl⟩ := h
            exact ⟨by omega, by omega, by rw [hz]; congr 1; omega⟩
          · cases h
        · cases h
    · rintro ⟨h1, h2, h3⟩
      rcases Nat.lt_or_ge j k with h | h
      · exact .inl ⟨h, h2, h3⟩
      · obtain rfl : j = k := by omega
        refine .inr ?_
        rw [h3]
        simp only
        rw [if_pos (by rw [decide_eq_true (by omega), decide_eq_true (by omega)]; rfl)]
        simp
theorem rfP_of {n : Nat} {from_ : List Int} {k : Nat} (hk : n ≤ k ∨ from_.length ≤ k) : mkR n (ofF (rfP n from_ k)) = mkR n (rfF n from_) := by
  refine mkR_of fun i j hi hj => ?_
  unfold ofF rfF
  rw [Bool.eq_iff_iff]
  simp only [List.contains_iff_mem, Bool.and_eq_true, decide_eq_true_eq, beq_iff_eq]
  rw [rfP_mem]
  constructor
  · exact fun ⟨_, h2, h3⟩ => ⟨hj, h2, h3⟩
  · rintro ⟨_, h2, h3⟩
    refine ⟨?_, h2, h3⟩
    have : j < from_.length := by
      rcases Nat.lt_or_ge j from_.length with h | h
      · exact h
      · rw [List.getElem?_eq_none h] at h3; cases h3
    rcases hk with h | h <;> omega

set_option maxRecDepth 20000 in
set_option maxHeartbeats 8000000 in
theorem refRf_any (v : Value) (r : Nat → Value) (q pf : Option Addr) (c cf : Nat) (l : List Ev) (from_ : List Int) (w : World) (hv : v = .slice q l.length c) (hf : Sl IntE w (.slice pf from_.length cf) from_) (hn : l.length ≤ 32) (hfn : from_.length ≤ 1000000) :
    Calls Try.prog 22 #[exV v r, .slice pf from_.length cf] w (Tl w (mkR l.length (rfF l.length from_))) := by
  subst hv
  obtain ⟨w1, hw1⟩ : ∃ w1, w.alloc (.cells #[.slice q l.length c, r 1, r 2, r 3, r 4, r 5, r 6] 33) = w1 := ⟨_, rfl⟩
  have k1 : Blk w1 w.heap.size #[.slice q l.length c, r 1, r 2, r 3, r 4, r 5, r 6] 33 := by rw [← hw1]; exact Blk.new
  have b1 : Below w.heap.size w w1 := by rw [← hw1]; exact below_new _ _
  have c0 := (ex_cells k1).1
  have lc := k1.lt
  have hz1 := b1.size
  have hMd := fun p c W k (hk : l.length ≤ k ∨ from_.length ≤ k) (hk2 : k ≤ l.length) (hS : Sl PairE W (.slice p (rfP l.length from_ k).length c) (rfP l.length from_ k)) => by
    have h := (Made_any l.length p c (rfP l.length from_ k) W hn hS (fun x hx => ?_) (by have := rfP_len l.length from_ k; omega)).mono (Tells.l (rfP_of hk))
    · exact h
    · obtain ⟨i, j⟩ := x
      obtain ⟨h1, h2, h3⟩ := rfP_mem.1 hx
      exact ⟨h2, Nat.lt_of_lt_of_le h1 hk2⟩
  have HMD : Hid _ := hMd
  clear hMd
  unfold exV
  go_enter Try.func22, Try.ntmps22
  go_wp2
  go_loopw [5, 7] (fun a i wr => ∃ k : Nat, k ≤ l.length ∧ k ≤ from_.length ∧ i = .int .i64 k ∧ Own (fun _ => False) PairE wr w1.heap.size 55 a (rfP l.length from_ k) ∧ Below w1.heap.size w1 wr) (fun _ i _ => l.length - (Go.RowKit.intOf i).toNat)
  case atStart => exact ⟨0, Nat.zero_le _, Nat.zero_le _, rfl, Own.nil, Below.refl _ _⟩
  case round =>
    obtain ⟨k, hkl, hkf, rfl, hO, hbr⟩ := hrel
    have Br := Below.thru b1 hbr (Nat.le_refl _)
    have hVl := rfP_len l.length from_ k
    have hzr := hbr.size
    by_cases hA : k < from_.length
    · have hA' : (k : Int) < (from_.length : Int) := by omega
      have dA : decide (k < from_.length) = true := decide_eq_true hA
      by_cases hB : k < l.length
      · have hB' : (k : Int) < (l.length : Int) := by omega
        have dB : decide (k < l.length) = true := decide_eq_true hB
        obtain ⟨fb, fo, rfl, f0⟩ := (ints_at (hf.keep Br)).2 k hA
        have hnx := rfP_next (n := l.length) (List.getElem?_eq_getElem hA)
        generalize from_[k] = z at *
        have lf := cell_lt f0
        generalize rfP l.length from_ k = V at *
        obtain ⟨pV, cV, rfl⟩ := hO.len
        by_cases h0 : 0 ≤ z
        · have d0 : decide (0 ≤ z) = true := decide_eq_true h0
          rw [d0, Bool.true_and] at hnx
          by_cases h1 : z < (l.length : Int)
          · have d1 : decide (z < (l.length : Int)) = true := decide_eq_true h1
            rw [d1, if_pos rfl] at hnx
            obtain ⟨m, rfl⟩ : ∃ m : Nat, z = (m : Int) := ⟨z.toNat, by omega⟩
            rw [Int.toNat_natCast] at hnx
            have d2 : decide (m < l.length) = true := decide_eq_true (by omega)
            have HNX : Hid _ := hnx
            clear hnx
            have b7 := below_new wr (.cells #[.int .i64 (m : Int), .int .i64 (k : Int)] 55)
            have kN : Blk (wr.alloc (.cells #[.int .i64 (m : Int), .int .i64 (k : Int)] 55)) wr.heap.size #[.int .i64 (m : Int), .int .i64 (k : Int)] 55 := Blk.new
            have hO7 := hO.keep b7
            have hz7 := b7.size
            go_wp2_with (at_builtin; refine wpList_pair (by rfl) (.tmp 35) (.tmp 42) (by rfl) w1.heap.size (.slice pV V.length cV) wr.heap.size m k (by rfl) (by rfl) hO7 (by rw [kN.cell 0]; rfl) (by rw [kN.cell 1]; rfl) (by omega) (Nat.le_trans hzr hz7) ?_; intro p9 c9 w9 hO9 hg9; have B9 : Below w1.heap.size w1 w9 := (Below.thru hbr b7 (Nat.le_refl _)).grown hg9 (Nat.le_trans hzr hz7) (fun q hq => (hO7.lt q hq).1))
            go_roundw
            case rel => exact ⟨k + 1, by omega, by omega, by go_num, by rw [HNX.out]; exact hO9, B9⟩
            case measure => simp [Go.RowKit.intOf]; omega
          · have d1 : decide (z < (l.length : Int)) = false := decide_eq_false h1
            rw [d1, if_neg (by simp), List.append_nil] at hnx
            have HNX : Hid _ := hnx
            clear hnx
            go_wp2
            go_roundw
            case rel => exact ⟨k + 1, by omega, by omega, by go_num, by rw [HNX.out]; exact hO, hbr⟩
            case measure => simp [Go.RowKit.intOf]; omega
        · have d0 : decide (0 ≤ z) = false := decide_eq_false h0
          rw [d0, Bool.false_and, if_neg (by simp), List.append_nil] at hnx
          have HNX : Hid _ := hnx
          clear hnx
          go_wp2
          go_roundw
          case rel => exact ⟨k + 1, by omega, by omega, by go_num, by rw [HNX.out]; exact hO, hbr⟩
          case measure => simp [Go.RowKit.intOf]; omega
      · have hB' : ¬ (k : Int) < (l.length : Int) := by omega
        have dB : decide (k < l.length) = false := decide_eq_false hB
        obtain ⟨pV, cV, hV⟩ := hO.len
        subst hV
        have hM := HMD.out pV cV wr k (.inl (by omega)) hkl hO.sl.any
        have HM : Hid (Calls _ _ _ _ _) := hM
        clear hM
        generalize rfP l.length from_ k = V at *
        go_wp2_with (go_at_call 34; refine HM.out.mono ?_; rintro e w6 ⟨p6, c6, rfl, hS6, hb6⟩)
        go_ret
        exact ⟨p6, c6, rfl, hS6, Below.thru Br hb6 (Nat.le_refl _)⟩
    · have hA' : ¬ (k : Int) < (from_.length : Int) := by omega
      have dA : decide (k < from_.length) = false := decide_eq_false hA
      obtain ⟨pV, cV, hV⟩ := hO.len
      subst hV
      have hM := HMD.out pV cV wr k (.inr (by omega)) hkl hO.sl.any
      have HM : Hid (Calls _ _ _ _ _) := hM
      clear hM
      generalize rfP l.length from_ k = V at *
      go_wp2_with (go_at_call 34; refine HM.out.mono ?_; rintro e w6 ⟨p6, c6, rfl, hS6, hb6⟩)
      go_ret
      exact ⟨p6, c6, rfl, hS6, Below.thru Br hb6 (Nat.le_refl _)⟩
end Go.Proofs.Ytgffeihfcmbobaa
