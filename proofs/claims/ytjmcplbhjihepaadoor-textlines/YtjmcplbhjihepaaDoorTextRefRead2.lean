/- The contract of the document's Read. -/
import Derived.Test.YtjmcplbhjihepaaDoorTextRefRead
namespace Go.Proofs.YtjmcplbhjihepaaDoor
open Go.RowKit

attribute [local go_sem] Ext.cell Ext.frozen

/-- A slice of none, in a block of its own. -/
theorem own_empty {α : Type} {A : Nat → Prop} {R : Elem α} {w : World} {base g : Nat} {e : TypeId} (hb : base ≤ g) (h : Blk w g #[] e) : Own A R w base e (.slice (some ⟨g, 0, none⟩) 0 0) [] :=
  ⟨[], ⟨by simp, .inr ⟨g, 0, #[], rfl, hb, h, Nat.le_refl _, by unfold maxLen; omega, by simp, by simp⟩⟩, rfl, fun i h => by simp at h⟩
theorem ob (g n c : Nat) : (Value.slice (some ⟨g, 0, none⟩) n c).ownBlock = some g := rfl
/-- All but the first. -/
theorem tail_of {A : Nat → Prop} {w : World} {b o c : Nat} {h0 : List UInt8} {t : List (List UInt8)} (h : SlA A StrE w (.slice (some ⟨b, o, none⟩) (h0 :: t).length c) (h0 :: t)) :
    ∃ a c', (if c = 1 then some (⟨b, o, none⟩ : Addr) else some ⟨b, o + 1, none⟩) = some a ∧ c - 1 = c' ∧ SlA A StrE w (.slice (some a) t.length c') t := by
  have hcap := h.cap
  rw [List.length_cons] at hcap
  by_cases ht : t = []
  · subst ht
    by_cases hc : c = 1
    · exact ⟨⟨b, o, none⟩, c - 1, by rw [if_pos hc], rfl, _, _, rfl, ⟨(fun e => by cases e), by simp⟩, fun e => absurd rfl e⟩
    · exact ⟨⟨b, o + 1, none⟩, c - 1, by rw [if_neg hc], rfl, _, _, rfl, ⟨(fun e => by cases e), by simp⟩, fun e => absurd rfl e⟩
  · have hl : 0 < t.length := List.length_pos_iff.2 ht
    obtain ⟨b', o', e, hp⟩ := h.part (i := 1) (k := t.length) (c' := c - 1) (by simp; omega) hl (by omega)
    simp only [Option.some.injEq, Addr.mk.injEq, and_true] at e
    obtain ⟨rfl, rfl⟩ := e
    refine ⟨⟨b, o + 1, none⟩, c - 1, by rw [if_neg (by omega)], rfl, ?_⟩
    simpa [StrE] using hp
theorem st_of {w w2 w3 w5 : World} {n1 R b0 o0 cw c3 c4 : Nat} {p3 p4 : Option Addr} {k : Int} {h0 : List UInt8} {t : List (List UInt8)} {g : Nat → List UInt8}
    (hB2 : Below w.heap.size w w2) (hR2 : Blk w2 R zero6 23) (hS2 : SlA (fun b => b < n1) StrE w2 (.slice (some ⟨b0, o0, none⟩) (h0 :: t).length cw) (h0 :: t)) (hn2 : n1 ≤ w2.heap.size)
    (hO3 : Own (fun _ => False) StrE w3 (w2.heap.size + 1) 9 (.slice p3 t.length c3) t)
    (hg3 : World.grownBy ((w2.alloc (.cells #[.int .i64 k, .int .i64 0, .int .i64 0, .int .i64 0, .int .i64 0, .int .i64 0] 23)).alloc (.cells #[] 9)) w3 (Value.slice (some ⟨w2.heap.size + 1, 0, none⟩) 0 0).ownBlock)
    (hO5 : Own (fun _ => False) StrE w5 (w2.heap.size + 1) 9 (.slice p4 (t ++ five).length c4) (t ++ five))
    (hg5 : World.grownBy (w3.alloc (.cells #[.string ⟨#[]⟩, .string ⟨#[]⟩, .string ⟨#[]⟩, .string ⟨#[]⟩, .string ⟨#[]⟩] 9)) w5 (Value.slice p3 t.length c3).ownBlock)
    (HG : ∀ j, (t ++ five).getD j [] = g j) :
    ∃ lb lo, p4 = some ⟨lb, lo, none⟩ ∧ St w n1 R w2.heap.size lb lo g (h0 :: t) (.slice (some ⟨b0, o0, none⟩) (h0 :: t).length cw) #[.int .i64 k, .int .i64 0, .int .i64 0, .int .i64 0, .int .i64 0, .int .i64 0] w5 := by
  have hyy : Blk ((w2.alloc (.cells #[.int .i64 k, .int .i64 0, .int .i64 0, .int .i64 0, .int .i64 0, .int .i64 0] 23)).alloc (.cells #[] 9)) w2.heap.size #[.int .i64 k, .int .i64 0, .int .i64 0, .int .i64 0, .int .i64 0, .int .i64 0] 23 := Blk.new.alloc _
  have hbb : Below w2.heap.size w2 ((w2.alloc (.cells #[.int .i64 k, .int .i64 0, .int .i64 0, .int .i64 0, .int .i64 0, .int .i64 0] 23)).alloc (.cells #[] 9)) := ((Below.refl _ _).alloc (Nat.le_refl _) _).alloc (by simp) _
  have hown3 := fun b (hb : (Value.slice p3 t.length c3).ownBlock = some b) => (hO3.lt b hb).1
  have hlt3 : w2.heap.size < w3.heap.size := by have := hg3.size; simp at this; omega
  obtain ⟨_, lb, lo, rfl, hlb, hcells⟩ := five_cells hO5.sl
  have hlb' : w2.heap.size + 1 ≤ lb := by rcases hlb with h | h; exact h; exact h.elim
  have hK5 : ∀ b cs ty, b ≤ w2.heap.size → Blk ((w2.alloc (.cells #[.int .i64 k, .int .i64 0, .int .i64 0, .int .i64 0, .int .i64 0, .int .i64 0] 23)).alloc (.cells #[] 9)) b cs ty → Blk w5 b cs ty := fun b cs ty hb h =>
    ((h.grown hg3 (fun e => by rw [ob] at e; injection e with e; omega)).alloc _).grown hg5 (fun e => by have := hown3 b e.symm; omega)
  have hB5 : Below w.heap.size w w5 := by
    have h1 := (hB2.trans (hbb.mono hB2.size)).grown hg3 (by have := hB2.size; simp; omega) (fun b hb => by have := hB2.size; rw [ob] at hb; injection hb with hb; omega)
    exact (h1.alloc (by have := hB2.size; omega) _).grown hg5 (by have := hB2.size; simp; omega) (fun b hb => by have := hown3 b hb; have := hB2.size; omega)
  refine ⟨lb, lo, rfl, hB5, hK5 R _ _ (Nat.le_of_lt hR2.lt) (hR2.keep hbb), hK5 _ _ _ (Nat.le_refl _) hyy, fun j hj => ?_, ?_, hB2.size, hR2.lt, by omega, hn2⟩
  · rw [← HG j]; exact hcells j hj
  · have h1 := (hS2.keep hbb).agree (grownBy_agree hg3 (fun b hb e => by rw [ob] at e; injection e with e; omega))
    exact (h1.keep ((Below.refl _ _).alloc (Nat.le_refl _) _)).agree (grownBy_agree hg5 (fun b hb e => by have := hown3 b e.symm; omega))
set_option maxRecDepth 100000 in
set_option maxHeartbeats 8000000 in
theorem refRead_some (s h0 : List UInt8) (t : List (List UInt8)) (hs : s.length ≤ 300) (hw : split 32 [] s = h0 :: t) (op : Int) (hop : 1 ≤ op ∧ op ≤ 14) (hn : nameS op = ⟨h0.toArray⟩) (g : Nat → List UInt8) (hg : ∀ j, (t ++ five).getD j [] = g j) (hgl : ∀ j, (g j).length ≤ 1000000) (u : Nat → Int) (hu : ∀ j, numR (g j) = u j) (ok : Bool)
    (hok : (lineL op (refV op u 0) (refV op u 1) (refV op u 2) (refV op u 3) (refV op u 4) == s) = ok) (w : World) :
    Calls Tryd.prog 6 #[.string ⟨s.toArray⟩] w fun e w' => e = .returned (bif ok then readV op (refV op u 0) (refV op u 1) (refV op u 2) (refV op u 3) (refV op u 4) true else readV 0 0 0 0 0 0 false) ∧ Below w.heap.size w w' := by
  have hcnt := split_count 32 s []
  rw [hw, List.length_cons] at hcnt
  have hin : ∀ j, in64 (u j) := fun j => by rw [← hu j]; exact numR_in _
  have HN : Hid (∀ k : Int, 1 ≤ k → k ≤ 14 → k ≠ op → ((nameS k).toList == h0) = false) := fun k h1 h2 h3 => by
    have := ne_l (a := nameS k) (b := ⟨h0.toArray⟩) (fun e => h3 (name_inj ⟨h1, h2⟩ hop (e.trans hn.symm)))
    simpa using this
  have HY : Hid (((nameS op).toList == h0) = true) := by unfold Hid; rw [hn]; simp
  obtain ⟨i0, hi, hz⟩ := Option.map_eq_some_iff.1 infoS
  simp only [Prod.mk.injEq] at hz
  obtain ⟨hz0, hz1, hz2⟩ := hz
  have L1 : Hid _ := hi
  have L2 : Hid _ := hz0
  have L3 : Hid (i0.size = StrE.size) := hz1
  have L4 : Hid _ := hz2
  clear hi hz0 hz1 hz2
  have HG : Hid _ := hg
  have HU : Hid _ := hu
  have HO : Hid _ := hok
  have HW : Hid _ := hw
  clear hn hg hu hok hw
  go_enter Tryd.func6, Tryd.ntmps6
  go_wp2_with fail
  have C := refCut_any s 32 (by omega) (w.alloc (.cells zero6 23))
  rw [HW.out] at C
  refine C.mono ?_
  clear C
  rintro e w1 ⟨pw, cw, rfl, hS1, hb1⟩
  have hR1 : Blk w1 w.heap.size zero6 23 := Blk.keep Blk.new hb1
  have hB1 : Below w.heap.size w w1 := ((Below.refl _ _).alloc (Nat.le_refl _) _).trans (hb1.mono (by simp))
  have hS1 := Sl.old hS1
  clear hb1
  have hRn : w.heap.size < w1.heap.size := hR1.lt
  generalize hn1 : w1.heap.size = n1 at hS1 hRn
  generalize hRR : w.heap.size = R at hR1 hRn ⊢
  have HR : Hid _ := hRR
  clear hRR
  obtain ⟨b0, o0, rfl, _⟩ := (str_at hS1).2 0 (by simp)
  obtain ⟨w10, rfl⟩ : ∃ x : World, x = w1 := ⟨_, rfl⟩
  go_wp2
  go_loopw [5] (fun q wr => ∃ k : Int, 1 ≤ k ∧ k ≤ 15 ∧ q = .int .i64 k ∧ Blk wr R zero6 23 ∧ SlA (fun b => b < n1) StrE wr (.slice (some ⟨b0, o0, none⟩) (h0 :: t).length cw) (h0 :: t) ∧ n1 ≤ wr.heap.size ∧ Below w.heap.size w wr ∧ (op < k → ok = false)) (fun q _ => 15 - (intOf q).toNat)
  case atStart => exact ⟨1, by omega, by omega, rfl, hR1, hS1, by omega, hB1, fun h => by omega⟩
  case round =>
    obtain ⟨k, hk1, hk2, rfl, hR, hS, hnr, hB, hlate⟩ := hrel
    clear hR1 hS1 hB1
    by_cases hk : k ≤ 14
    · have hc0 : wr.cell? ⟨b0, o0, none⟩ = some (.string ⟨h0.toArray⟩) := by
        obtain ⟨_, _, e, hc⟩ := (str_at hS).2 0 (by simp)
        simp only [Option.some.injEq, Addr.mk.injEq, and_true] at e
        obtain ⟨rfl, rfl⟩ := e
        exact hc
      have hz0 : b0 < wr.heap.size := cell_lt hc0
      by_cases hko : k = op
      · subst hko
        go_wp2
        have hne : ∀ w, Nonempty (Ext w) := ext_some
        refine wp_region_ext (by kernel_rfl) (by kernel_rfl) ?_
        have hyy := HY.out
        repeat (go_big_quiet_step (first | (go_at_call 17; exact calls_ext (refName_any _ _))))
        refine wpQuiet_nil ?_
        rintro _ ⟨p, rfl⟩
        have hR2 := hR.keep p.ok
        have hS2 := hS.keep p.ok
        have hn2 := Nat.le_trans hnr p.ok.size
        have hB2 := hB.trans (p.ok.mono hB.size)
        generalize p.wd = w2 at *
        clear hR hS hnr hB hc0 hz0
        obtain ⟨a', c', hif, hc', hsrc⟩ := tail_of hS2
        have hxx : Blk ((w2.alloc (.cells #[.int .i64 k, .int .i64 0, .int .i64 0, .int .i64 0, .int .i64 0, .int .i64 0] 23)).alloc (.cells #[] 9)) (w2.heap.size + 1) #[] 9 := Blk.newAt (by simp)
        have hyy : Blk ((w2.alloc (.cells #[.int .i64 k, .int .i64 0, .int .i64 0, .int .i64 0, .int .i64 0, .int .i64 0] 23)).alloc (.cells #[] 9)) w2.heap.size #[.int .i64 k, .int .i64 0, .int .i64 0, .int .i64 0, .int .i64 0, .int .i64 0] 23 := Blk.new.alloc _
        have hbb : Below w2.heap.size w2 ((w2.alloc (.cells #[.int .i64 k, .int .i64 0, .int .i64 0, .int .i64 0, .int .i64 0, .int .i64 0] 23)).alloc (.cells #[] 9)) := by go_grown
        go_wp2_with (first
          | (at_builtin; refine wpList_app (R := StrE) (A := fun _ => False) (B := fun b => b < n1) (xs := []) (ys := t) (by rfl) (.tmp 23) (.tmp 25) 50 9 i0 (.string ⟨#[]⟩) 16 (by rfl) Tryd.underlying50 L1.out L2.out L3.out L4.out rfl (w2.heap.size + 1) (.slice (some ⟨w2.heap.size + 1, 0, none⟩) 0 0) (.slice (some a') t.length c') (by rfl) (by rfl) (own_empty (Nat.le_refl _) hxx) (hsrc.keep hbb) (fun _ _ _ h => h) (by simp; omega) (by decide) (by simp) ?_; intro p3 c3 w3 hO3 hg3 _; simp only [List.nil_append] at hO3 ⊢)
          | (at_builtin; refine wpList_app (R := StrE) (A := fun _ => False) (B := fun _ => True) (xs := t) (ys := five) (by rfl) (.tmp 26) (.tmp 27) 50 9 i0 (.string ⟨#[]⟩) 16 (by rfl) Tryd.underlying50 L1.out L2.out L3.out L4.out rfl (w2.heap.size + 1) (.slice p3 t.length c3) (.slice (some ⟨w3.heap.size, 0, none⟩) 5 5) (by rfl) (by rfl) (hO3.keep ((Below.refl _ _).alloc (Nat.le_refl _) _)) (five_blk trivial Blk.new) (fun _ _ _ h => h) (by simp [five]; omega) (by decide) (by have := hg3.size; simp at this ⊢; omega) ?_; intro p4 c4 w5 hO5 hg5 _; obtain ⟨lb, lo, rfl, hT⟩ := st_of hB2 hR2 hS2 hn2 hO3 hg3 hO5 hg5 HG.out; clear hO5 hg5 hO3 hg3 hxx hyy hbb hsrc hif hc' hS2 hR2 hB2; have hcY := hT.cell; have hfY := hT.frozen; obtain ⟨hzl, hl0, hl1, hl2, hl3⟩ := hT.four))
        generalize w2.heap.size = Y at *
        have h5 : five.length = 5 := rfl
        rcases flags k hop with ⟨fD, fA, fB, ⟨fL, fK⟩, fI⟩ | ⟨fD, fA, fB, ⟨fL, fK⟩, fI⟩ | ⟨fD, fA, fB, ⟨fL, fK⟩, fI⟩ | ⟨fD, fA, fB, ⟨fL, fK⟩, fI⟩ | ⟨fD, fA, fB, ⟨fL, fK⟩, fI⟩ | ⟨fD, fA, fB, ⟨fL, fK⟩, fI⟩ | ⟨fD, fA, fB, ⟨fL, fK⟩, fI⟩ | ⟨fD, fA, fB, ⟨fL, fK⟩, fI⟩
        all_goals
          have HF : Hid _ := (⟨fD, fA, fB, fL, fI⟩ : _ ∧ _ ∧ _ ∧ _ ∧ _)
          have FD : Hid _ := fD
          have FA : Hid _ := fA
          have FB : Hid _ := fB
          have FK : Hid _ := fK
          have FI : Hid _ := fI
          clear fD fA fB fL fK fI
          refine (refHasD_any _ _ _ _ _ _ _).mono ?_
          rintro e w1 ⟨rfl, hb⟩
          rw [FD.out]
          replace hT := hT.keep hb
          clear hcY hfY hzl hl0 hl1 hl2 hl3; have hcY := hT.cell; have hfY := hT.frozen; obtain ⟨hzl, hl0, hl1, hl2, hl3⟩ := hT.four
          go_wp2_with (first | (go_at_call 20; refine (refHasA_any _ _ _ _ _ _ _).mono ?_; rintro e w1 ⟨rfl, hb⟩; rw [FA.out]; (first | (replace hT := hT.keep hb) | (replace hT := (hT.set _ _).keep hb; simp only [List.setIfInBounds_toArray, List.set] at hT)); clear hcY hfY hzl hl0 hl1 hl2 hl3; have hcY := hT.cell; have hfY := hT.frozen; obtain ⟨hzl, hl0, hl1, hl2, hl3⟩ := hT.four) | (go_at_call 21; refine (refHasB_any _ _ _ _ _ _ _).mono ?_; rintro e w1 ⟨rfl, hb⟩; rw [FB.out]; (first | (replace hT := hT.keep hb) | (replace hT := (hT.set _ _).keep hb; simp only [List.setIfInBounds_toArray, List.set] at hT)); clear hcY hfY hzl hl0 hl1 hl2 hl3; have hcY := hT.cell; have hfY := hT.frozen; obtain ⟨hzl, hl0, hl1, hl2, hl3⟩ := hT.four) | (go_at_call 22; refine (refKind_any _ _ _ _ _ _ _).mono ?_; rintro e w1 ⟨rfl, hb⟩; rw [FK.out]; (first | (replace hT := hT.keep hb) | (replace hT := (hT.set _ _).keep hb; simp only [List.setIfInBounds_toArray, List.set] at hT)); clear hcY hfY hzl hl0 hl1 hl2 hl3; have hcY := hT.cell; have hfY := hT.frozen; obtain ⟨hzl, hl0, hl1, hl2, hl3⟩ := hT.four) | (go_at_call 23; refine (refHasImm_any _ _ _ _ _ _ _).mono ?_; rintro e w1 ⟨rfl, hb⟩; rw [FI.out]; (first | (replace hT := hT.keep hb) | (replace hT := (hT.set _ _).keep hb; simp only [List.setIfInBounds_toArray, List.set] at hT)); clear hcY hfY hzl hl0 hl1 hl2 hl3; have hcY := hT.cell; have hfY := hT.frozen; obtain ⟨hzl, hl0, hl1, hl2, hl3⟩ := hT.four) | (go_at_call 19; refine (refNumber_any (g _) (hgl _) _).mono ?_; rintro e w1 ⟨rfl, rfl⟩; rw [HU.out]))
          refine (refLine_any _ _ _ _ _ _ (by intro j; unfold pick5; split <;> first | exact hin _ | exact ⟨by decide, by decide⟩) _).mono ?_
          rintro e w9 ⟨rfl, hb⟩
          first | (replace hT := hT.keep hb) | (replace hT := (hT.set _ _).keep hb; simp only [List.setIfInBounds_toArray, List.set] at hT)
          clear hcY hfY hzl hl0 hl1 hl2 hl3
          have hcY := hT.cell
          have hcR : ∀ j, w9.cell? ⟨R, j, none⟩ = zero6[j]? := fun j => hT.res.cell j
          have hfR : ∀ j, w9.frozen? ⟨R, j, none⟩ = false := fun j => hT.res.frozen j
          have hzR := hT.res.lt
          have hRY := hT.o2
          have hzY := hT.own.lt
          unfold zero6 at hcR
          obtain ⟨fD, fA, fB, fL, fI⟩ := HF.out
          have hLs := HO.out
          obtain ⟨W, hW, c0, c1, c2, c3, c4, c5, hBf⟩ := ret_ins (v0 := .int .i64 k) (v1 := .int .i64 (refV k u 0)) (v2 := .int .i64 (refV k u 1)) (v3 := .int .i64 (refV k u 2)) (v4 := .int .i64 (refV k u 3)) (v5 := .int .i64 (refV k u 4)) hT.res rfl (Nat.le_of_eq HR.out) hT.below
          simp only [refV, hasF, atAt, fD, fA, fB, fL, fI, cond_true, cond_false, Nat.add_zero, Nat.zero_add, Nat.reduceAdd] at hLs hW c1 c2 c3 c4 c5
          have HWW : Hid _ := hW
          clear hW fD fA fB fL fI
          cases ok
          · clear c0 c1 c2 c3 c4 c5 hBf HWW
            go_wp2
            go_roundw
            case rel => exact ⟨k + 1, by omega, by omega, rfl, hT.res, hT.words, Nat.le_trans hT.o4 (Nat.le_of_lt hzY), hT.below, fun _ => trivial⟩
            case measure => simp [intOf]; omega
          · go_wp2
            rw [HWW.out]
            obtain ⟨fD, fA, fB, fL, fI⟩ := HF.out
            exact bodyPost_ret (v := readV k (refV k u 0) (refV k u 1) (refV k u 2) (refV k u 3) (refV k u 4) true) (by simp [results, Tryd.results6, go_sem, c0, c1, c2, c3, c4, c5, readV, refV, hasF, atAt, fD, fA, fB, fL, fI]) rfl ⟨rfl, hBf⟩
      · have hnn := HN.out k hk1 hk hko
        go_wp2
        have hne : ∀ w, Nonempty (Ext w) := ext_some
        refine wp_region_ext (by kernel_rfl) (by kernel_rfl) ?_
        repeat (go_big_quiet_step (first | (go_at_call 17; exact calls_ext (refName_any _ _))))
        refine wpQuiet_nil ?_
        rintro _ ⟨p, rfl⟩
        go_wp2
        go_roundw
        case rel => exact ⟨k + 1, by omega, by omega, rfl, hR.keep p.ok, hS.keep p.ok, Nat.le_trans hnr p.ok.size, hB.trans (p.ok.mono hB.size), fun h => hlate (by omega)⟩
        case measure => simp [intOf]; omega
    · have hl := hlate (by omega)
      subst hl
      have hcR : ∀ j, wr.cell? ⟨R, j, none⟩ = zero6[j]? := fun j => hR.cell j
      have hfR : ∀ j, wr.frozen? ⟨R, j, none⟩ = false := fun j => hR.frozen j
      unfold zero6 at hcR
      go_wp2
      obtain ⟨W, hW, c0, c1, c2, c3, c4, c5, hBf⟩ := ret_ins (v0 := .int .i64 0) (v1 := .int .i64 0) (v2 := .int .i64 0) (v3 := .int .i64 0) (v4 := .int .i64 0) (v5 := .int .i64 0) hR rfl (Nat.le_of_eq HR.out) hB
      rw [hW]
      exact bodyPost_ret (v := readV 0 0 0 0 0 0 false) (by simp [results, Tryd.results6, go_sem, c0, c1, c2, c3, c4, c5, readV]) rfl ⟨rfl, hBf⟩
end Go.Proofs.YtjmcplbhjihepaaDoor
