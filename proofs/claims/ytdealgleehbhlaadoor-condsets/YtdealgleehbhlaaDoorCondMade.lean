/- Contracts of the law's helpers: made (a condition, as the program has it) and few. -/
import Derived.Test.YtdealgleehbhlaaDoorCondRep
import Derived.Test.YtdealgleehbhlaaDoorProg
namespace Go.Proofs.YtdealgleehbhlaaDoor
open Go.RowKit

theorem info_get {P : Program} {t : TypeId} {a b c : Nat} (h : ((P.info? t).map fun i => (i.zero.map (·.cells.size), i.size, i.bytes)) = some (some a, b, c)) : ∃ i z, P.info? t = some i ∧ i.zero = some z ∧ z.cells.size = a ∧ i.size = b ∧ i.bytes = c := by
  cases hi : P.info? t with
  | none => rw [hi] at h; simp at h
  | some i =>
    rw [hi] at h
    simp only [Option.map_some, Option.some.injEq, Prod.mk.injEq] at h
    obtain ⟨h1, h2, h3⟩ := h
    cases hz : i.zero with
    | none => rw [hz] at h1; simp at h1
    | some z => rw [hz] at h1; simp at h1; exact ⟨i, z, rfl, hz, h1, h2, h3⟩
theorem info_atm : ((Tryd.prog.info? 49).map fun i => (i.zero.map (·.cells.size), i.size, i.bytes)) = some (some 4, 4, 32) := by kernel_rfl
theorem info_atms : ((Tryd.prog.info? 50).map fun i => (i.zero.map (·.cells.size), i.size, i.bytes)) = some (some 1, 1, 24) := by kernel_rfl

theorem atm_one {A : Nat → Prop} {w : World} {b c : Nat} (x : Atm) (hA : A b) (h : w.cell? ⟨b, 0, none⟩ = some (.int .i64 x.thr) ∧ w.cell? ⟨b, 1, none⟩ = some (.int .i64 x.pos) ∧ w.cell? ⟨b, 2, none⟩ = some (.int .i64 x.val) ∧ w.cell? ⟨b, 3, none⟩ = some (.bool x.neg)) (hc : 1 ≤ c := by decide) : SlA A AtmE w (.slice (some ⟨b, 0, none⟩) 1 c) [x] := by
  refine ⟨_, c, rfl, ⟨(fun e => by cases e), hc⟩, fun _ => ⟨b, 0, rfl, hA, fun i hi => ?_⟩⟩
  have hi' : i = 0 := by simp at hi; omega
  subst hi'
  refine ⟨x.cells, rfl, fun j u hu => ?_⟩
  obtain ⟨h0, h1, h2, h3⟩ := h
  match j, hu with
  | 0, hu => simp [Atm.cells] at hu; subst hu; simpa using h0
  | 1, hu => simp [Atm.cells] at hu; subst hu; simpa using h1
  | 2, hu => simp [Atm.cells] at hu; subst hu; simpa using h2
  | 3, hu => simp [Atm.cells] at hu; subst hu; simpa using h3
  | j + 4, hu => simp [Atm.cells] at hu

set_option maxRecDepth 20000 in
set_option maxHeartbeats 8000000 in
theorem made_own (all : Bool) (p : Option Addr) (c : Nat) (ls : List (List Atm)) (w : World) (hl : Sl (SlE AtmE) w (.slice p ls.length c) ls) (hz : ls.length ≤ 1000) (hzl : ∀ l ∈ ls, l.length ≤ 1000) :
    Calls Tryd.prog 12 #[.agg #[.bool all, .slice p ls.length c]] w fun e w' => ∃ q d, e = .returned (.agg #[.bool all, .slice q ls.length d]) ∧
      Own (fun b => w.heap.size + 3 ≤ b) (SlE AtmE) w' (w.heap.size + 3) 50 (.slice q ls.length d) ls ∧ Below w.heap.size w w' := by
  obtain ⟨i0, z0, j1, j2, j3, j4, j5⟩ := info_get info_atms
  have J1 : Hid _ := j1
  have J2 : Hid _ := j2
  have J3 : Hid _ := j3
  have J4 : Hid _ := j4
  have J5 : Hid _ := j5
  clear j1 j2 j3 j4 j5
  obtain ⟨i1, z1, j1, j2, j3, j4, j5⟩ := info_get info_atm
  have L1 : Hid _ := j1
  have L2 : Hid _ := j2
  have L3 : Hid _ := j3
  have L4 : Hid _ := j4
  have L5 : Hid _ := j5
  clear j1 j2 j3 j4 j5
  go_enter Tryd.func12, Tryd.ntmps12
  go_wp2
  go_loopw [4] (fun i wr => ∃ (k : Nat) (a : Value) (out : List (List Atm)), k ≤ ls.length ∧ i = .int .i64 k ∧ Blk wr w.heap.size #[.bool all, .slice p ls.length c] 24 ∧ Blk wr (w.heap.size + 1) #[.bool false, .slice none 0 0] 31 ∧ Blk wr (w.heap.size + 2) #[.bool all, a] 31 ∧
    Own (fun b => w.heap.size + 3 ≤ b) (SlE AtmE) wr (w.heap.size + 3) 50 a out ∧ out ++ ls.drop k = ls ∧ out.length = k ∧ Below w.heap.size w wr) (fun i _ => ls.length - (intOf i).toNat)
  case atStart => exact ⟨0, _, [], Nat.zero_le _, rfl, ((Blk.newAt rfl).alloc _).alloc _, (Blk.newAt (by simp)).alloc _, Blk.newAt (by simp), Own.nil, by simp, rfl, by go_grown⟩
  case round =>
    obtain ⟨k, a, out, hk, rfl, hBt, hBr, hBu, hO, hS, hlen, hB⟩ := hrel
    have HS : Hid _ := hS
    have HLen : Hid _ := hlen
    clear hS hlen
    obtain ⟨pa, ca, rfl⟩ := hO.len
    have ht1 := hBt.cell 1
    have hu1 := hBu.cell 1
    have hur := hBu.frozen 1
    have hul := hBu.lt
    by_cases hlt : k < ls.length
    · obtain ⟨tb, to, rfl, v, hv, hV⟩ := (sl_at (hl.keep hB)).2 k hlt
      have hl8 := hzl _ (List.getElem_mem hlt)
      generalize hll : ls[k] = l at hV hl8
      have HL : Hid (ls.drop k = l :: ls.drop (k + 1)) := by rw [← hll]; exact drop_at hlt
      clear hll
      obtain ⟨pv, cv, rfl⟩ := hV.len
      simp at hu1 ht1
      have hlt' : (k : Int) < (ls.length : Int) := by omega
      obtain ⟨w1, rfl⟩ : ∃ x : World, x = wr := ⟨_, rfl⟩
      go_wp2
      go_loopw [5, 6] (fun a i w2 => ∃ (j : Nat) (ol : List Atm), j ≤ l.length ∧ i = .int .i64 j ∧ Own (fun _ => False) AtmE w2 w1.heap.size 49 a ol ∧ ol.length = j ∧ ol ++ l.drop j = l ∧ Below w1.heap.size w1 w2) (fun _ i _ => l.length - (intOf i).toNat)
      case atStart => exact ⟨0, [], Nat.zero_le _, rfl, Own.nil, by simp, by simp, by go_grown⟩
      case round =>
        obtain ⟨j, ol, hj, rfl, hP, hPl, hS2, hB2⟩ := hrel
        have HS2 : Hid _ := hS2
        have HPl : Hid _ := hPl
        have hol : ol.length ≤ 1000 := by omega
        clear hS2 hPl
        obtain ⟨pb, cb, rfl⟩ := hP.len
        obtain ⟨w2, rfl⟩ : ∃ x : World, x = wr := ⟨_, rfl⟩
        have hct := (hBt.keep hB2).cell 1
        simp at hct
        have hv2 := cell_keep hv hB2
        by_cases hjl : j < l.length
        · obtain ⟨ub, uo, rfl, e0, e1, e2, e3⟩ := (atm_at (hV.keep hB2)).2 j hjl
          generalize hx : l[j] = x at e0 e1 e2 e3
          have HX : Hid (l.drop j = x :: l.drop (j + 1)) := by rw [← hx]; exact drop_at hjl
          clear hx
          obtain ⟨t, ps, vv, n⟩ := x
          have hjl' : (j : Int) < (l.length : Int) := by omega
          go_wp2_with (at_builtin; refine wpList_app (R := AtmE) (A := fun _ => False) (B := fun _ => True) (xs := ol) (ys := [⟨t, ps, vv, n⟩]) (by rfl) (.tmp 36) (.tmp 46) 50 49 i1 z1 32 (by rfl) Tryd.underlying50 L1.out L2.out L4.out L5.out L3.out w1.heap.size (.slice pb ol.length cb) (.slice (some ⟨w2.heap.size + 1, 0, none⟩) 1 1) (by rfl) (by rfl) (hP.keep (by go_grown)) (atm_one ⟨t, ps, vv, n⟩ trivial ⟨by simp, by simp, by simp, by simp⟩) (fun _ _ _ h => h) (by simp; omega) (by decide) (by have := hB2.size; simp; omega) ?_; intro p6 c6 w6 hO6 hg6 _)
          go_roundw
          case rel => exact ⟨j + 1, ol ++ [⟨t, ps, vv, n⟩], by omega, by go_num, by simpa using hO6, by simp [HPl.out], by have := HS2.out; rw [HX.out] at this; rw [List.append_assoc]; exact this, ((hB2.alloc hB2.size _).alloc (by have := hB2.size; simp; omega) _).grown hg6 (by have := hB2.size; simp; omega) (fun q hq => (hP.lt q hq).1)⟩
          case measure => simp [intOf]; omega
        · have e : ol = l := by have := HS2.out; rw [List.drop_of_length_le (by omega)] at this; simpa using this
          subst e
          have hcu := (hBu.keep hB2).cell 1
          have hcr := (hBu.keep hB2).frozen 1
          simp at hcu hcr
          have hown := fun q (hq : (Value.slice pa out.length ca).ownBlock = some q) => (hO.lt q hq)
          have hOl : out.length ≤ 1000000 := by have := HLen.out; omega
          have hsrc : SlA (fun b => w1.heap.size ≤ b) (SlE AtmE) (w2.alloc (.cells #[.slice pb ol.length cb] 50)) (.slice (some ⟨w2.heap.size, 0, none⟩) 1 1) [ol] :=
            sl_one hB2.size (by simp) ((SlA.mono (B := fun b => w1.heap.size ≤ b) (fun b hb => hb.elim id False.elim) hP.sl).keep ((Below.refl _ _).alloc (Nat.le_refl _) _)) (Nat.le_refl _)
          have hB5 := hB2.alloc hB2.size (.cells #[.slice pb ol.length cb] 50)
          go_wp2_with (at_builtin; refine wpList_app (R := SlE AtmE) (A := fun b => w.heap.size + 3 ≤ b) (xs := out) (ys := [ol]) (by rfl) (.tmp 49) (.tmp 51) 29 50 i0 z0 24 (by rfl) Tryd.underlying29 J1.out J2.out J4.out J5.out J3.out (w.heap.size + 3) (.slice pa out.length ca) (.slice (some ⟨w2.heap.size, 0, none⟩) 1 1) (by rfl) (by rfl) (hO.keep hB5) hsrc (fun y _ c hc => (SlE AtmE).mono (fun b hb => ⟨by omega, fun e => by have := hown b e.symm; omega⟩) hc) (by simp; omega) (by decide) (by have := hB5.size; omega) ?_; intro p6 c6 w6 hO6 hg6 hat6; have hB6u : Blk w6 (w.heap.size + 2) #[.bool all, .slice pa out.length ca] 31 := (hBu.keep hB5).grown hg6 (fun e => by have := hown _ e.symm; omega); have hu61 := hB6u.cell 1; have hu6r := hB6u.frozen 1; simp at hu61 hu6r)
          have hB6r : Blk w6 (w.heap.size + 1) #[.bool false, .slice none 0 0] 31 := (hBr.keep hB5).grown hg6 (fun e => by have := hown _ e.symm; omega)
          have hB6t : Blk w6 w.heap.size #[.bool all, .slice (some ⟨tb, to, none⟩) ls.length c] 24 := (hBt.keep hB5).grown hg6 (fun e => by have := hown _ e.symm; omega)
          go_roundw
          case rel => exact ⟨k + 1, .slice p6 (out ++ [ol]).length c6, out ++ [ol], by omega, by go_num, hB6t.grown (grownBy_set _ _ _) (by simp; omega), hB6r.grown (grownBy_set _ _ _) (by simp), by simpa using hB6u.set (i := 1) (.slice p6 (out ++ [ol]).length c6),
            by simpa using hO6.agree (grownBy_set _ ⟨w.heap.size + 2, 1, none⟩ (.slice p6 (out ++ [ol]).length c6)) (fun q hq => by simp at hq; subst hq; exact ⟨by omega, fun e => by have := (hO6.lt _ e).1; omega⟩), by rw [HL.out] at HS; rw [List.append_assoc]; exact HS.out, by simp [HLen.out],
            ((hB.trans (hB5.mono hB.size)).grown hg6 (by have := hB5.size; have := hB.size; omega) (fun q hq => by have := (hown q hq).1; omega)).setCell (by simp; omega) _⟩
          case measure => simp [intOf]; omega
    · have hr0 := hBr.cell 0
      have hr1 := hBr.cell 1
      have hrf0 := hBr.frozen 0
      have hrf1 := hBr.frozen 1
      have hrl := hBr.lt
      have hu0 := hBu.cell 0
      simp at hu0 hu1 hr0 hr1 ht1
      have e : out = ls := by have := HS.out; rw [List.drop_of_length_le (by omega)] at this; simpa using this
      subst e
      go_wp2
      have hBf := ((hB.setCell (p := ⟨w.heap.size + 1, 0, none⟩) (by simp) (.bool all)).setCell (p := ⟨w.heap.size + 1, 1, none⟩) (by simp) (.slice pa out.length ca))
      have g1 := grownBy_set wr ⟨w.heap.size + 1, 0, none⟩ (.bool all)
      have g2 := grownBy_set (wr.setCell ⟨w.heap.size + 1, 0, none⟩ (.bool all)) ⟨w.heap.size + 1, 1, none⟩ (.slice pa out.length ca)
      have hOf := (hO.agree g1 (fun q hq => by simp at hq; subst hq; exact ⟨by omega, fun e => by have := (hO.lt _ e).1; omega⟩))
      have hOg := (hOf.agree g2 (fun q hq => by simp at hq; subst hq; exact ⟨by omega, fun e => by have := (hO.lt _ e).1; omega⟩))
      have hBb := (hBr.set (i := 0) (.bool all)).set (i := 1) (.slice pa out.length ca)
      have hb0 := hBb.cell 0
      have hb1 := hBb.cell 1
      simp at hb0 hb1
      exact bodyPost_ret (v := .agg #[.bool all, .slice pa out.length ca]) (by simp [results, Tryd.results12, go_sem, hb0, hb1]) rfl ⟨pa, ca, rfl, hOg, hBf⟩
theorem made_any (all : Bool) (p : Option Addr) (c : Nat) (ls : List (List Atm)) (w : World) (hl : Sl (SlE AtmE) w (.slice p ls.length c) ls) (hz : ls.length ≤ 1000) (hzl : ∀ l ∈ ls, l.length ≤ 1000) :
    Calls Tryd.prog 12 #[.agg #[.bool all, .slice p ls.length c]] w fun e w' => ∃ q d, e = .returned (.agg #[.bool all, .slice q ls.length d]) ∧
      SlA (fun b => w.heap.size ≤ b) (SlE AtmE) w' (.slice q ls.length d) ls ∧ Below w.heap.size w w' :=
  (made_own all p c ls w hl hz hzl).mono fun _ _ ⟨q, d, he, hO, hB⟩ => ⟨q, d, he, SlA.mono (fun b hb => by rcases hb with hb | hb <;> omega) hO.sl, hB⟩
end Go.Proofs.YtdealgleehbhlaaDoor
