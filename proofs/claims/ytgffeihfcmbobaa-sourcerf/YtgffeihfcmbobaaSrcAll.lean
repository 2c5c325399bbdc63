/- Contract of source.All's closure that calls itself, and of source.All. -/
import Derived.Test.YtgffeihfcmbobaaSrcBegin
import Derived.Test.YtgffeihfcmbobaaCloneN
namespace Go.Proofs.Ytgffeihfcmbobaa
open Go.RowKit
attribute [local go_sem] Ext.cell Ext.frozen

theorem elemCho : Try.prog.elem 62 = 68 := by kernel_rfl
theorem cho_cut {A : Nat → Prop} {w : World} {q : Option Addr} {p : Nat × List Int} {ps : List (Nat × List Int)} {d : Nat} (h : SlA A ChoE w (.slice q (ps.length + 1) d) (p :: ps)) :
    ∃ a2 c2, (∀ w, (Instr.slice 62 (.slice q (ps.length + 1) d) (some (.int .i64 1)) none none).run Try.prog w = .ok (.slice a2 ps.length c2) w) ∧ SlA A ChoE w (.slice a2 ps.length c2) ps := by
  have hc := h.cap
  have hs : ∀ w, (Go.sizeOf (Try.prog.elem 62)).run Try.prog w = .ok 2 w := fun w => by rw [elemCho]; exact Try.sizeOf68 w
  obtain ⟨p', c', he, h0, _⟩ := id h
  simp only [Value.slice.injEq] at he
  obtain ⟨rfl, -, rfl⟩ := he
  simp only [List.length_cons] at hc
  refine ⟨if d = 1 then q else q.map (·.add 2), d - 1, fun w => ?_, ?_⟩
  · rw [run_slice_l (ht := by rw [elemCho]; exact Try.underlying62) (h0 := by omega) (h1 := by omega), hs]
    simp [sliced, Result.andThen]
  · by_cases h1 : ps = []
    · subst h1
      refine ⟨_, _, rfl, ⟨fun e => ?_, by simp⟩, fun e => absurd rfl e⟩
      split at e
      · omega
      · cases q with
        | none => have := h0.1 rfl; omega
        | some a => simp at e
    · have hp : 0 < ps.length := List.length_pos_iff.2 h1
      obtain ⟨b, o, rfl, hp⟩ := h.part (i := 1) (k := ps.length) (c' := d - 1) (by simp only [List.length_cons]; omega) hp (by omega)
      rw [if_neg (by omega)]
      have e : ((p :: ps).drop 1).take ps.length = ps := by simp
      rw [e] at hp
      simpa [addr_add, ChoE] using hp

/-- What stays: where the way lies, and the closure itself. -/
structure ChFix (W : World) (n bl bw bg g base : Nat) : Prop where
  way : Blk W bw #[.slice (some ⟨g, 0, none⟩) n n] 24
  fn : Blk W bg #[.func (.func 27) #[] #[.pointer (some ⟨bl, 0, none⟩), .pointer (some ⟨bw, 0, none⟩), .pointer (some ⟨bg, 0, none⟩)]] 65
  d1 : bl ≠ bw ∧ bl ≠ bg ∧ bw ≠ g ∧ bg ≠ g ∧ bl ≠ g
  lo : bl < base ∧ bw < base ∧ bg < base ∧ g < base
/-- What turns. -/
structure ChInv (W : World) (n bl g base : Nat) (lv : Value) (acc : List (List Int)) (u : List Int) : Prop where
  all : Blk W bl #[lv] 39
  own : Own (fun b => base ≤ b) (SlE IntE) W base 24 lv acc
  row : RowZ W g u
  len : u.length = n
  sz : base ≤ W.heap.size
def hotCh (bl g base : Nat) : Nat → Prop := fun k => k = bl ∨ k = g ∨ base ≤ k
/-- Where nothing of the closure's own lies. -/
def coldCh (bl g base : Nat) : Nat → Prop := fun k => k ≠ bl ∧ k ≠ g ∧ k < base
section
variable {W W' : World} {n bl bw bg g base : Nat} {lv : Value} {acc : List (List Int)} {u : List Int}
theorem ChFix.only (h : ChFix W n bl bw bg g base) (ho : Only (hotCh bl g base) W W') : ChFix W' n bl bw bg g base := by
  obtain ⟨d1, d2, d3, d4, d5⟩ := h.d1
  obtain ⟨l1, l2, l3, l4⟩ := h.lo
  exact ⟨h.way.only ho (fun e => by rcases e with e | e | e <;> omega), h.fn.only ho (fun e => by rcases e with e | e | e <;> omega), h.d1, h.lo⟩
theorem hot_trans {W'' : World} (_ : base ≤ W.heap.size) (h : Only (hotCh bl g base) W W') (k : Only (hotCh bl g base) W' W'') : Only (hotCh bl g base) W W'' := h.trans k fun _ hb' => .inl hb'
theorem below_hot (h : Below W.heap.size W W') : Only (hotCh bl g base) W W' := Below.only h
end
def ChPost (ps : List (Nat × List Int)) (W : World) (n bl g base : Nat) (acc : List (List Int)) (u : List Int) (e : Ending) (W' : World) : Prop :=
  e = .returned (.tuple #[]) ∧ Only (hotCh bl g base) W W' ∧ ∃ lv u', ChInv W' n bl g base lv (acc ++ genL ps u) u' ∧ ButAt ps u u'
def ChOk (n bl bw bg g base : Nat) (ps : List (Nat × List Int)) : Prop :=
  ∀ (W : World) (lv : Value) (acc : List (List Int)) (u : List Int) (gv : Value), ChFix W n bl bw bg g base → ChInv W n bl g base lv acc u → SlA (coldCh bl g base) ChoE W gv ps → (∀ p ∈ ps, p.1 < n) → acc.length + genN ps ≤ 100000 → ps.length ≤ 1000 →
    Calls Try.prog 27 #[gv, .pointer (some ⟨bl, 0, none⟩), .pointer (some ⟨bw, 0, none⟩), .pointer (some ⟨bg, 0, none⟩)] W (ChPost ps W n bl g base acc u)

set_option maxRecDepth 20000 in
set_option maxHeartbeats 8000000 in
theorem cho_nil (n bl bw bg g base : Nat) (hn : n ≤ 1000) : ChOk n bl bw bg g base [] := by
  intro W lv acc u gv F I hgv _ hN _
  rw [genN] at hN
  obtain ⟨q, cq, rfl⟩ := hgv.len
  obtain ⟨po, co, rfl⟩ := I.own.len
  have hrow := I.row.sl (A := fun _ => True) trivial
  rw [I.len] at hrow
  have hC := fun W' (hB : Below W.heap.size W W') => cloneN_any (some ⟨g, 0, none⟩) n u W' (by rw [I.len]; exact hrow.keep hB) (by rw [I.len]; omega)
  rw [I.len] at hC
  have HC : Hid _ := hC
  clear hC hrow
  obtain ⟨i0, z0, j1, j2, j3, j4, j5⟩ := cl_get (show ((Try.prog.info? 24).map fun i => (i.zero.map (·.cells.size), i.size, i.bytes)) = some (some 1, 1, 24) by kernel_rfl)
  have J1 : Hid _ := j1
  have J2 : Hid _ := j2
  have J3 : Hid _ := j3
  have J4 : Hid _ := j4
  have J5 : Hid _ := j5
  clear j1 j2 j3 j4 j5
  have t0 := I.all.cell 0
  have t1 := F.way.cell 0
  have lt0 := I.all.lt
  have lt1 := F.way.lt
  simp only [List.getElem?_toArray, List.getElem?_cons_zero] at t0 t1
  have hne : ∀ w, Nonempty (Ext w) := ext_some
  have hne2 : Nonempty AnyW := anyW_some
  go_enter Try.func27, Try.ntmps27
  go_wp2
  refine wp_region_mixL [([0, 1], 2, false), ([], 3, false), ([], 4, true), ([], 5, true)] [] [4, 5] (by kernel_rfl) (by kernel_rfl) (fun _ _ d _ _ h => by cases d <;> exact h) ?_
  dsimp only [List.map, mapL, opAt]
  refine wpMixL_stage ?_
  repeat (go_big_quiet_step (fail))
  refine wpQuiet_nil ?_
  have hD : Below W.heap.size W W.drew := (Below.refl _ _).drew
  go_wp2_with (go_at_call 28; refine (HC.out _ hD).mono ?_; rintro e w4 ⟨v4, rfl, hV4, hb4⟩)
  obtain ⟨p4, c4, rfl⟩ := hV4.len
  have B4 := hD.trans hb4
  refine ⟨.inr B4, ?_⟩
  refine wpMixL_stage ?_
  refine wpQuiet_nil ?_
  go_wp2
  obtain ⟨w5, hw5, b5, kN⟩ : ∃ w5, w5 = w4.alloc (.cells #[.slice p4 u.length c4] 24) ∧ Below w4.heap.size w4 w5 ∧ Blk w5 w4.heap.size #[.slice p4 u.length c4] 24 := ⟨_, rfl, below_new _ _, Blk.new⟩
  rw [← hw5]
  clear hw5
  have B5 := Below.thru B4 b5 (Nat.le_refl _)
  refine ⟨.inr B5, ?_⟩
  refine wpMixL_stage ?_
  refine wpQuiet_nil ?_
  have hz4 := B4.size
  have hz5 := B5.size
  have hzI := I.sz
  have hzd : W.drew.heap.size = W.heap.size := rfl
  have hO5 := I.own.keep B5
  have hOo := fun b hb => (I.own.lt b hb).2
  have l1 : SlA (fun b => W.heap.size ≤ b) (SlE IntE) w5 (.slice (some ⟨w4.heap.size, 0, none⟩) 1 1) [u] := sl_one hz4 (by rw [kN.cell 0]; rfl) (hV4.keep b5) (Nat.le_refl _)
  go_wp2_with (at_builtin; refine wpList_app (R := SlE IntE) (A := fun b => base ≤ b) (B := fun b => W.heap.size ≤ b) (xs := acc) (ys := [u]) (by rfl) (.tmp 10) (.tmp 13) 39 24 i0 z0 24 (by rfl) Try.underlying39 J1.out J2.out J4.out J5.out J3.out base (.slice po acc.length co) (.slice (some ⟨w4.heap.size, 0, none⟩) 1 1) (by rfl) (by rfl) hO5 l1 (fun _ _ _ h => (SlE IntE).mono (fun x hx => ⟨Nat.le_trans hzI hx, fun e => absurd (hOo x e.symm) (Nat.not_lt.2 hx)⟩) h) (by simp only [List.length_cons, List.length_nil]; omega) (by decide) (by omega) ?_; intro p6 c6 w6 hO6 hg6 hv6)
  obtain ⟨d1, d2, d3, d4, d5⟩ := F.d1
  obtain ⟨l1, l2, l3, l4⟩ := F.lo
  have ka6 : Blk w6 bl #[.slice po acc.length co] 39 := (I.all.keep B5).grown hg6 (fun e => by have := (hO5.lt bl e.symm).1; omega)
  have kr6 : RowZ w6 g u := (I.row.keep B5).grown hg6 (fun e => by have := (hO5.lt g e.symm).1; omega)
  have o6 : Only (hotCh bl g base) W w6 := (below_hot B5).trans (grownBy_only (A := hotCh bl g base) hg6 fun b hb => .inr (.inr (hO5.lt b hb).1)) fun _ h => .inl h
  refine ⟨.inl trivial, ?_⟩
  refine wpMixL_stage_late ?_
  refine wpQuiet_nil ?_
  have fa6 := ka6.frozen 0
  have ca6 := ka6.cell 0
  have la6 := ka6.lt
  simp only [List.getElem?_toArray, List.getElem?_cons_zero] at ca6
  go_wp2
  refine ⟨.inl trivial, ?_⟩
  refine wpMixL_last ?_
  refine wpQuiet_nil ?_
  rw [show (acc ++ [u]).length = acc.length + 1 by simp] at hO6
  have oS := setCell_only w6 bl 0 (.slice p6 (acc.length + 1) c6)
  have ka7 := ka6.set (i := 0) (.slice p6 (acc.length + 1) c6)
  have hO7 := hO6.only oS (fun b hb e => by have := (hO6.lt b hb).1; omega) (fun b hb e => by omega)
  have kr7 := kr6.only oS (fun e => d5 e.symm)
  have hz7 := oS.size
  have hz6 := o6.size
  have o7 := hot_trans hzI o6 (oS.mono fun b e => .inl e)
  go_wp2
  go_returns
  exact ⟨rfl, o7, _, u, ⟨ka7, hO7, kr7, I.len, by omega⟩, ButAt.refl _ _⟩

theorem gen_next {p : Nat × List Int} {ps : List (Nat × List Int)} {u : List Int} {j : Nat} {x : Int} (h : p.2[j]? = some x) : (p.2.take (j + 1)).flatMap (fun x => genL ps (u.set p.1 x)) = (p.2.take j).flatMap (fun x => genL ps (u.set p.1 x)) ++ genL ps (u.set p.1 x) := by
  rw [List.take_add_one, h, Option.toList_some, List.flatMap_append, List.flatMap_cons, List.flatMap_nil, List.append_nil]
theorem gen_part (p : Nat × List Int) (ps : List (Nat × List Int)) (u : List Int) {j : Nat} (hj : j ≤ p.2.length) : ((p.2.take j).flatMap (fun x => genL ps (u.set p.1 x))).length = j * genN ps := by
  induction j with
  | zero => simp
  | succ j ih => rw [gen_next (List.getElem?_eq_getElem (by omega)), List.length_append, ih (by omega), genL_len, Nat.succ_mul]

set_option maxRecDepth 20000 in
set_option maxHeartbeats 16000000 in
theorem cho_cons (n bl bw bg g base : Nat) (p : Nat × List Int) (ps : List (Nat × List Int)) (ih : ChOk n bl bw bg g base ps) (hp2 : p.2.length ≤ 100000) : ChOk n bl bw bg g base (p :: ps) := by
  intro W lv acc u gv F I hgv hlt hN hpl
  have IH : Hid (ChOk n bl bw bg g base ps) := ih
  clear ih
  rw [genN] at hN
  obtain ⟨q, cq, rfl⟩ := hgv.len
  obtain ⟨cb, co, vm, rfl, hcb, hvm, a0, a1⟩ := (cho_at hgv).2 0 (by simp)
  simp only [List.getElem_cons_zero, Nat.zero_mul, Nat.add_zero] at hvm a0 a1
  obtain ⟨pm, cm, rfl⟩ := hvm.len
  have la := cell_lt a0
  simp only [List.length_cons] at hgv ⊢ hpl
  obtain ⟨a2, c2, hcut, hcs⟩ := cho_cut hgv
  have hpn := hlt p List.mem_cons_self
  have hlt2 := fun x hx => hlt x (List.mem_cons_of_mem _ hx)
  have HLT : Hid _ := hlt2
  clear hlt hlt2
  have hne : ∀ w, Nonempty (Ext w) := ext_some
  have hne2 : Nonempty AnyW := anyW_some
  have hcold : ∀ b, coldCh bl g base b → ¬ hotCh bl g base b := fun b hb h => by
    rcases h with h | h | h
    · exact hb.1 h
    · exact hb.2.1 h
    · exact Nat.not_lt.2 h hb.2.2
  have HN : Hid _ := hN
  have hz0 : (((ps.length : Int) + 1) == 0) = false := by rw [beq_eq_false_iff_ne]; omega
  clear hN
  go_enter Try.func27, Try.ntmps27
  go_wp2
  go_loopw [20] (fun i wr => ∃ (j : Nat) (lv' : Value) (u' : List Int), j ≤ p.2.length ∧ i = .int .i64 j ∧ Only (hotCh bl g base) W wr ∧ ChInv wr n bl g base lv' (acc ++ (p.2.take j).flatMap fun x => genL ps (u.set p.1 x)) u' ∧ ButAt (p :: ps) u u') (fun i _ => p.2.length - (Go.RowKit.intOf i).toNat)
  case atStart => exact ⟨0, lv, u, Nat.zero_le _, rfl, Only.refl, by simpa using I, ButAt.refl _ _⟩
  case round =>
    obtain ⟨j, lv', u', hj, rfl, hor, Ir, hbu⟩ := hrel
    have Fr := F.only hor
    have hag := hor.agree hcold
    by_cases hjl : j < p.2.length
    · have hjl' : (j : Int) < (p.2.length : Int) := by omega
      obtain ⟨mb, mo, rfl, m0⟩ := (ints_at (hvm.agree hag)).2 j hjl
      have b0 := cell_agree a0 hcb hag
      have lb := cell_lt b0
      have lm := cell_lt m0
      have hgn := gen_next (ps := ps) (u := u) (List.getElem?_eq_getElem hjl)
      have hgl := gen_part p ps u hj
      generalize p.2[j] = x at *
      have hcsr := hcs.agree hag
      have w0 := Fr.way.cell 0
      have lw := Fr.way.lt
      have f0 := Fr.fn.cell 0
      have lf := Fr.fn.lt
      simp only [List.getElem?_toArray, List.getElem?_cons_zero] at w0 f0
      have hul := Ir.len
      have r0 := Ir.row.cell (i := p.1) (by omega)
      have rf := Ir.row.frozen p.1
      have rl := Ir.row.lt
      have hpn' : (p.1 : Int) < (n : Int) := by omega
      have HGN : Hid _ := hgn
      have HGL : Hid _ := hgl
      clear hgn hgl
      go_wp2
      refine wp_region_mixL [([0, 1, 2, 3, 4, 5, 6], 7, true)] [] [7] (by kernel_rfl) (by kernel_rfl) (fun _ _ d _ _ h => by cases d <;> exact h) ?_
      dsimp only [List.map, mapL, opAt]
      refine wpMixL_stage ?_
      repeat (go_big_quiet_step (fail))
      refine wpQuiet_nil ?_
      have k5 : RowZ (wr.setCell ⟨g, p.1, none⟩ (.int .i64 x)).drew g (u'.set p.1 x) := Blk.drew (RowZ.set Ir.row p.1 x)
      have o5 : Only (fun k => k = g) wr (wr.setCell ⟨g, p.1, none⟩ (.int .i64 x)).drew := (setCell_only _ _ _ _).drewR
      go_wp2
      refine ⟨.inl trivial, ?_⟩
      refine wpMixL_last ?_
      refine wpQuiet_nil ?_
      generalize (wr.setCell ⟨g, p.1, none⟩ (.int .i64 x)).drew = w5 at *
      have o5h : Only (hotCh bl g base) wr w5 := o5.mono fun _ e => .inr (.inl e)
      have F5 := Fr.only o5h
      obtain ⟨d1, d2, d3, d4, d5⟩ := F.d1
      obtain ⟨l1, l2, l3, l4⟩ := F.lo
      have hz5 := o5.size
      have I5 : ChInv w5 n bl g base lv' (acc ++ (p.2.take j).flatMap fun x => genL ps (u.set p.1 x)) (u'.set p.1 x) :=
        ⟨Ir.all.only o5 d5, Ir.own.only o5 (fun b hb e => by have := (Ir.own.lt b hb).1; omega) (fun b hb e => by omega), k5, by rw [List.length_set]; exact hul, Nat.le_trans Ir.sz hz5⟩
      have hcs5 := hcsr.agree (o5h.agree hcold)
      have f5 := F5.fn.cell 0
      have lf5 := F5.fn.lt
      simp only [List.getElem?_toArray, List.getElem?_cons_zero] at f5
      have hbound : (acc ++ (p.2.take j).flatMap fun x => genL ps (u.set p.1 x)).length + genN ps ≤ 100000 := by
        rw [List.length_append, HGL.out]
        have h1 := HN.out
        have h2 : (j + 1) * genN ps ≤ p.2.length * genN ps := Nat.mul_le_mul_right _ hjl
        rw [Nat.succ_mul] at h2
        omega
      have hD5 : Below w5.heap.size w5 w5.drew := (Below.refl _ _).drew
      have F6 := F5.only (below_hot (bl := bl) (g := g) (base := base) hD5)
      have I6 : ChInv w5.drew n bl g base lv' (acc ++ (p.2.take j).flatMap fun x => genL ps (u.set p.1 x)) (u'.set p.1 x) :=
        ⟨I5.all.keep hD5, I5.own.keep hD5, I5.row.keep hD5, I5.len, I5.sz⟩
      have CC := IH.out w5.drew lv' _ _ _ F6 I6 (hcs5.keep hD5) HLT.out hbound (by omega)
      have HCC : Hid (Calls _ _ _ _ _) := CC
      have oA : Only (hotCh bl g base) W w5.drew := hot_trans I.sz (hot_trans I.sz hor o5h) (below_hot hD5)
      clear CC m0 b0 w0 f0 r0 rf rl lb lm lw lf hbound I6 F6
      go_wp2
      refine wp_region_mixL [([0, 1, 2], 3, true)] [] [3] (by kernel_rfl) (by kernel_rfl) (fun _ _ d _ _ h => by cases d <;> exact h) ?_
      dsimp only [List.map, mapL, opAt]
      refine wpMixL_stage ?_
      repeat (go_big_quiet_step (fail))
      refine wpQuiet_nil ?_
      go_wp2_with (go_at_call 27; refine HCC.out.mono ?_; rintro e w7 ⟨rfl, o7, lv7, u7, I7, b7⟩)
      refine ⟨.inl trivial, ?_⟩
      refine wpMixL_last ?_
      refine wpQuiet_nil ?_
      go_wp2
      go_roundw
      case rel => exact ⟨j + 1, lv7, u7, by omega, by go_num, hot_trans I.sz oA o7, by
        rw [HGN.out, ← List.append_assoc]
        rw [genL_but (hbu.symm.set x)] at I7
        exact I7, (hbu.trans (ButAt.put p ps u' x)).trans b7.more⟩
      case measure => simp [Go.RowKit.intOf]; omega
    · have e : p.2.take j = p.2 := List.take_of_length_le (by omega)
      rw [e] at Ir
      clear e
      have hjl' : ¬ (j : Int) < (p.2.length : Int) := by omega
      go_wp2
      go_returns
      exact ⟨rfl, hor, lv', u', by rw [genL]; exact Ir, hbu⟩
end Go.Proofs.Ytgffeihfcmbobaa
