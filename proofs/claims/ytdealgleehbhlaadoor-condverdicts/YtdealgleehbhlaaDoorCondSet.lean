/- The contract of cond.Set. -/
import Derived.Test.YtdealgleehbhlaaDoorCondDeep
import Derived.Test.YtdealgleehbhlaaDoorCondSort
import Derived.Test.YtdealgleehbhlaaDoorCondMath2
namespace Go.Proofs.YtdealgleehbhlaaDoor
open Go.RowKit
attribute [local go_sem] Ext.cell Ext.frozen

theorem own_so {w : World} {B : Nat} {e : TypeId} {v : Value} {os : List Out} (h : Own (fun b => b < B) OutE w B e v os) (hne : os ≠ []) (hz : ∀ o ∈ os, Osz o) :
    ∃ blk cap, ∃ xs : List (SO w B), v = .slice (some ⟨blk, 0, none⟩) os.length cap ∧ B ≤ blk ∧ blk < w.heap.size ∧ os.length ≤ cap ∧ xs.map SO.o = os ∧ (∀ i (h : i < xs.length), w.cell? ⟨blk, i * 2, none⟩ = some xs[i].v1 ∧ w.cell? ⟨blk, i * 2 + 1, none⟩ = some xs[i].v2) ∧ ∀ i, w.frozen? ⟨blk, i, none⟩ = false := by
  obtain ⟨cc, h1, h2, h3⟩ := h
  have hlt := h1.lt
  rcases h1.2 with ⟨rfl, h0⟩ | ⟨g, cap, cur, rfl, hb, hbk, hnc, _⟩
  · exact absurd (List.length_eq_zero_iff.1 h0) hne
  · have key : ∀ i (hi : i < os.length), ∃ x : SO w B, x.o = os[i] ∧ cc[i]'(by omega) = [x.v1, x.v2] := fun i hi => by
      obtain ⟨v1, v2, e1, s1, s2⟩ := h3 i hi (by omega)
      exact ⟨⟨v1, v2, os[i], ⟨SlA.mono (fun b hb => hb.1) s1, SlA.mono (fun b hb => hb.1) s2⟩, hz _ (List.getElem_mem hi)⟩, rfl, e1⟩
    refine ⟨g, cap, (List.finRange os.length).map fun i => Classical.choose (key i.1 i.2), rfl, hb, (hlt g rfl).2, hnc, ?_, fun i hi => ?_, fun i => ?_⟩
    · apply List.ext_getElem (by simp)
      intro i hi hi'
      simp only [List.getElem_map, List.getElem_finRange]
      exact (Classical.choose_spec (key i hi')).1
    · have hi' : i < os.length := by simpa using hi
      simp only [List.getElem_map, List.getElem_finRange]
      have hs := (Classical.choose_spec (key i hi')).2
      generalize Classical.choose (key i hi') = x at hs ⊢
      have hlen := Own.lens h3 h2
      have f0 := flat_at hlen (i := i) (j := 0) (by omega) (u := x.v1) (by rw [hs]; rfl)
      have f1 := flat_at hlen (i := i) (j := 1) (by omega) (u := x.v2) (by rw [hs]; rfl)
      have g0 := h1.cells (g := g) rfl _ _ f0
      have g1 := h1.cells (g := g) rfl _ _ f1
      rw [addr_add] at g0 g1
      exact ⟨by simpa [OutE] using g0, by simpa [OutE] using g1⟩
    · simp [World.frozen?, hbk]

/-- The sorted row, read as a list. -/
theorem so_row {w w2 : World} {B blk cap : Nat} {ys : List (SO w B)} (hb : Below B w w2) (hc : ys.length ≤ cap) (h : ∀ i (h : i < ys.length), w2.cell? ⟨blk, i * 2, none⟩ = some ys[i].v1 ∧ w2.cell? ⟨blk, i * 2 + 1, none⟩ = some ys[i].v2) : Sl OutE w2 (.slice (some ⟨blk, 0, none⟩) ys.length cap) (ys.map SO.o) := by
  refine ⟨_, cap, by simp, ⟨(fun e => by cases e), by simpa using hc⟩, fun _ => ⟨blk, 0, rfl, trivial, fun i hi => ?_⟩⟩
  have hi' : i < ys.length := by simpa using hi
  obtain ⟨h0, h1⟩ := h i hi'
  have hA : Agree (fun b => b < B) w w2 := Below.agreeAt hb (fun _ h => h)
  refine ⟨[ys[i].v1, ys[i].v2], ⟨_, _, rfl, ?_, ?_⟩, fun j u hu => ?_⟩
  · rw [List.getElem_map]; exact (ys[i].h.1.agree hA).any
  · rw [List.getElem_map]; exact (ys[i].h.2.agree hA).any
  · match j, hu with
    | 0, hu => simp at hu; subst hu; simpa [OutE] using h0
    | 1, hu => simp at hu; subst hu; simpa [OutE] using h1
    | j + 2, hu => simp at hu

/-- An outcome in a slice of one. -/
theorem out_one {A : Nat → Prop} {w : World} {b c : Nat} {u1 u2 : Value} (x : Out) (hA : A b) (h0 : w.cell? ⟨b, 0, none⟩ = some u1) (h1 : w.cell? ⟨b, 1, none⟩ = some u2) (s1 : SlA A (SlE IntE) w u1 x.regs) (s2 : SlA A IntE w u2 x.mem) (hc : 1 ≤ c := by decide) : SlA A OutE w (.slice (some ⟨b, 0, none⟩) 1 c) [x] := by
  refine ⟨_, c, rfl, ⟨(fun e => by cases e), hc⟩, fun _ => ⟨b, 0, rfl, hA, fun i hi => ?_⟩⟩
  have hi' : i = 0 := by simp at hi; omega
  subst hi'
  refine ⟨[u1, u2], ⟨_, _, rfl, s1, s2⟩, fun j u hu => ?_⟩
  match j, hu with
  | 0, hu => simp at hu; subst hu; simpa using h0
  | 1, hu => simp at hu; subst hu; simpa using h1
  | j + 2, hu => simp at hu

set_option maxHeartbeats 1000000 in
theorem sortStep (v : Value) (os : List Out) (B : Nat) (w : World) (h : Own (fun b => b < B) OutE w B 36 v os) (hz : ∀ o ∈ os, Osz o) (hn : os.length ≤ 1000) :
    ∃ (p : Option Addr) (cap : Nat), v = .slice p os.length cap ∧ Calls Tryd.prog 35 #[.slice p os.length cap, .func (.func 18) #[] #[]] w fun e w' => e = .returned (.tuple #[]) ∧ Below B w w' ∧
      ∃ ts : List Out, ts.length = os.length ∧ upO ts ∧ (∀ x, x ∈ ts ↔ x ∈ os) ∧ Sl OutE w' (.slice p os.length cap) ts := by
  by_cases hne : os = []
  · subst hne
    obtain ⟨p, cap, rfl⟩ := h.len
    refine ⟨p, cap, rfl, (sort_none p cap w).mono ?_⟩
    rintro e w' ⟨rfl, rfl⟩
    exact ⟨rfl, Below.refl _ _, [], rfl, trivial, fun _ => Iff.rfl, h.sl.any⟩
  · obtain ⟨blk, cap, xs, rfl, hB, hblk, hcap, hm, hrow, hfz⟩ := own_so h hne hz
    have hl : os.length = xs.length := by rw [← hm]; simp
    refine ⟨_, cap, rfl, ?_⟩
    rw [hl]
    refine (sort_any w B blk cap xs hB hblk hrow hfz (by omega)).mono ?_
    rintro e w' ⟨rfl, ys, hp, hs, hc, hb⟩
    have hyl := hp.length_eq
    refine ⟨rfl, hb, ys.map SO.o, by simp [hyl], up_of fun i j hj hij => ?_, fun x => ?_, ?_⟩
    · have hj' : j < ys.length := by simpa using hj
      simp only [List.getElem_map]
      exact hs i j hj' hij
    · rw [← hm]
      exact (hp.map SO.o).mem_iff
    · have := so_row (cap := cap) hb (by omega) hc
      rw [hyl] at this
      exact this

set_option maxRecDepth 20000 in
set_option maxHeartbeats 4000000 in
theorem Set_any (q : Option Addr) (d : Nat) (os : List Out) (w : World) (ho : Sl OutE w (.slice q os.length d) os) (hz : ∀ o ∈ os, Ozb o) (hn : os.length ≤ 1000) :
    Calls Tryd.prog 21 #[.slice q os.length d] w fun e w' => ∃ v, e = .returned v ∧ SlA (fun b => w.heap.size ≤ b) OutE w' v (setO [] os) ∧ Below w.heap.size w w' := by
  obtain ⟨i0, z0, j1, j2, j3, j4, j5⟩ := info_get info_out
  have J1 : Hid _ := j1
  have J2 : Hid _ := j2
  have J3 : Hid _ := j3
  have J4 : Hid _ := j4
  have J5 : Hid _ := j5
  clear j1 j2 j3 j4 j5
  have hne : ∀ w, Nonempty (Ext w) := ext_some
  have C := cloneO_any q d os w ho hn
  clear ho
  go_enter Tryd.func21, Tryd.ntmps21
  go_wp2_with (go_at_call 34; refine C.mono ?_; rintro e w1 ⟨v1, rfl, hO1, hb1⟩; obtain ⟨p, cap, rfl, C2⟩ := sortStep v1 os _ w1 hO1 (fun o h => (hz o h).osz) hn)
  clear C
  go_wp2_with (go_at_call 35; refine C2.mono ?_; rintro e w2 ⟨rfl, hb2, ts, hl, hu, hm, hS⟩)
  clear C2
  have hB2 : Below w.heap.size w w2 := hb1.trans hb2
  have hset := dd_set hu hm
  have HZ : Hid (∀ o ∈ ts, Ozb o) := fun o h => hz o ((hm o).1 h)
  clear hz hm hu hO1
  have HSET : Hid _ := hset
  have HL : Hid _ := hl
  have hn2 : ts.length ≤ 1000 := by omega
  have hln : ts.length ≤ os.length := by omega
  clear hset hl
  go_loopw [4, 13] (fun a i wr => ∃ (k : Nat) (out : List Out), k ≤ os.length ∧ i = .int .i64 k ∧ Own (fun b => w2.heap.size ≤ b) OutE wr w2.heap.size 36 a out ∧ out ++ ddO (prevO ts k) (ts.drop k) = ddO none ts ∧ out.length ≤ k ∧ Below w2.heap.size w2 wr) (fun _ i _ => os.length - (intOf i).toNat)
  case atStart => exact ⟨0, [], Nat.zero_le _, rfl, Own.nil, rfl, Nat.le_refl _, Below.refl _ _⟩
  case round =>
    obtain ⟨k, out, hk, rfl, hO, hF, hol, hbr⟩ := hrel
    have HF : Hid _ := hF
    clear hF
    obtain ⟨pa, ca, rfl⟩ := hO.len
    by_cases hlt : k < os.length
    · have hlt2 : k < ts.length := by have := HL.out; omega
      have hSr := hS.keep hbr
      have hlt' : (k : Int) < (os.length : Int) := by omega
      have hat := (out_at hSr).2
      obtain ⟨b, oo, rfl, u1, u2, f1, f2, hU1, hU2⟩ := hat k hlt2
      have hzx := HZ.out _ (List.getElem_mem hlt2)
      generalize hx : ts[k] = x at hU1 hU2 hzx
      have HX : Hid (ts.drop k = x :: ts.drop (k + 1)) := by rw [← hx]; exact drop_at hlt2
      clear hx
      have hU : OutV wr u1 u2 x := ⟨hU1, hU2⟩
      obtain ⟨pu, cu, rfl⟩ := hU1.len
      obtain ⟨pv, cv, rfl⟩ := hU2.len
      have hb2' := (Below.refl wr.heap.size wr).alloc (Nat.le_refl _) (.cells #[.slice pu x.regs.length cu, .slice pv x.mem.length cv] 36)
      have kb : Blk (wr.alloc (.cells #[.slice pu x.regs.length cu, .slice pv x.mem.length cv] 36)) wr.heap.size #[.slice pu x.regs.length cu, .slice pv x.mem.length cv] 36 := Blk.new
      have hown := fun q (hq : (Value.slice pa out.length ca).ownBlock = some q) => (hO.lt q hq)
      have z1 := cell_lt f1
      by_cases hk0 : k = 0
      · subst hk0
        simp only [Nat.zero_mul, Nat.add_zero] at f1 f2
        have HG : Hid (out ++ x :: ddO (prevO ts 1) (ts.drop 1) = ddO none ts) := by have := HF.out; rw [dd_first HX.out] at this; exact this
        go_wp2
        refine wp_region_ext (by kernel_rfl) (by kernel_rfl) ?_
        repeat (go_big_quiet_step (fail))
        refine wpQuiet_nil ?_
        rintro _ ⟨r, rfl⟩
        have hbz : Below wr.heap.size wr r.wd := Below.thru hb2' r.ok (Nat.le_refl _)
        have g1 : r.wd.cell? ⟨wr.heap.size, 0, none⟩ = some (.slice pu x.regs.length cu) := (kb.keep r.ok).cell 0
        have g2 : r.wd.cell? ⟨wr.heap.size, 1, none⟩ = some (.slice pv x.mem.length cv) := (kb.keep r.ok).cell 1
        generalize r.wd = w5 at *
        have CD := deepCopy_any _ _ x w5 (hU.keep hbz) hzx
        have hz5 := hbz.size
        go_wp2_with (first
          | (go_at_call 36; refine CD.mono ?_; rintro e w6 ⟨t1, t2, rfl, hs1, hs2, hb6⟩; obtain ⟨pt1, ct1, rfl⟩ := hs1.len; obtain ⟨pt2, ct2, rfl⟩ := hs2.len)
          | (at_builtin; refine wpList_app (R := OutE) (A := fun b => w2.heap.size ≤ b) (B := fun b => wr.heap.size ≤ b) (xs := out) (ys := [x]) (by rfl) (.tmp 30) (.tmp 33) 25 36 i0 z0 48 (by rfl) Tryd.underlying25 J1.out J2.out J4.out J5.out J3.out w2.heap.size (.slice pa out.length ca) (.slice (some ⟨w6.heap.size, 0, none⟩) 1 1) (by rfl) (by rfl) (hO.keep ((Below.thru hbz hb6 (Nat.le_refl _)).alloc (by have := hb6.size; omega) _)) (out_one x (by have := hb6.size; omega) (by simp) (by simp) (SlA.mono (fun b hb => by omega) (hs1.keep ((Below.refl _ _).alloc (Nat.le_refl _) _))) (SlA.mono (fun b hb => by omega) (hs2.keep ((Below.refl _ _).alloc (Nat.le_refl _) _)))) (fun y _ c hc => OutE.mono (fun b hb => ⟨by have := hbr.size; omega, fun e => by have := hown b e.symm; omega⟩) hc) (by simp; omega) (by decide) (by have := hb6.size; have := hbr.size; simp; omega) ?_; intro p7 c7 w7 hO7 hg7 _))
        go_roundw
        case rel => exact ⟨0 + 1, out ++ [x], by omega, by go_num, by simpa using hO7, by have := HG.out; rw [List.append_assoc]; exact this, by rw [List.length_append]; simp only [List.length_cons, List.length_nil]; omega, ((Below.thru hbr (Below.thru hbz hb6 (Nat.le_refl _)) (Nat.le_refl _)).alloc (by have := hb6.size; have := hbr.size; omega) _).grown hg7 (by have := hb6.size; have := hbr.size; simp; omega) (fun q hq => (hown q hq).1)⟩
        case measure => simp [intOf]; omega
      · obtain ⟨j, rfl⟩ : ∃ j, k = j + 1 := ⟨k - 1, by omega⟩
        have HAT : Hid _ := hat
        clear hat
        obtain ⟨b', o', he, y1, y2, g1, g2, hY1, hY2⟩ := HAT.out j (by omega)
        simp only [Option.some.injEq, Addr.mk.injEq, and_true] at he
        obtain ⟨rfl, rfl⟩ := he
        have hzy := (HZ.out _ (List.getElem_mem (show j < ts.length by omega))).osz
        have hyj : ts[j]? = some ts[j] := List.getElem?_eq_getElem _
        generalize hy : ts[j] = y at hY1 hY2 hzy hyj
        have HG := HF.out
        rw [dd_next hyj HX.out] at HG
        clear hy hyj
        have hY : OutV wr y1 y2 y := ⟨hY1, hY2⟩
        obtain ⟨py, cy, rfl⟩ := hY1.len
        obtain ⟨pz, cz, rfl⟩ := hY2.len
        have h0 : ((j : Int) + 1 == 0) = false := by simp only [beq_eq_false_iff_ne, ne_eq]; omega
        have hj1 : (j : Int) < (os.length : Int) := by omega
        have HC := fun q : Ext (wr.alloc (.cells #[.slice pu x.regs.length cu, .slice pv x.mem.length cv] 36)) => Compare_any _ _ _ _ y x q.wd ((hY.keep hb2').keep q.ok) ((hU.keep hb2').keep q.ok) hzy
        obtain ⟨r, hr⟩ : ∃ r, cmpO y x = r := ⟨_, rfl⟩
        rw [hr] at HC HG
        have HC : Hid _ := HC
        clear hr
        by_cases hr0 : r = 0
        · have hr' : (r != 0) = false := by simpa using hr0
          rw [if_neg (by simpa using hr0)] at HG
          have HG : Hid _ := HG
          clear hr0
          go_wp2
          refine wp_region_ext (by kernel_rfl) (by kernel_rfl) ?_
          repeat (go_big_quiet_step ((go_at_call 18; exact calls_ext (HC.out _))))
          refine wpQuiet_nil ?_
          rintro _ ⟨rr, rfl⟩
          have hbz : Below wr.heap.size wr rr.wd := Below.thru hb2' rr.ok (Nat.le_refl _)
          go_wp2
          go_roundw
          case rel => exact ⟨j + 1 + 1, out, by omega, by go_num, hO.keep hbz, HG.out, by omega, Below.thru hbr hbz (Nat.le_refl _)⟩
          case measure => simp [intOf]; omega
        · have hr' : (r != 0) = true := by simpa using hr0
          rw [if_pos hr0] at HG
          have HG : Hid _ := HG
          clear hr0
          go_wp2
          refine wp_region_ext (by kernel_rfl) (by kernel_rfl) ?_
          repeat (go_big_quiet_step ((go_at_call 18; exact calls_ext (HC.out _))))
          refine wpQuiet_nil ?_
          rintro _ ⟨rr, rfl⟩
          have hbz : Below wr.heap.size wr rr.wd := Below.thru hb2' rr.ok (Nat.le_refl _)
          have g1 : rr.wd.cell? ⟨wr.heap.size, 0, none⟩ = some (.slice pu x.regs.length cu) := (kb.keep rr.ok).cell 0
          have g2 : rr.wd.cell? ⟨wr.heap.size, 1, none⟩ = some (.slice pv x.mem.length cv) := (kb.keep rr.ok).cell 1
          generalize rr.wd = w5 at *
          have CD := deepCopy_any _ _ x w5 (hU.keep hbz) hzx
          have hz5 := hbz.size
          go_wp2_with (first
            | (go_at_call 36; refine CD.mono ?_; rintro e w6 ⟨t1, t2, rfl, hs1, hs2, hb6⟩; obtain ⟨pt1, ct1, rfl⟩ := hs1.len; obtain ⟨pt2, ct2, rfl⟩ := hs2.len)
            | (at_builtin; refine wpList_app (R := OutE) (A := fun b => w2.heap.size ≤ b) (B := fun b => wr.heap.size ≤ b) (xs := out) (ys := [x]) (by rfl) (.tmp 30) (.tmp 33) 25 36 i0 z0 48 (by rfl) Tryd.underlying25 J1.out J2.out J4.out J5.out J3.out w2.heap.size (.slice pa out.length ca) (.slice (some ⟨w6.heap.size, 0, none⟩) 1 1) (by rfl) (by rfl) (hO.keep ((Below.thru hbz hb6 (Nat.le_refl _)).alloc (by have := hb6.size; omega) _)) (out_one x (by have := hb6.size; omega) (by simp) (by simp) (SlA.mono (fun b hb => by omega) (hs1.keep ((Below.refl _ _).alloc (Nat.le_refl _) _))) (SlA.mono (fun b hb => by omega) (hs2.keep ((Below.refl _ _).alloc (Nat.le_refl _) _)))) (fun y _ c hc => OutE.mono (fun b hb => ⟨by have := hbr.size; omega, fun e => by have := hown b e.symm; omega⟩) hc) (by simp; omega) (by decide) (by have := hb6.size; have := hbr.size; simp; omega) ?_; intro p7 c7 w7 hO7 hg7 _))
          go_roundw
          case rel => exact ⟨j + 1 + 1, out ++ [x], by omega, by go_num, by simpa using hO7, by have := HG.out; rw [List.append_assoc]; exact this, by rw [List.length_append]; simp only [List.length_cons, List.length_nil]; omega, ((Below.thru hbr (Below.thru hbz hb6 (Nat.le_refl _)) (Nat.le_refl _)).alloc (by have := hb6.size; have := hbr.size; omega) _).grown hg7 (by have := hb6.size; have := hbr.size; simp; omega) (fun q hq => (hown q hq).1)⟩
          case measure => simp [intOf]; omega
    · have e : out = ddO none ts := by have := HF.out; rw [List.drop_of_length_le (by omega)] at this; simpa [ddO] using this
      have HE : Hid _ := e.trans HSET.out
      clear e
      go_wp2
      go_ret
      exact ⟨_, rfl, by rw [← HE.out]; exact SlA.mono (fun b hb => by have := hB2.size; rcases hb with hb | hb <;> omega) hO.sl, Below.thru hB2 hbr (Nat.le_refl _)⟩
end Go.Proofs.YtdealgleehbhlaaDoor
