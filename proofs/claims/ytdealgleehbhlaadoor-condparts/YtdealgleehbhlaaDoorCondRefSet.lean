/- Contracts of the document's answers: Put and Set. -/
import Derived.Test.YtdealgleehbhlaaDoorCondRefSame
import Derived.Test.YtdealgleehbhlaaDoorCondMath2
import Derived.Test.YtdealgleehbhlaaDoorRepO
namespace Go.Proofs.YtdealgleehbhlaaDoor
open Go.RowKit
attribute [local go_sem] Ext.cell Ext.frozen

theorem put_lower {o x : Out} {l r : List Out} (h : l = x :: r) (hc : cmpO x o = -1) : putO o l = x :: putO o r := by
  subst h; simp [putO, hc]
theorem put_same {o x : Out} {l r : List Out} (h : l = x :: r) (hc : cmpO x o = 0) : putO o l = l := by
  subst h; simp [putO, hc]
theorem put_higher {o x : Out} {l r : List Out} (h : l = x :: r) (hc : cmpO x o = 1) : putO o l = o :: l := by
  subst h; simp [putO, hc]
theorem put_len (o : Out) : ∀ a : List Out, (putO o a).length ≤ a.length + 1
  | [] => by simp [putO]
  | x :: a => by
    have := put_len o a
    simp only [putO]
    split
    · simp; omega
    · split <;> simp
theorem take_next {α : Type} {l r : List α} {x : α} {k : Nat} (h : l.drop k = x :: r) : l.take (k + 1) = l.take k ++ [x] := by
  have hx : l[k]? = some x := by have := congrArg (·[0]?) h; simpa using this
  rw [List.take_add_one, hx]; rfl

/-- An outcome in a row of one, that may lie anywhere. -/
theorem slO_out {A : Nat → Prop} {w : World} {b c : Nat} {u1 u2 : Value} (x : Out) (h0 : w.cell? ⟨b, 0, none⟩ = some u1) (h1 : w.cell? ⟨b, 1, none⟩ = some u2) (s1 : SlA A (SlE IntE) w u1 x.regs) (s2 : SlA A IntE w u2 x.mem) (hc : 1 ≤ c := by decide) : SlO A OutE w (.slice (some ⟨b, 0, none⟩) 1 c) [x] := by
  refine ⟨_, c, rfl, ⟨(fun e => by cases e), hc⟩, fun _ => ⟨b, 0, rfl, fun i hi => ?_⟩⟩
  have hi' : i = 0 := by simp at hi; omega
  subst hi'
  refine ⟨[u1, u2], ⟨_, _, rfl, s1, s2⟩, fun j u hu => ?_⟩
  match j, hu with
  | 0, hu => simp at hu; subst hu; simpa using h0
  | 1, hu => simp at hu; subst hu; simpa using h1
  | j + 2, hu => simp at hu

theorem elemOut : Tryd.prog.elem 25 = 36 := by kernel_rfl
theorem out_cuts {A : Nat → Prop} {w : World} {q : Option Addr} {l : List Out} {d k : Nat} (h : SlA A OutE w (.slice q l.length d) l) (hk : k ≤ l.length) : ∃ a1 a2 c1 c2, (∀ w, (Instr.slice 25 (.slice q l.length d) none (some (.int .i64 (k : Int))) none).run Tryd.prog w = .ok (.slice a1 (l.take k).length c1) w) ∧
    (∀ w, (Instr.slice 25 (.slice q l.length d) (some (.int .i64 (k : Int))) none none).run Tryd.prog w = .ok (.slice a2 (l.drop k).length c2) w) ∧ SlA A OutE w (.slice a1 (l.take k).length c1) (l.take k) ∧ SlA A OutE w (.slice a2 (l.drop k).length c2) (l.drop k) := by
  have hc := h.cap
  have hs : ∀ w, (Go.sizeOf (Tryd.prog.elem 25)).run Tryd.prog w = .ok 2 w := fun w => by rw [elemOut]; exact Tryd.sizeOf36 w
  obtain ⟨p', c', he, h0, _⟩ := id h
  simp only [Value.slice.injEq, true_and] at he
  obtain ⟨rfl, rfl⟩ := he
  refine ⟨q, if d = k then q else q.map (·.add (k * 2)), d, d - k, fun w => ?_, fun w => ?_, ?_, ?_⟩
  · rw [run_slice_h (ht := by rw [elemOut]; exact Tryd.underlying25) (h0 := by omega) (h2 := by omega), hs]
    simp [sliced, Result.andThen, List.length_take, Nat.min_eq_left hk]
    intro _
    cases q <;> simp [Addr.add]
  · rw [run_slice_l (ht := by rw [elemOut]; exact Tryd.underlying25) (h0 := by omega) (h1 := by omega), hs]
    simp [sliced, Result.andThen]
  · by_cases h1 : k = 0
    · subst h1
      exact ⟨_, _, rfl, ⟨h0.1, by simp⟩, fun e => absurd rfl e⟩
    · obtain ⟨b, o, rfl, hp⟩ := h.part (i := 0) (k := k) (c' := d) (by omega) (by omega) (by omega)
      simpa [List.length_take, Nat.min_eq_left hk] using hp
  · by_cases h1 : k = l.length
    · subst h1
      simp only [List.drop_length]
      refine ⟨_, _, rfl, ⟨fun e => ?_, by simp⟩, fun e => absurd rfl e⟩
      split at e
      · omega
      · cases q with
        | none => have := h0.1 rfl; omega
        | some a => simp at e
    · obtain ⟨b, o, rfl, hp⟩ := h.part (i := k) (k := l.length - k) (c' := d - k) (by omega) (by omega) (by omega)
      rw [if_neg (by omega)]
      have e : (l.drop k).take (l.length - k) = l.drop k := List.take_of_length_le (by simp)
      rw [e] at hp
      simpa [addr_add, OutE] using hp

theorem put_src {α : Type} {R : Elem α} {w w6 : World} {B : Nat} {e : TypeId} {v u : Value} {t1 : List Out} {xs : List α} (h : Own (fun b => b < B) OutE w6 B e v t1) (hs : SlA (fun b => b < B) R w u xs) : SlA (fun b => b < B ∧ some b ≠ v.ownBlock) R w u xs :=
  SlA.mono (fun b hb => ⟨hb, fun e => by have := (h.lt b e.symm).1; omega⟩) hs

set_option maxRecDepth 20000 in
set_option maxHeartbeats 4000000 in
theorem Put_any (q : Option Addr) (d : Nat) (l : List Out) (v1 v2 : Value) (o : Out) (w : World) (hl : Sl OutE w (.slice q l.length d) l) (ho : OutV w v1 v2 o) (hz : ∀ o ∈ l, Osz o) (hn : l.length ≤ 1000) :
    Calls Tryd.prog 37 #[.slice q l.length d, .agg #[v1, v2]] w fun e w' => ∃ v, e = .returned v ∧ Sl OutE w' v (putO o l) ∧ Below w.heap.size w w' := by
  obtain ⟨i0, z0, j1, j2, j3, j4, j5⟩ := info_get info_out
  have J1 : Hid _ := j1
  have J2 : Hid _ := j2
  have J3 : Hid _ := j3
  have J4 : Hid _ := j4
  have J5 : Hid _ := j5
  clear j1 j2 j3 j4 j5
  have HZ : Hid _ := hz
  clear hz
  have hne : ∀ w, Nonempty (Ext w) := ext_some
  obtain ⟨p1, c1, rfl⟩ := ho.1.len
  obtain ⟨p2, c2, rfl⟩ := ho.2.len
  have hb1 := (Below.refl w.heap.size w).alloc (Nat.le_refl _) (.cells #[.slice p1 o.regs.length c1, .slice p2 o.mem.length c2] 36)
  have k1 : Blk (w.alloc (.cells #[.slice p1 o.regs.length c1, .slice p2 o.mem.length c2] 36)) w.heap.size #[.slice p1 o.regs.length c1, .slice p2 o.mem.length c2] 36 := Blk.new
  have hl1 := hl.keep hb1
  have ho1 := ho.keep hb1
  go_enter Tryd.func37, Tryd.ntmps37
  go_wp2
  generalize w.alloc (.cells #[.slice p1 o.regs.length c1, .slice p2 o.mem.length c2] 36) = w1 at *
  go_loopw [5] (fun i wr => ∃ k : Nat, k ≤ l.length ∧ i = .int .i64 k ∧ l.take k ++ putO o (l.drop k) = putO o l ∧ Below w1.heap.size w1 wr) (fun i _ => l.length - (intOf i).toNat)
  case atStart => exact ⟨0, Nat.zero_le _, rfl, by simp, Below.refl _ _⟩
  case round =>
    obtain ⟨k, hk, rfl, hF, hbr⟩ := hrel
    have HF : Hid _ := hF
    clear hF
    have hbw : Below w.heap.size w wr := Below.thru hb1 hbr (Nat.le_refl _)
    have e1 : wr.cell? ⟨w.heap.size, 0, none⟩ = some (.slice p1 o.regs.length c1) := (k1.keep hbr).cell 0
    have e2 : wr.cell? ⟨w.heap.size, 1, none⟩ = some (.slice p2 o.mem.length c2) := (k1.keep hbr).cell 1
    have z1 := cell_lt e1
    by_cases hlt : k < l.length
    · obtain ⟨b2, o2, rfl, x1, x2, g1, g2, hX1, hX2⟩ := (out_at (hl1.keep hbr)).2 k hlt
      have hzx := HZ.out _ (List.getElem_mem hlt)
      generalize hy : l[k] = y at hX1 hX2 hzx
      have HY : Hid (l.drop k = y :: l.drop (k + 1)) := by rw [← hy]; exact drop_at hlt
      clear hy
      have hX : OutV wr x1 x2 y := ⟨hX1, hX2⟩
      obtain ⟨px, cx, rfl⟩ := hX1.len
      obtain ⟨py, cy, rfl⟩ := hX2.len
      have z2 := cell_lt g1
      have hlt' : (k : Int) < (l.length : Int) := by omega
      have HC := fun (w' : World) (h : Below wr.heap.size wr w') => refCompare_any _ _ _ _ y o w' (hX.keep h) ((ho1.keep hbr).keep h) hzx
      obtain ⟨r, hr⟩ : ∃ r, cmpO y o = r := ⟨_, rfl⟩
      rw [hr] at HC
      have HC : Hid _ := HC
      have hrr := cmpO_range y o
      rw [hr] at hrr
      have HR : Hid _ := hr
      clear hr
      rcases hrr with rfl | rfl | rfl
      · go_wp2
        refine wp_region_ext (by kernel_rfl) (by kernel_rfl) ?_
        repeat (go_big_quiet_step ((go_at_call 19; exact calls_ext (HC.out _ (Ext.ok _)))))
        refine wpQuiet_nil ?_
        rintro _ ⟨rr, rfl⟩
        go_wp2
        go_roundw
        case rel => exact ⟨k + 1, by omega, by go_num, by have := HF.out; rw [put_lower HY.out HR.out] at this; rw [take_next HY.out, List.append_assoc]; exact this, Below.thru hbr rr.ok (Nat.le_refl _)⟩
        case measure => simp [intOf]; omega
      · go_wp2
        refine wp_region_ext (by kernel_rfl) (by kernel_rfl) ?_
        repeat (go_big_quiet_step ((go_at_call 19; exact calls_ext (HC.out _ (Ext.ok _)))))
        refine wpQuiet_nil ?_
        rintro _ ⟨rr, rfl⟩
        generalize hw2 : rr.wd = w2
        have hb2 : Below wr.heap.size wr w2 := by rw [← hw2]; exact rr.ok
        clear hw2 rr
        have hbw2 : Below w.heap.size w w2 := Below.thru hbw hb2 (Nat.le_refl _)
        have e12 := cell_keep e1 hb2
        have e22 := cell_keep e2 hb2
        have g12 := cell_keep g1 hb2
        have g22 := cell_keep g2 hb2
        have z12 := cell_lt e12
        have z22 := cell_lt g12
        go_wp2
        refine wp_region_ext (by kernel_rfl) (by kernel_rfl) ?_
        repeat (go_big_quiet_step ((go_at_call 19; exact calls_ext (HC.out _ (Below.thru hb2 (Ext.ok _) (Nat.le_refl _))))))
        refine wpQuiet_nil ?_
        rintro _ ⟨rr, rfl⟩
        go_wp2
        go_ret
        exact ⟨_, rfl, by rw [← HF.out, put_same HY.out HR.out, List.take_append_drop]; exact hl.keep (Below.thru hbw2 rr.ok (Nat.le_refl _)), Below.thru hbw2 rr.ok (Nat.le_refl _)⟩
      · go_wp2
        refine wp_region_ext (by kernel_rfl) (by kernel_rfl) ?_
        repeat (go_big_quiet_step ((go_at_call 19; exact calls_ext (HC.out _ (Ext.ok _)))))
        refine wpQuiet_nil ?_
        rintro _ ⟨rr, rfl⟩
        generalize hw2 : rr.wd = w2
        have hb2 : Below wr.heap.size wr w2 := by rw [← hw2]; exact rr.ok
        clear hw2 rr
        have hbw2 : Below w.heap.size w w2 := Below.thru hbw hb2 (Nat.le_refl _)
        have e12 := cell_keep e1 hb2
        have e22 := cell_keep e2 hb2
        have g12 := cell_keep g1 hb2
        have g22 := cell_keep g2 hb2
        have z12 := cell_lt e12
        have z22 := cell_lt g12
        go_wp2
        refine wp_region_ext (by kernel_rfl) (by kernel_rfl) ?_
        repeat (go_big_quiet_step ((go_at_call 19; exact calls_ext (HC.out _ (Below.thru hb2 (Ext.ok _) (Nat.le_refl _))))))
        refine wpQuiet_nil ?_
        rintro _ ⟨rr, rfl⟩
        generalize hw3 : rr.wd = w3
        have hb3 : Below w2.heap.size w2 w3 := by rw [← hw3]; exact rr.ok
        clear hw3 rr
        have hbw3 : Below w.heap.size w w3 := Below.thru hbw2 hb3 (Nat.le_refl _)
        have e13 := cell_keep e12 hb3
        have e23 := cell_keep e22 hb3
        have z13 := cell_lt e13
        have ho3 := ho.keep hbw3
        have hl3 : SlA (fun b => b < w3.heap.size) OutE w3 (.slice (some ⟨b2, o2, none⟩) l.length d) l := (hl.keep hbw3).old
        obtain ⟨a1, a2, d1, d2, S1, S2, hs1, hs2⟩ := out_cuts (k := k) hl3 (by omega)
        have hb4 := (Below.refl w3.heap.size w3).alloc (Nat.le_refl _) (.cells #[] 36)
        have kk : Blk (w3.alloc (.cells #[] 36)) w3.heap.size #[] 36 := Blk.new
        have HL1 : Hid ((l.take k).length ≤ 1000) := show (l.take k).length ≤ 1000 by rw [List.length_take]; omega
        have HL2 : Hid ((l.drop k).length ≤ 1000) := show (l.drop k).length ≤ 1000 by rw [List.length_drop]; omega
        have HG : Hid (l.take k ++ [o] ++ l.drop k = putO o l) := by rw [← HF.out, put_higher HY.out HR.out, List.append_assoc]; rfl
        generalize l.take k = t1 at *
        generalize l.drop k = t2 at *
        go_wp2_with (first
          | (at_builtin; refine wpList_app (R := OutE) (A := fun b => b < w3.heap.size) (B := fun b => b < w3.heap.size) (xs := []) (ys := t1) (by rfl) (.tmp 36) (.tmp 39) 25 36 i0 z0 48 (by rfl) Tryd.underlying25 J1.out J2.out J4.out J5.out J3.out w3.heap.size (.slice (some ⟨w3.heap.size, 0, none⟩) 0 0) (.slice a1 t1.length d1) (by rfl) (by rfl) (own_new (Nat.le_refl _) kk) (hs1.keep hb4) (fun _ _ _ h => OutE.mono (fun b hb => ⟨hb, fun e => by simp [Value.ownBlock] at e; omega⟩) h) (by have := HL1.out; simp only [List.length_nil]; omega) (by decide) (by simp) ?_; intro p6 c6 w6 hO6 hg6 _; simp only [List.nil_append] at hO6 ⊢; have hb6 : Below w3.heap.size w3 w6 := hb4.grown hg6 (by simp) (fun k hk => by simp [Value.ownBlock] at hk; omega); have e16 := cell_keep e13 hb6; have e26 := cell_keep e23 hb6)
          | (at_builtin; refine wpList_appO (R := OutE) (A := fun b => b < w3.heap.size) (xs := t1) (ys := [o]) (by rfl) (.tmp 41) (.tmp 43) 25 36 i0 z0 48 (by rfl) Tryd.underlying25 J1.out J2.out J4.out J5.out J3.out w3.heap.size (.slice p6 t1.length c6) (.slice (some ⟨w6.heap.size, 0, none⟩) 1 1) (by rfl) (by rfl) (hO6.keep ((Below.refl _ _).alloc (Nat.le_refl _) _)) (slO_out o (by simp) (by simp) (put_src hO6 (ho3.1.old.keep (Below.thru hb6 ((Below.refl _ _).alloc (Nat.le_refl _) _) (Nat.le_refl _)))) (put_src hO6 (ho3.2.old.keep (Below.thru hb6 ((Below.refl _ _).alloc (Nat.le_refl _) _) (Nat.le_refl _))))) (by have := HL1.out; simp only [List.length_cons, List.length_nil]; omega) (by decide) (by have := hb6.size; simp; omega) ?_; intro p7 c7 w7 hO7 hg7 _; have hb7 : Below w3.heap.size w3 w7 := (hb6.alloc hb6.size _).grown hg7 (by have := hb6.size; simp; omega) (fun k hk => (hO6.lt k hk).1); obtain ⟨t3, ht3⟩ : ∃ t3, t1 ++ [o] = t3 := ⟨_, rfl⟩; rw [ht3] at hO7 ⊢; have HG3 : Hid (t3 ++ t2 = putO o l) := ht3 ▸ HG; have HL3 : Hid (t3.length ≤ 1001) := (by rw [← ht3, List.length_append, List.length_singleton]; exact Nat.succ_le_succ HL1.out); clear ht3)
          | (at_builtin; refine wpList_app (R := OutE) (A := fun b => b < w3.heap.size) (B := fun b => b < w3.heap.size) (xs := t3) (ys := t2) (by rfl) (.tmp 45) (.tmp 48) 25 36 i0 z0 48 (by rfl) Tryd.underlying25 J1.out J2.out J4.out J5.out J3.out w3.heap.size (.slice p7 t3.length c7) (.slice a2 t2.length d2) (by rfl) (by rfl) hO7 (hs2.keep hb7) (fun _ _ _ h => OutE.mono (fun b hb => ⟨hb, fun e => by have := (hO7.lt b e.symm).1; omega⟩) h) (by have := HL3.out; have := HL2.out; omega) (by decide) (by have := hb7.size; omega) ?_; intro p8 c8 w8 hO8 hg8 _; have hb8 : Below w3.heap.size w3 w8 := hb7.grown hg8 (by have := hb7.size; omega) (fun k hk => (hO7.lt k hk).1)))
        go_ret
        exact ⟨_, rfl, by have e := hO8.sl.any; rw [List.length_append] at e; rw [← HG3.out]; exact e, Below.thru hbw3 hb8 (Nat.le_refl _)⟩
    · go_wp2
      refine wp_region_ext (by kernel_rfl) (by kernel_rfl) ?_
      repeat (go_big_quiet_step (fail))
      refine wpQuiet_nil ?_
      rintro _ ⟨rr, rfl⟩
      generalize hw2 : rr.wd = w2
      have hb2 : Below wr.heap.size wr w2 := by rw [← hw2]; exact rr.ok
      clear hw2 rr
      go_wp2
      refine wp_region_ext (by kernel_rfl) (by kernel_rfl) ?_
      repeat (go_big_quiet_step (fail))
      refine wpQuiet_nil ?_
      rintro _ ⟨rr, rfl⟩
      generalize hw3 : rr.wd = w3
      have hb3 : Below w2.heap.size w2 w3 := by rw [← hw3]; exact rr.ok
      clear hw3 rr
      have hbw2 : Below w.heap.size w w2 := Below.thru hbw hb2 (Nat.le_refl _)
      have e12 := cell_keep e1 hb2
      have e22 := cell_keep e2 hb2
      have hbw3 : Below w.heap.size w w3 := Below.thru hbw2 hb3 (Nat.le_refl _)
      have e13 := cell_keep e12 hb3
      have e23 := cell_keep e22 hb3
      have z13 := cell_lt e13
      have ho3 := ho.keep hbw3
      have hl3 : SlA (fun b => b < w3.heap.size) OutE w3 (.slice q l.length d) l := (hl.keep hbw3).old
      obtain ⟨a1, a2, d1, d2, S1, S2, hs1, hs2⟩ := out_cuts (k := k) hl3 (by omega)
      have hb4 := (Below.refl w3.heap.size w3).alloc (Nat.le_refl _) (.cells #[] 36)
      have kk : Blk (w3.alloc (.cells #[] 36)) w3.heap.size #[] 36 := Blk.new
      have HL1 : Hid ((l.take k).length ≤ 1000) := show (l.take k).length ≤ 1000 by rw [List.length_take]; omega
      have HL2 : Hid ((l.drop k).length ≤ 1000) := show (l.drop k).length ≤ 1000 by rw [List.length_drop]; omega
      have HG : Hid (l.take k ++ [o] ++ l.drop k = putO o l) := by have e := HF.out; rw [List.drop_of_length_le (show l.length ≤ k by omega)] at e ⊢; rw [← e]; rw [List.append_nil]; rfl
      generalize l.take k = t1 at *
      generalize l.drop k = t2 at *
      go_wp2_with (first
        | (at_builtin; refine wpList_app (R := OutE) (A := fun b => b < w3.heap.size) (B := fun b => b < w3.heap.size) (xs := []) (ys := t1) (by rfl) (.tmp 36) (.tmp 39) 25 36 i0 z0 48 (by rfl) Tryd.underlying25 J1.out J2.out J4.out J5.out J3.out w3.heap.size (.slice (some ⟨w3.heap.size, 0, none⟩) 0 0) (.slice a1 t1.length d1) (by rfl) (by rfl) (own_new (Nat.le_refl _) kk) (hs1.keep hb4) (fun _ _ _ h => OutE.mono (fun b hb => ⟨hb, fun e => by simp [Value.ownBlock] at e; omega⟩) h) (by have := HL1.out; simp only [List.length_nil]; omega) (by decide) (by simp) ?_; intro p6 c6 w6 hO6 hg6 _; simp only [List.nil_append] at hO6 ⊢; have hb6 : Below w3.heap.size w3 w6 := hb4.grown hg6 (by simp) (fun k hk => by simp [Value.ownBlock] at hk; omega); have e16 := cell_keep e13 hb6; have e26 := cell_keep e23 hb6)
        | (at_builtin; refine wpList_appO (R := OutE) (A := fun b => b < w3.heap.size) (xs := t1) (ys := [o]) (by rfl) (.tmp 41) (.tmp 43) 25 36 i0 z0 48 (by rfl) Tryd.underlying25 J1.out J2.out J4.out J5.out J3.out w3.heap.size (.slice p6 t1.length c6) (.slice (some ⟨w6.heap.size, 0, none⟩) 1 1) (by rfl) (by rfl) (hO6.keep ((Below.refl _ _).alloc (Nat.le_refl _) _)) (slO_out o (by simp) (by simp) (put_src hO6 (ho3.1.old.keep (Below.thru hb6 ((Below.refl _ _).alloc (Nat.le_refl _) _) (Nat.le_refl _)))) (put_src hO6 (ho3.2.old.keep (Below.thru hb6 ((Below.refl _ _).alloc (Nat.le_refl _) _) (Nat.le_refl _))))) (by have := HL1.out; simp only [List.length_cons, List.length_nil]; omega) (by decide) (by have := hb6.size; simp; omega) ?_; intro p7 c7 w7 hO7 hg7 _; have hb7 : Below w3.heap.size w3 w7 := (hb6.alloc hb6.size _).grown hg7 (by have := hb6.size; simp; omega) (fun k hk => (hO6.lt k hk).1); obtain ⟨t3, ht3⟩ : ∃ t3, t1 ++ [o] = t3 := ⟨_, rfl⟩; rw [ht3] at hO7 ⊢; have HG3 : Hid (t3 ++ t2 = putO o l) := ht3 ▸ HG; have HL3 : Hid (t3.length ≤ 1001) := (by rw [← ht3, List.length_append, List.length_singleton]; exact Nat.succ_le_succ HL1.out); clear ht3)
        | (at_builtin; refine wpList_app (R := OutE) (A := fun b => b < w3.heap.size) (B := fun b => b < w3.heap.size) (xs := t3) (ys := t2) (by rfl) (.tmp 45) (.tmp 48) 25 36 i0 z0 48 (by rfl) Tryd.underlying25 J1.out J2.out J4.out J5.out J3.out w3.heap.size (.slice p7 t3.length c7) (.slice a2 t2.length d2) (by rfl) (by rfl) hO7 (hs2.keep hb7) (fun _ _ _ h => OutE.mono (fun b hb => ⟨hb, fun e => by have := (hO7.lt b e.symm).1; omega⟩) h) (by have := HL3.out; have := HL2.out; omega) (by decide) (by have := hb7.size; omega) ?_; intro p8 c8 w8 hO8 hg8 _; have hb8 : Below w3.heap.size w3 w8 := hb7.grown hg8 (by have := hb7.size; omega) (fun k hk => (hO7.lt k hk).1)))
      go_ret
      exact ⟨_, rfl, by have e := hO8.sl.any; rw [List.length_append] at e; rw [← HG3.out]; exact e, Below.thru hbw3 hb8 (Nat.le_refl _)⟩
set_option maxHeartbeats 1000000 in
theorem refSet_any (q : Option Addr) (d : Nat) (l : List Out) (w : World) (hl : Sl OutE w (.slice q l.length d) l) (hz : ∀ o ∈ l, Osz o) (hn : l.length ≤ 500) :
    Calls Tryd.prog 22 #[.slice q l.length d] w fun e w' => ∃ v, e = .returned v ∧ Sl OutE w' v (setO [] l) ∧ Below w.heap.size w w' := by
  have HZ : Hid _ := hz
  clear hz
  go_enter Tryd.func22, Tryd.ntmps22
  go_wp2
  go_loopw [3, 4] (fun a i wr => ∃ (k : Nat) (out : List Out), k ≤ l.length ∧ i = .int .i64 k ∧ Sl OutE wr a out ∧ out.length ≤ k ∧ (∀ o ∈ out, Osz o) ∧ setO out (l.drop k) = setO [] l ∧ Below w.heap.size w wr) (fun _ i _ => l.length - (intOf i).toNat)
  case atStart => exact ⟨0, [], Nat.zero_le _, rfl, SlA.nil, Nat.le_refl _, by simp, rfl, Below.refl _ _⟩
  case round =>
    obtain ⟨k, out, hk, rfl, hO, hol, hoz, hF, hbr⟩ := hrel
    have HF : Hid _ := hF
    have HO : Hid _ := hoz
    clear hF hoz
    obtain ⟨po, co, rfl⟩ := hO.len
    by_cases hlt : k < l.length
    · obtain ⟨b, oo, rfl, u1, u2, f1, f2, hU1, hU2⟩ := (out_at (hl.keep hbr)).2 k hlt
      have hzx := HZ.out _ (List.getElem_mem hlt)
      generalize hx : l[k] = x at hU1 hU2 hzx
      have HX : Hid (l.drop k = x :: l.drop (k + 1)) := by rw [← hx]; exact drop_at hlt
      clear hx
      have hU : OutV wr u1 u2 x := ⟨hU1, hU2⟩
      obtain ⟨pu, cu, rfl⟩ := hU1.len
      obtain ⟨pv, cv, rfl⟩ := hU2.len
      have hlt' : (k : Int) < (l.length : Int) := by omega
      have C := Put_any po co out _ _ x wr hO hU HO.out (by omega)
      go_wp2_with (go_at_call 37; refine C.mono ?_; rintro e w2 ⟨v2, rfl, hs2, hb2⟩)
      go_roundw
      case rel => exact ⟨k + 1, putO x out, by omega, by go_num, hs2, by have := put_len x out; omega, fun o h => (put_mem.1 h).elim (fun e => e ▸ hzx) (HO.out o), by have := HF.out; rw [HX.out] at this; exact this, Below.thru hbr hb2 (Nat.le_refl _)⟩
      case measure => simp [intOf]; omega
    · go_wp2
      go_ret
      exact ⟨_, rfl, by have := HF.out; rw [List.drop_of_length_le (by omega)] at this; rw [← this]; exact hO, hbr⟩
end Go.Proofs.YtdealgleehbhlaaDoor
