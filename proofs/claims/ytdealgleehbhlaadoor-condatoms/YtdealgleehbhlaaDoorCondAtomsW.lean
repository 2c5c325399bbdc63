/- The walk of CondAtoms. -/
import Derived.Test.YtdealgleehbhlaaDoorCondFew
import Derived.Test.YtdealgleehbhlaaDoorCondEval2
import Derived.Test.YtdealgleehbhlaaDoorCondClone
import Derived.Test.YtdealgleehbhlaaDoorCondOpen
import Derived.Test.YtdealgleehbhlaaDoorMixT
namespace Go.Proofs.YtdealgleehbhlaaDoor
open Go.RowKit
attribute [local go_sem] Ext.cell Ext.frozen

theorem Own.monoA {α : Type} {A B : Nat → Prop} {R : Elem α} {w : World} {base : Nat} {e : TypeId} {v : Value} {xs : List α} (hAB : ∀ b, A b → B b) (h : Own A R w base e v xs) : Own B R w base e v xs := by
  obtain ⟨cc, h1, h2, h3⟩ := h
  exact ⟨cc, h1, h2, fun i hi hi' => R.mono (fun b hb => ⟨hAB b hb.1, hb.2⟩) (h3 i hi hi')⟩

theorem elemAtms : Tryd.prog.elem 29 = 50 := by kernel_rfl
theorem lists_first {A : Nat → Prop} {w : World} {q : Option Addr} {l : List (List Atm)} {d : Nat} (h : SlA A (SlE AtmE) w (.slice q l.length d) l) (hk : 0 < l.length) :
    (∀ w, (Instr.slice 29 (.slice q l.length d) none (some (.int .i64 1)) none).run Tryd.prog w = .ok (.slice q 1 d) w) ∧ SlA A (SlE AtmE) w (.slice q 1 d) (l.take 1) := by
  have hc := h.cap
  have hs : ∀ w, (Go.sizeOf (Tryd.prog.elem 29)).run Tryd.prog w = .ok 1 w := fun w => by rw [elemAtms]; exact Tryd.sizeOf50 w
  constructor
  · intro w
    rw [run_slice_h (ht := by rw [elemAtms]; exact Tryd.underlying29) (h0 := by omega) (h2 := by omega), hs]
    simp [sliced, Result.andThen]
    intro _
    cases q <;> simp [Addr.add]
  · obtain ⟨b, o, rfl, hp⟩ := h.part (i := 0) (k := 1) (c' := d) (by omega) (by omega) (by omega)
    simpa using hp
theorem Own.ltA {α : Type} {A : Nat → Prop} {R : Elem α} {w : World} {base : Nat} {e : TypeId} {v : Value} {xs : List α} (h : Own A R w base e v xs) : Own (fun b => A b ∧ b < w.heap.size) R w base e v xs := by
  obtain ⟨cc, h1, h2, h3⟩ := h
  exact ⟨cc, h1, h2, fun i hi hi' => R.mono (fun b hb => ⟨⟨hb.1.1, hb.2⟩, hb.1.2⟩) (R.lt (h3 i hi hi'))⟩
theorem Own.baseA {α : Type} {A : Nat → Prop} {R : Elem α} {w : World} {base base' : Nat} {e : TypeId} {v : Value} {xs : List α} (h : Own A R w base e v xs) (hb : base' ≤ base) : Own A R w base' e v xs := by
  obtain ⟨cc, h1, h2, h3⟩ := h
  refine ⟨cc, ⟨h1.1, ?_⟩, h2, h3⟩
  rcases h1.2 with h | ⟨g, cap, cur, a, b, c⟩
  · exact .inl h
  · exact .inr ⟨g, cap, cur, a, Nat.le_trans hb b, c⟩
theorem atoms_world (w7 : World) (all : Bool) (q7 : Option Addr) (m d7 : Nat) (x : Atm) : 
    Below w7.heap.size w7 (((w7.alloc (.cells #[.bool all, .slice q7 m d7] 31)).alloc (.cells #[.int .i64 x.thr, .int .i64 x.pos, .int .i64 x.val, .bool x.neg] 49)).alloc (.cells #[.slice (some ⟨w7.heap.size + 1, 0, none⟩) 1 1] 50)) ∧
    Blk (((w7.alloc (.cells #[.bool all, .slice q7 m d7] 31)).alloc (.cells #[.int .i64 x.thr, .int .i64 x.pos, .int .i64 x.val, .bool x.neg] 49)).alloc (.cells #[.slice (some ⟨w7.heap.size + 1, 0, none⟩) 1 1] 50)) w7.heap.size #[.bool all, .slice q7 m d7] 31 ∧
    SlA (fun b => w7.heap.size + 1 ≤ b) (SlE AtmE) (((w7.alloc (.cells #[.bool all, .slice q7 m d7] 31)).alloc (.cells #[.int .i64 x.thr, .int .i64 x.pos, .int .i64 x.val, .bool x.neg] 49)).alloc (.cells #[.slice (some ⟨w7.heap.size + 1, 0, none⟩) 1 1] 50)) (.slice (some ⟨w7.heap.size + 1 + 1, 0, none⟩) 1 1) [[x]] :=
  ⟨by go_grown, (Blk.new.alloc _).alloc _, by
    have kr : Blk (((w7.alloc (.cells #[.bool all, .slice q7 m d7] 31)).alloc (.cells #[.int .i64 x.thr, .int .i64 x.pos, .int .i64 x.val, .bool x.neg] 49)).alloc (.cells #[.slice (some ⟨w7.heap.size + 1, 0, none⟩) 1 1] 50)) (w7.heap.size + 1) #[.int .i64 x.thr, .int .i64 x.pos, .int .i64 x.val, .bool x.neg] 49 := (Blk.newAt (by simp)).alloc _
    have ks : Blk (((w7.alloc (.cells #[.bool all, .slice q7 m d7] 31)).alloc (.cells #[.int .i64 x.thr, .int .i64 x.pos, .int .i64 x.val, .bool x.neg] 49)).alloc (.cells #[.slice (some ⟨w7.heap.size + 1, 0, none⟩) 1 1] 50)) (w7.heap.size + 1 + 1) #[.slice (some ⟨w7.heap.size + 1, 0, none⟩) 1 1] 50 := Blk.newAt (by simp)
    exact sl_one (by omega) (ks.cell 0) (atm_one x (by omega) ⟨kr.cell 0, kr.cell 1, kr.cell 2, kr.cell 3⟩) (Nat.le_refl _)⟩

set_option maxRecDepth 100000 in
set_option maxHeartbeats 8000000 in
theorem CondAtoms_true (all : Bool) (p : Option Addr) (c : Nat) (ls : List (List Atm)) (a : Atm) (u0 w0 : Value) (o : Out) (w : World) (E : Pow w) (hl : Sl (SlE AtmE) w (.slice p ls.length c) ls) (_ : ∀ l ∈ ls, ∀ a ∈ l, Asz a) (_ : Asz a) (ho : OutV w u0 w0 o) (_ : Ozb o) :
    Calls Tryd.prog 7 #[.agg #[.bool all, .slice p ls.length c], a.v, .agg #[u0, w0]] w fun e w' => e = .returned (.bool true) ∧ Below w.heap.size w w' := by
  obtain ⟨i0, z0, j1, j2, j3, j4, j5⟩ := info_get info_atms
  have J1 : Hid _ := j1
  have J2 : Hid _ := j2
  have J3 : Hid _ := j3
  have J4 : Hid _ := j4
  have J5 : Hid _ := j5
  clear j1 j2 j3 j4 j5
  obtain ⟨i1, z1, j1, j2, j3, j4, j5⟩ := info_get info_atm
  have L1 : Hid _ := j1
  have L2 : Hid _ := j2
  have L3 : Hid _ := j3
  have L4 : Hid _ := j4
  have L5 : Hid _ := j5
  clear j1 j2 j3 j4 j5
  obtain ⟨t, ps, vv, n⟩ := a
  simp only [Atm.v]
  obtain ⟨p1, c1, rfl⟩ := ho.1.len
  obtain ⟨p2, c2, rfl⟩ := ho.2.len
  obtain ⟨nr, hnr⟩ : ∃ m, o.regs.length = m := ⟨_, rfl⟩
  obtain ⟨nm, hnm⟩ : ∃ m, o.mem.length = m := ⟨_, rfl⟩
  rw [hnr, hnm] at ho ⊢
  clear hnr hnm
  have hb1 : Below w.heap.size w (((w.alloc (.cells #[.bool all, .slice p ls.length c] 24)).alloc (.cells #[.int .i64 t, .int .i64 ps, .int .i64 vv, .bool n] 48)).alloc (.cells #[.slice p1 nr c1, .slice p2 nm c2] 36)) := by go_grown
  have k1 : Blk (((w.alloc (.cells #[.bool all, .slice p ls.length c] 24)).alloc (.cells #[.int .i64 t, .int .i64 ps, .int .i64 vv, .bool n] 48)).alloc (.cells #[.slice p1 nr c1, .slice p2 nm c2] 36)) w.heap.size #[.bool all, .slice p ls.length c] 24 := (Blk.new.alloc _).alloc _
  have k2 : Blk (((w.alloc (.cells #[.bool all, .slice p ls.length c] 24)).alloc (.cells #[.int .i64 t, .int .i64 ps, .int .i64 vv, .bool n] 48)).alloc (.cells #[.slice p1 nr c1, .slice p2 nm c2] 36)) (w.heap.size + 1) #[.int .i64 t, .int .i64 ps, .int .i64 vv, .bool n] 48 := (Blk.newAt (by simp)).alloc _
  have k3 : Blk (((w.alloc (.cells #[.bool all, .slice p ls.length c] 24)).alloc (.cells #[.int .i64 t, .int .i64 ps, .int .i64 vv, .bool n] 48)).alloc (.cells #[.slice p1 nr c1, .slice p2 nm c2] 36)) (w.heap.size + 2) #[.slice p1 nr c1, .slice p2 nm c2] 36 := Blk.newAt (by simp)
  have C0 := shown_any _ (E.below hb1)
  have CF := fun (w' : World) (h : Below w.heap.size w w') => few_any all p c ls w' (hl.keep h)
  go_enter Tryd.func7, Tryd.ntmps7
  cases hf : fewB ls
  · rw [hf] at CF
    have CF : Hid _ := CF
    go_wp2_with (first
      | (go_at_call 9; refine C0.mono ?_; rintro e w2 ⟨rfl, hb2⟩; have e0 : w2.cell? ⟨w.heap.size, 0, none⟩ = some (.bool _) := (k1.keep hb2).cell 0; have e1 : w2.cell? ⟨w.heap.size, 1, none⟩ = some (.slice p ls.length c) := (k1.keep hb2).cell 1)
      | (go_at_call 10; refine Calls.mono (CF.out _ (Below.thru hb1 hb2 (Nat.le_refl _))) ?_; rintro e w3 ⟨rfl, hb3⟩))
    go_ret
    exact ⟨rfl, Below.thru (Below.thru hb1 hb2 (Nat.le_refl _)) hb3 (Nat.le_refl _)⟩
  · rw [hf] at CF
    have CF : Hid _ := CF
    obtain ⟨hz, hzl⟩ := few_yes hf
    clear hf
    by_cases h0 : ls.length = 0
    · have h0' : ((ls.length : Int) == 0) = true := len_eq0 h0
      clear h0
      go_wp2_with (first
        | (go_at_call 9; refine C0.mono ?_; rintro e w2 ⟨rfl, hb2⟩; have e0 : w2.cell? ⟨w.heap.size, 0, none⟩ = some (.bool _) := (k1.keep hb2).cell 0; have e1 : w2.cell? ⟨w.heap.size, 1, none⟩ = some (.slice p ls.length c) := (k1.keep hb2).cell 1)
        | (go_at_call 10; refine Calls.mono (CF.out _ (Below.thru hb1 hb2 (Nat.le_refl _))) ?_; rintro e w3 ⟨rfl, hb3⟩; have f0 := cell_keep e0 hb3; have f1 := cell_keep e1 hb3))
      go_ret
      exact ⟨rfl, Below.thru (Below.thru hb1 hb2 (Nat.le_refl _)) hb3 (Nat.le_refl _)⟩
    · have h0' : ((ls.length : Int) == 0) = false := len_ne0 h0
      have CM := fun (w' : World) (h : Below w.heap.size w w') => made_own all p c ls w' (hl.keep h) (by omega) (fun l hl => by have := hzl l hl; omega)
      have CM : Hid _ := CM
      have HL1 : Hid (∀ l ∈ ls, l.length ≤ 20) := hzl
      clear hzl
      have F1 := trivial
      go_wp2_with (first
        | (go_at_call 9; refine C0.mono ?_; rintro e w2 ⟨rfl, hb2⟩; have e0 : w2.cell? ⟨w.heap.size, 0, none⟩ = some (.bool _) := (k1.keep hb2).cell 0; have e1 : w2.cell? ⟨w.heap.size, 1, none⟩ = some (.slice p ls.length c) := (k1.keep hb2).cell 1)
        | (go_at_call 10; refine Calls.mono (CF.out _ (Below.thru hb1 hb2 (Nat.le_refl _))) ?_; rintro e w3 ⟨rfl, hb3⟩; have f0 := cell_keep e0 hb3; have f1 := cell_keep e1 hb3; have k23 := (k2.keep hb2).keep hb3; have g0 : w3.cell? ⟨w.heap.size + 1, 0, none⟩ = some (.int .i64 t) := k23.cell 0; have g1 : w3.cell? ⟨w.heap.size + 1, 1, none⟩ = some (.int .i64 ps) := k23.cell 1; have g2 : w3.cell? ⟨w.heap.size + 1, 2, none⟩ = some (.int .i64 vv) := k23.cell 2; have g3 : w3.cell? ⟨w.heap.size + 1, 3, none⟩ = some (.bool n) := k23.cell 3; have y0 := cell_lt f0; have y1 := cell_lt g0))
      have hB3 := Below.thru (Below.thru hb1 hb2 (Nat.le_refl _)) hb3 (Nat.le_refl _)
      have kc3 := (k1.keep hb2).keep hb3
      have ko3 := (k3.keep hb2).keep hb3
      have hb4 : Below w3.heap.size w3 ((w3.alloc (.cells #[.int .i64 t, .int .i64 ps, .int .i64 vv, .bool n] 49)).alloc (.cells #[.int .i64 t, .int .i64 ps, .int .i64 vv, .bool !n] 49)) := by go_grown
      have kx4 : Blk ((w3.alloc (.cells #[.int .i64 t, .int .i64 ps, .int .i64 vv, .bool n] 49)).alloc (.cells #[.int .i64 t, .int .i64 ps, .int .i64 vv, .bool !n] 49)) w3.heap.size #[.int .i64 t, .int .i64 ps, .int .i64 vv, .bool n] 49 := Blk.new.alloc _
      have ky4 : Blk ((w3.alloc (.cells #[.int .i64 t, .int .i64 ps, .int .i64 vv, .bool n] 49)).alloc (.cells #[.int .i64 t, .int .i64 ps, .int .i64 vv, .bool !n] 49)) (w3.heap.size + 1) #[.int .i64 t, .int .i64 ps, .int .i64 vv, .bool !n] 49 := Blk.newAt (by simp)
      generalize ((w3.alloc (.cells #[.int .i64 t, .int .i64 ps, .int .i64 vv, .bool n] 49)).alloc (.cells #[.int .i64 t, .int .i64 ps, .int .i64 vv, .bool !n] 49)) = w4 at *
      have hB4 := Below.thru hB3 hb4 (Nat.le_refl _)
      have kc4 := kc3.keep hb4
      have ko4 := ko3.keep hb4
      clear C0 CF e0 e1 f0 f1 g0 g1 g2 g3 k1 k2 k3 k23 kc3 ko3 hb1 hb2 hb3 hB3 F1
      generalize w3.heap.size = X at *
      refine Calls.mono (CM.out _ hB4) ?_
      rintro e w5 ⟨q5, d5, rfl, own1, hb5⟩
      have s1 := own1.sl.any
      clear own1
      have kc5 := kc4.keep hb5
      have ko5 := ko4.keep hb5
      have kx5 := kx4.keep hb5
      have ky5 := ky4.keep hb5
      have hB5 := Below.thru hB4 hb5 (Nat.le_refl _)
      have e0 : w5.cell? ⟨w.heap.size, 0, none⟩ = some (.bool all) := kc5.cell 0
      have e1 : w5.cell? ⟨w.heap.size, 1, none⟩ = some (.slice p ls.length c) := kc5.cell 1
      have y0' := cell_lt e0
      clear kc4 ko4 kx4 ky4 hb4 hb5
      have hb6 : Below w5.heap.size w5 (w5.alloc (.cells #[.bool all, .slice q5 ls.length d5] 31)) := by go_grown
      have hB6 := Below.thru hB5 hb6 (Nat.le_refl _)
      have k1' : Blk (w5.alloc (.cells #[.bool all, .slice q5 ls.length d5] 31)) w5.heap.size #[.bool all, .slice q5 ls.length d5] 31 := Blk.new
      obtain ⟨lm, hlm⟩ : ∃ lm, ls ++ [[(⟨t, ps, vv, n⟩ : Atm)]] = lm := ⟨_, rfl⟩
      have HLM : Hid _ := hlm
      clear hlm
      have F2 := trivial
      go_wp2_with (first
        | (go_at_call 12; clear F2; refine Calls.mono (CM.out _ hB6) ?_; rintro e w7 ⟨q7, d7, rfl, own7, hb7⟩; have kx7 := (kx5.keep hb6).keep hb7; have m0 : w7.cell? ⟨X, 0, none⟩ = some (.int .i64 t) := kx7.cell 0; have m1 : w7.cell? ⟨X, 1, none⟩ = some (.int .i64 ps) := kx7.cell 1; have m2 : w7.cell? ⟨X, 2, none⟩ = some (.int .i64 vv) := kx7.cell 2; have m3 : w7.cell? ⟨X, 3, none⟩ = some (.bool n) := kx7.cell 3; have ym := cell_lt m0; obtain ⟨hb8, km8, sr8⟩ := atoms_world w7 all q7 ls.length d7 ⟨t, ps, vv, n⟩; have hB7 := Below.thru hB6 hb7 (Nat.le_refl _); have k8lt := km8.lt; have F3 := trivial)
        | (at_builtin; clear F3; refine wpList_app (R := SlE AtmE) (A := fun b => w5.heap.size ≤ b ∧ b ≠ w7.heap.size) (B := fun b => w7.heap.size + 1 ≤ b) (xs := ls) (ys := [[⟨t, ps, vv, n⟩]]) (by rfl) (.tmp 44) (.tmp 47) 29 50 i0 z0 24 (by rfl) Tryd.underlying29 J1.out J2.out J4.out J5.out J3.out (w5.heap.size + 1) (.slice q7 ls.length d7) (.slice (some ⟨w7.heap.size + 1 + 1, 0, none⟩) 1 1) (by rfl) (by rfl) (Own.keep (Own.monoA (fun b hb => by have h := hb6.size; omega) (Own.baseA own7.ltA (by have h := hb6.size; omega))) hb8) sr8 (fun _ _ _ h => (SlE AtmE).mono (fun b hb => ⟨by have := hb7.size; have := hb6.size; omega, fun e => by have := (own7.lt b e.symm).2; omega⟩) h) (by simp only [List.length_cons, List.length_nil]; omega) (by decide) (by have := hb8.size; have := hb7.size; have := k1'.lt; omega) ?_; intro p9 c9 w9 hO9 hg9 hat9; rw [HLM.out] at hO9 hat9 ⊢; have hne9 : (Value.slice p9 lm.length c9).ownBlock ≠ some w7.heap.size := (fun e => by have h8 := hb8.size; have h9 := k8lt; rcases hat9 with h | h; exact (by rw [h] at e; have := (own7.lt _ e).2; omega); exact (by rw [h] at e; injection e with e; omega)); have km9 := km8.grown hg9 (fun e => by have := (own7.lt _ e.symm).2; omega); have r1 : w9.cell? ⟨w7.heap.size, 1, none⟩ = some (.slice q7 ls.length d7) := km9.cell 1; have r2 := km9.frozen 1; have r3 := km9.lt; have hb610 : Below (w5.alloc (.cells #[.bool all, .slice q5 ls.length d5] 31)).heap.size (w5.alloc (.cells #[.bool all, .slice q5 ls.length d5] 31)) (w9.setCell ⟨w7.heap.size, 1, none⟩ (.slice p9 lm.length c9)) := ((Below.thru hb7 hb8 (Nat.le_refl _)).grown hg9 (Nat.le_trans hb7.size hb8.size) (fun k hk => by have := (own7.lt k hk).1; omega)).setCell hb7.size _; have hb510 : Below w5.heap.size w5 (w9.setCell ⟨w7.heap.size, 1, none⟩ (.slice p9 lm.length c9)) := Below.thru hb6 hb610 (Nat.le_refl _); have hB10 := Below.thru hB5 hb510 (Nat.le_refl _); have km10 : Blk (w9.setCell ⟨w7.heap.size, 1, none⟩ (.slice p9 lm.length c9)) w7.heap.size #[.bool all, .slice p9 lm.length c9] 31 := km9.set (i := 1) _; have s10 : Sl (SlE AtmE) (w9.setCell ⟨w7.heap.size, 1, none⟩ (.slice p9 lm.length c9)) (.slice p9 lm.length c9) lm := (hO9.agree (grownBy_set w9 ⟨w7.heap.size, 1, none⟩ (.slice p9 lm.length c9)) (fun q hq => by simp only [Option.some.injEq] at hq; subst hq; exact ⟨fun h => h.2 rfl, fun e => hne9 e⟩)).sl.any; have kc10 := kc5.keep hb510; have q0 : ((w9.setCell ⟨w7.heap.size, 1, none⟩ (.slice p9 lm.length c9))).cell? ⟨w.heap.size, 0, none⟩ = some (.bool all) := kc10.cell 0; have q1 : ((w9.setCell ⟨w7.heap.size, 1, none⟩ (.slice p9 lm.length c9))).cell? ⟨w.heap.size, 1, none⟩ = some (.slice p ls.length c) := kc10.cell 1; have F4 := trivial)
        | (go_at_call 12; clear F4; refine Calls.mono (CM.out _ hB10) ?_; rintro e w11 ⟨q11, d11, rfl, own11, hb11⟩))
      have hb511 : Below w5.heap.size w5 w11 := Below.thru hb510 hb11 (Nat.le_refl _)
      have hb611 : Below (w5.alloc (.cells #[.bool all, .slice q5 ls.length d5] 31)).heap.size (w5.alloc (.cells #[.bool all, .slice q5 ls.length d5] 31)) w11 := Below.thru hb610 hb11 (Nat.le_refl _)
      have hB11 := Below.thru hB5 hb511 (Nat.le_refl _)
      have hbA : Below w11.heap.size w11 (w11.alloc (.cells #[.bool all, .slice q11 ls.length d11] 31)) := (Below.refl _ _).alloc (Nat.le_refl _) _
      have kl12 : Blk (w11.alloc (.cells #[.bool all, .slice q11 ls.length d11] 31)) w11.heap.size #[.bool all, .slice q11 ls.length d11] 31 := Blk.new
      have km11 := km10.keep hb11
      have kx11 := kx5.keep hb511
      have ky11 := ky5.keep hb511
      have ko11 := ko5.keep hb511
      have k111 := k1'.keep hb611
      have dm := km11.lt
      have dx := kx11.lt
      have dy := ky11.lt
      have do' := ko11.lt
      have d1' := k111.lt
      have km12 := km11.keep hbA
      have kx12 := kx11.keep hbA
      have ky12 := ky11.keep hbA
      have ko12 := ko11.keep hbA
      have k112 := k111.keep hbA
      have sm12 := (s10.keep hb11).old.keep hbA
      have s112 := (s1.keep hb511).old.keep hbA
      have sr12 := (ho.keep hB11).1.old.keep hbA
      have sq12 := (ho.keep hB11).2.old.keep hbA
      have sl12 : Sl (SlE AtmE) (w11.alloc (.cells #[.bool all, .slice q11 ls.length d11] 31)) (.slice q11 ls.length d11) ls := own11.sl.any.keep hbA
      have hB12 := Below.thru hB11 hbA (Nat.le_refl _)
      have dw : w.heap.size ≤ w11.heap.size := hB11.size
      clear hb510 hb610 hb511 hb611 hB11 hbA km11 kx11 ky11 ko11 k111 hb6 hb7 hb8 hb11 hB4 hB5 hB6 hB7 hB10 km8 km9 km10 kx5 ky5 ko5 kc5 kc10 kx7 k1' s1 s10 own7 own11 sr8 q0 q1 r1 r2 r3 m0 m1 m2 m3 e0 e1 y0 y1 y0' ym k8lt hO9 hg9 hat9 hne9 CM
      generalize (w11.alloc (.cells #[.bool all, .slice q11 ls.length d11] 31)) = w12 at *
      generalize w11.heap.size = ML at *
      generalize w7.heap.size = MM at *
      generalize w5.heap.size = MO at *
      obtain ⟨l0, lr, hls⟩ : ∃ l0 lr, ls = l0 :: lr := by
        cases ls with
        | nil => exact absurd rfl h0
        | cons a b => exact ⟨a, b, rfl⟩
      obtain ⟨b0, o0, rfl, v0, hv0, hV0⟩ := (sl_at sl12).2 0 (by omega)
      have hl0 : ls[0] = l0 := by subst hls; rfl
      rw [hl0] at hV0
      have hl20 : l0.length ≤ 20 := HL1.out l0 (by rw [hls]; simp)
      obtain ⟨pv, cv, rfl⟩ := hV0.len
      simp only [Nat.add_zero] at hv0
      have HLS : Hid _ := hls
      clear hls hl0 h0
      have e0 : w12.cell? ⟨ML, 1, none⟩ = some (.slice (some ⟨b0, o0, none⟩) ls.length d11) := kl12.cell 1
      have e1 : w12.cell? ⟨X, 0, none⟩ = some (.int .i64 t) := kx12.cell 0
      have e2 : w12.cell? ⟨X, 1, none⟩ = some (.int .i64 ps) := kx12.cell 1
      have e3 : w12.cell? ⟨X, 2, none⟩ = some (.int .i64 vv) := kx12.cell 2
      have e4 : w12.cell? ⟨X, 3, none⟩ = some (.bool n) := kx12.cell 3
      have z0' := cell_lt e0
      have z1' := cell_lt e1
      have z2' := cell_lt hv0
      have hpos : (0 : Int) < (ls.length : Int) := by simp only [beq_eq_false_iff_ne, ne_eq] at h0'; omega
      have hne : ∀ w, Nonempty (Ext w) := ext_some
      refine wp_region_tree [11] 12 (by kernel_rfl) (by rfl) ?_
      refine MT.seg0 (by kernel_rfl) (fun _ _ d _ _ h => by cases d <;> exact h) [1, 2, 3, 4, 6] 7 (by kernel_rfl) ?_
      dsimp only [List.map, opAt]
      repeat (go_big_quiet_step (fail))
      refine wpQuiet_nil ?_
      have hposn : 0 < ls.length := by omega
      have hyH : holdsB ⟨t, ps, vv, !n⟩ o = !holdsB ⟨t, ps, vv, n⟩ o := holds_not ⟨t, ps, vv, n⟩ o
      have hmE : evalB lm o = (evalB ls o || holdsB ⟨t, ps, vv, n⟩ o) := by rw [← HLM.out]; exact eval_more ls _ o
      have hlmn : lm.length ≤ 1000000 := by rw [← HLM.out, List.length_append, List.length_singleton]; omega
      have HLM1 : Hid (∀ l ∈ lm, l.length ≤ 1000000) := fun l h => by
        rw [← HLM.out] at h
        rcases List.mem_append.1 h with h | h
        · have := HL1.out l h; omega
        · simp at h; subst h; simp
      have hfirst : ls.take 1 = [l0] := by rw [HLS.out]; rfl
      obtain ⟨lx, hlx⟩ : ∃ lx, l0 ++ [(⟨t, ps, vv, n⟩ : Atm)] = lx := ⟨_, rfl⟩
      have hlxn : lx.length ≤ 21 := by rw [← hlx, List.length_append, List.length_singleton]; omega
      have hlE : evalB [lx] o = (evalB [l0] o && holdsB ⟨t, ps, vv, n⟩ o) := by rw [← hlx]; exact eval_less l0 _ o
      have HLX : Hid _ := hlx
      clear hlx
      refine MT.two 0 7 false false (by kernel_rfl) ?_ ?_
      · dsimp only [opAt]
        go_wp2
        have hb13 : Below w12.heap.size w12 (w12.alloc (.cells #[] 49)).drew := ((Below.refl _ _).alloc (Nat.le_refl _) _).drew
        have kg0 : Blk (w12.alloc (.cells #[] 49)).drew w12.heap.size #[] 49 := Blk.drew Blk.new
        refine ⟨.inr hb13, ?_⟩
        generalize (w12.alloc (.cells #[] 49)).drew = w13 at *
        refine MT.two 5 7 false false (by kernel_rfl) ?_ ?_
        · dsimp only [opAt]
          go_wp2_with (at_builtin; refine wpList_app (R := AtmE) (A := fun _ => False) (B := fun _ => True) (xs := []) (ys := l0) (by rfl) (.tmp 52) (.tmp 56) 50 49 i1 z1 32 (by rfl) Tryd.underlying50 L1.out L2.out L4.out L5.out L3.out w12.heap.size (.slice (some ⟨w12.heap.size, 0, none⟩) 0 0) (.slice pv l0.length cv) (by rfl) (by rfl) (own_new (Nat.le_refl _) kg0) (hV0.any.keep hb13) (fun _ _ _ h => h) (by simp only [List.length_nil]; omega) (by decide) hb13.size ?_; intro p57 c57 w14 hO14 hg14 hat14; simp only [List.nil_append] at hO14 hat14 ⊢)
          have hb14 : Below w12.heap.size w12 w14 := hb13.grown hg14 hb13.size (fun k hk => by simp [Value.ownBlock] at hk; omega)
          refine ⟨.inr hb14, ?_⟩
          refine MT.one 7 false (by kernel_rfl) ?_
          dsimp only [opAt]
          go_wp2
          have hb15 : Below w14.heap.size w14 (w14.alloc (.cells #[.int .i64 t, .int .i64 ps, .int .i64 vv, .bool n] 49)) := (Below.refl _ _).alloc (Nat.le_refl _) _
          have hbL := Below.thru hb14 hb15 (Nat.le_refl _)
          have kgx : Blk (w14.alloc (.cells #[.int .i64 t, .int .i64 ps, .int .i64 vv, .bool n] 49)) w14.heap.size #[.int .i64 t, .int .i64 ps, .int .i64 vv, .bool n] 49 := Blk.new
          have hOL := hO14.keep hb15
          generalize (w14.alloc (.cells #[.int .i64 t, .int .i64 ps, .int .i64 vv, .bool n] 49)) = wL at *
          generalize w14.heap.size = gx at *
          clear hO14 hg14 hat14 hb15 hb14 hb13 kg0
          refine ⟨.inr hbL, ?_⟩
          refine MT.one 8 false (by kernel_rfl) ?_
          dsimp only [opAt]
          go_wp2_with (at_builtin; refine wpList_app (R := AtmE) (A := fun _ => False) (B := fun _ => True) (xs := l0) (ys := [⟨t, ps, vv, n⟩]) (by rfl) (.tmp 57) (.tmp 59) 50 49 i1 z1 32 (by rfl) Tryd.underlying50 L1.out L2.out L4.out L5.out L3.out w12.heap.size (.slice p57 l0.length c57) (.slice (some ⟨gx, 0, none⟩) 1 1) (by rfl) (by rfl) hOL (atm_one ⟨t, ps, vv, n⟩ trivial ⟨kgx.cell 0, kgx.cell 1, kgx.cell 2, kgx.cell 3⟩) (fun _ _ _ h => h) (by simp only [List.length_cons, List.length_nil]; omega) (by decide) hbL.size ?_; intro p60 c60 w16 hO16 hg16 _; rw [HLX.out] at hO16 ⊢)
          have hb16 : Below w12.heap.size w12 w16 := hbL.grown hg16 hbL.size (fun k hk => (hOL.lt k hk).1)
          refine ⟨.inr hb16, ?_⟩
          refine MT.one 9 false (by kernel_rfl) ?_
          dsimp only [opAt]
          go_wp2
          have hb17 : Below w12.heap.size w12 (w16.alloc (.cells #[.slice p60 lx.length c60] 50)) := hb16.alloc hb16.size _
          have kr17 : Blk (w16.alloc (.cells #[.slice p60 lx.length c60] 50)) w16.heap.size #[.slice p60 lx.length c60] 50 := Blk.new
          have sx17 : SlA (fun b => w12.heap.size ≤ b) (SlE AtmE) (w16.alloc (.cells #[.slice p60 lx.length c60] 50)) (.slice (some ⟨w16.heap.size, 0, none⟩) 1 1) [lx] := sl_one hb16.size (kr17.cell 0) (SlA.mono (fun b hb => hb.elim id False.elim) (hO16.sl.keep ((Below.refl _ _).alloc (Nat.le_refl _) _))) (Nat.le_refl _)
          refine ⟨.inr hb17, ?_⟩
          generalize (w16.alloc (.cells #[.slice p60 lx.length c60] 50)) = w17 at *
          generalize w16.heap.size = RX at *
          have kl17 := kl12.keep hb17
          have t1 : w17.cell? ⟨ML, 1, none⟩ = some (.slice (some ⟨b0, o0, none⟩) ls.length d11) := kl17.cell 1
          have t2 := kl17.frozen 1
          have t3 := kl17.lt
          refine MT.one 10 false (by kernel_rfl) ?_
          dsimp only [opAt]
          go_wp2
          refine ⟨.inr hb17, ?_⟩
          refine MT.one 11 true (by kernel_rfl) ?_
          dsimp only [opAt]
          go_wp2
          refine ⟨.inl trivial, ?_⟩
          refine MT.fin (by kernel_rfl) ?_
          have hg18 := grownBy_set w17 ⟨ML, 1, none⟩ (.slice (some ⟨RX, 0, none⟩) 1 1)
          have hB18 : Below w.heap.size w (w17.setCell ⟨ML, 1, none⟩ (.slice (some ⟨RX, 0, none⟩) 1 1)) := (Below.thru hB12 hb17 (Nat.le_refl _)).setCell dw _
          have kl18 : Blk (w17.setCell ⟨ML, 1, none⟩ (.slice (some ⟨RX, 0, none⟩) 1 1)) ML #[.bool all, .slice (some ⟨RX, 0, none⟩) 1 1] 31 := kl17.set (i := 1) _
          have km18 := (km12.keep hb17).grown hg18 (fun e => by injection e with e; simp only at e; omega)
          have kx18 := (kx12.keep hb17).grown hg18 (fun e => by injection e with e; simp only at e; omega)
          have ky18 := (ky12.keep hb17).grown hg18 (fun e => by injection e with e; simp only at e; omega)
          have ko18 := (ko12.keep hb17).grown hg18 (fun e => by injection e with e; simp only at e; omega)
          have k118 := (k112.keep hb17).grown hg18 (fun e => by injection e with e; simp only at e; omega)
          have hag : Agree (fun b => b < ML) w17 (w17.setCell ⟨ML, 1, none⟩ (.slice (some ⟨RX, 0, none⟩) 1 1)) := grownBy_agree hg18 (fun b hb e => by injection e with e; simp only at e; omega)
          have hag2 : Agree (fun b => w12.heap.size ≤ b) w17 (w17.setCell ⟨ML, 1, none⟩ (.slice (some ⟨RX, 0, none⟩) 1 1)) := grownBy_agree hg18 (fun b hb e => by injection e with e; simp only at e; omega)
          have sm18 := ((sm12.keep hb17).agree hag).any
          have s118 := ((s112.keep hb17).agree hag).any
          have so18 : OutV _ (.slice p1 nr c1) (.slice p2 nm c2) o := ⟨((sr12.keep hb17).agree hag).any, ((sq12.keep hb17).agree hag).any⟩
          have sx18 := (sx17.agree hag2).any
          clear hag hag2 hg18 kl17 t1 t2 t3 sx17 kr17 hb17 hb16 hO16 hg16 hbL hOL kgx
          generalize (w17.setCell ⟨ML, 1, none⟩ (.slice (some ⟨RX, 0, none⟩) 1 1)) = w18 at *
          have o1 : w18.cell? ⟨MO, 0, none⟩ = some (.bool all) := k118.cell 0
          have o2 : w18.cell? ⟨MO, 1, none⟩ = some (.slice q5 ls.length d5) := k118.cell 1
          have hb19 : Below w18.heap.size w18 (w18.alloc (.cells #[.bool false, .slice q5 1 d5] 31)) := (Below.refl _ _).alloc (Nat.le_refl _) _
          have kf19 : Blk (w18.alloc (.cells #[.bool false, .slice q5 1 d5] 31)) w18.heap.size #[.bool false, .slice q5 1 d5] 31 := Blk.new
          have hB19 := Below.thru hB18 hb19 (Nat.le_refl _)
          have kx19 := kx18.keep hb19
          have ky19 := ky18.keep hb19
          have ko19 := ko18.keep hb19
          have k119 := k118.keep hb19
          have km19 := km18.keep hb19
          have kl19 := kl18.keep hb19
          have sm19 := sm18.keep hb19
          have s119 := s118.keep hb19
          have so19 := so18.keep hb19
          have sx19 := sx18.keep hb19
          obtain ⟨HSL, hsf⟩ := lists_first s119 hposn
          rw [hfirst] at hsf
          generalize hw19 : (w18.alloc (.cells #[.bool false, .slice q5 1 d5] 31)) = w19 at *
          go_wp2
          clear hw19
          have cc0 : w19.cell? ⟨X, 0, none⟩ = some (.int .i64 t) := kx19.cell 0
          have cc1 : w19.cell? ⟨X, 1, none⟩ = some (.int .i64 ps) := kx19.cell 1
          have cc2 : w19.cell? ⟨X, 2, none⟩ = some (.int .i64 vv) := kx19.cell 2
          have cc3 : w19.cell? ⟨X, 3, none⟩ = some (.bool n) := kx19.cell 3
          have zz4 := kx19.lt
          have cc4 : w19.cell? ⟨X + 1, 0, none⟩ = some (.int .i64 t) := ky19.cell 0
          have cc5 : w19.cell? ⟨X + 1, 1, none⟩ = some (.int .i64 ps) := ky19.cell 1
          have cc6 : w19.cell? ⟨X + 1, 2, none⟩ = some (.int .i64 vv) := ky19.cell 2
          have cc7 : w19.cell? ⟨X + 1, 3, none⟩ = some (.bool !n) := ky19.cell 3
          have zz8 := ky19.lt
          have cc8 : w19.cell? ⟨w.heap.size + 2, 0, none⟩ = some (.slice p1 nr c1) := ko19.cell 0
          have cc9 : w19.cell? ⟨w.heap.size + 2, 1, none⟩ = some (.slice p2 nm c2) := ko19.cell 1
          have zz10 := ko19.lt
          have cc10 : w19.cell? ⟨MO, 0, none⟩ = some (.bool all) := k119.cell 0
          have cc11 : w19.cell? ⟨MO, 1, none⟩ = some (.slice q5 ls.length d5) := k119.cell 1
          have zz12 := k119.lt
          have cc12 : w19.cell? ⟨MM, 0, none⟩ = some (.bool all) := km19.cell 0
          have cc13 : w19.cell? ⟨MM, 1, none⟩ = some (.slice p9 lm.length c9) := km19.cell 1
          have zz14 := km19.lt
          have cc14 : w19.cell? ⟨ML, 0, none⟩ = some (.bool all) := kl19.cell 0
          have cc15 : w19.cell? ⟨ML, 1, none⟩ = some (.slice (some ⟨RX, 0, none⟩) 1 1) := kl19.cell 1
          have zz16 := kl19.lt
          have cc16 : w19.cell? ⟨w18.heap.size, 0, none⟩ = some (.bool false) := kf19.cell 0
          have cc17 : w19.cell? ⟨w18.heap.size, 1, none⟩ = some (.slice q5 1 d5) := kf19.cell 1
          have zz18 := kf19.lt
          have HX : Hid (∀ q : Ext w19, Calls Tryd.prog 24 #[.agg #[.int .i64 t, .int .i64 ps, .int .i64 vv, .bool n], .agg #[.slice p1 nr c1, .slice p2 nm c2]] q.wd fun e w' => e = .returned (.bool (holdsB ⟨t, ps, vv, n⟩ o)) ∧ Below q.wd.heap.size q.wd w') := fun q => Holds_any ⟨t, ps, vv, n⟩ _ _ o q.wd (so19.keep q.ok)
          have HY : Hid (∀ q : Ext w19, Calls Tryd.prog 24 #[.agg #[.int .i64 t, .int .i64 ps, .int .i64 vv, .bool !n], .agg #[.slice p1 nr c1, .slice p2 nm c2]] q.wd fun e w' => e = .returned (.bool (holdsB ⟨t, ps, vv, !n⟩ o)) ∧ Below q.wd.heap.size q.wd w') := fun q => Holds_any ⟨t, ps, vv, !n⟩ _ _ o q.wd (so19.keep q.ok)
          have H1 : Hid (∀ q : Ext w19, Calls Tryd.prog 11 #[.agg #[.bool all, .slice q5 ls.length d5], .agg #[.slice p1 nr c1, .slice p2 nm c2]] q.wd fun e w' => e = .returned (.bool (evalB ls o)) ∧ Below q.wd.heap.size q.wd w') := fun q => Eval_any all q5 d5 ls _ _ o q.wd (s119.keep q.ok) (so19.keep q.ok) (by omega) (fun l h => by have := HL1.out l h; omega)
          have H2 : Hid (∀ q : Ext w19, Calls Tryd.prog 11 #[.agg #[.bool all, .slice p9 lm.length c9], .agg #[.slice p1 nr c1, .slice p2 nm c2]] q.wd fun e w' => e = .returned (.bool (evalB lm o)) ∧ Below q.wd.heap.size q.wd w') := fun q => Eval_any all p9 c9 lm _ _ o q.wd (sm19.keep q.ok) (so19.keep q.ok) hlmn HLM1.out
          have H3 : Hid (∀ q : Ext w19, Calls Tryd.prog 11 #[.agg #[.bool all, .slice (some ⟨RX, 0, none⟩) 1 1], .agg #[.slice p1 nr c1, .slice p2 nm c2]] q.wd fun e w' => e = .returned (.bool (evalB [lx] o)) ∧ Below q.wd.heap.size q.wd w') := fun q => Eval_any all (some ⟨RX, 0, none⟩) 1 [lx] _ _ o q.wd (sx19.keep q.ok) (so19.keep q.ok) (by simp) (fun l h => by simp at h; subst h; omega)
          have H4 : Hid (∀ q : Ext w19, Calls Tryd.prog 11 #[.agg #[.bool false, .slice q5 1 d5], .agg #[.slice p1 nr c1, .slice p2 nm c2]] q.wd fun e w' => e = .returned (.bool (evalB [l0] o)) ∧ Below q.wd.heap.size q.wd w') := fun q => Eval_any false q5 d5 [l0] _ _ o q.wd (hsf.keep q.ok) (so19.keep q.ok) (by simp) (fun l h => by simp at h; subst h; omega)
          rw [hyH] at HY
          rw [hmE] at H2
          rw [hlE] at H3
          generalize holdsB ⟨t, ps, vv, n⟩ o = H at HX HY H2 H3
          generalize evalB ls o = E1 at H1 H2
          generalize evalB [l0] o = E0 at H3 H4
          cases H <;> cases E1 <;> cases E0
          all_goals
            simp only [Bool.not_true, Bool.not_false, Bool.and_true, Bool.and_false, Bool.or_true, Bool.or_false] at HY H2 H3
            refine wp_region_ext (by kernel_rfl) (by kernel_rfl) ?_
            repeat (go_big_quiet_step (first
              | (go_at_call 24; with_reducible exact calls_ext (HX.out _))
              | (go_at_call 24; with_reducible exact calls_ext (HY.out _))
              | (go_at_call 11; with_reducible exact calls_ext (H1.out _))
              | (go_at_call 11; with_reducible exact calls_ext (H2.out _))
              | (go_at_call 11; with_reducible exact calls_ext (H3.out _))
              | (go_at_call 11; with_reducible exact calls_ext (H4.out _))))
            refine wpQuiet_nil ?_
            rintro _ ⟨rr, rfl⟩
            go_wp2
            go_ret
            exact ⟨rfl, Below.thru hB19 rr.ok (Nat.le_refl _)⟩
        · dsimp only [opAt]
          go_wp2
          have hb15 : Below w13.heap.size w13 (w13.alloc (.cells #[.int .i64 t, .int .i64 ps, .int .i64 vv, .bool n] 49)) := (Below.refl _ _).alloc (Nat.le_refl _) _
          have kgx' : Blk (w13.alloc (.cells #[.int .i64 t, .int .i64 ps, .int .i64 vv, .bool n] 49)) w13.heap.size #[.int .i64 t, .int .i64 ps, .int .i64 vv, .bool n] 49 := Blk.new
          have hbx := Below.thru hb13 hb15 (Nat.le_refl _)
          have kgy := kg0.keep hb15
          refine ⟨.inr hbx, ?_⟩
          have hgxn : w13.heap.size ≠ w12.heap.size := by have := kg0.lt; omega
          generalize (w13.alloc (.cells #[.int .i64 t, .int .i64 ps, .int .i64 vv, .bool n] 49)) = wx at *
          generalize w13.heap.size = gx at *
          refine MT.one 5 false (by kernel_rfl) ?_
          dsimp only [opAt]
          go_wp2_with (at_builtin; refine wpList_app (R := AtmE) (A := fun _ => False) (B := fun _ => True) (xs := []) (ys := l0) (by rfl) (.tmp 52) (.tmp 56) 50 49 i1 z1 32 (by rfl) Tryd.underlying50 L1.out L2.out L4.out L5.out L3.out w12.heap.size (.slice (some ⟨w12.heap.size, 0, none⟩) 0 0) (.slice pv l0.length cv) (by rfl) (by rfl) (own_new (Nat.le_refl _) kgy) (hV0.any.keep hbx) (fun _ _ _ h => h) (by simp only [List.length_nil]; omega) (by decide) hbx.size ?_; intro p57 c57 w14 hO14 hg14 hat14; simp only [List.nil_append] at hO14 hat14 ⊢)
          have hbL : Below w12.heap.size w12 w14 := hbx.grown hg14 hbx.size (fun k hk => by simp [Value.ownBlock] at hk; omega)
          have kgx := kgx'.grown hg14 (fun e => by simp [Value.ownBlock] at e; omega)
          have hOL := hO14
          generalize w14 = wL at *
          clear hO14 hg14 hat14 hb15 hb13 kg0 kgy hbx
          refine ⟨.inr hbL, ?_⟩
          refine MT.one 8 false (by kernel_rfl) ?_
          dsimp only [opAt]
          go_wp2_with (at_builtin; refine wpList_app (R := AtmE) (A := fun _ => False) (B := fun _ => True) (xs := l0) (ys := [⟨t, ps, vv, n⟩]) (by rfl) (.tmp 57) (.tmp 59) 50 49 i1 z1 32 (by rfl) Tryd.underlying50 L1.out L2.out L4.out L5.out L3.out w12.heap.size (.slice p57 l0.length c57) (.slice (some ⟨gx, 0, none⟩) 1 1) (by rfl) (by rfl) hOL (atm_one ⟨t, ps, vv, n⟩ trivial ⟨kgx.cell 0, kgx.cell 1, kgx.cell 2, kgx.cell 3⟩) (fun _ _ _ h => h) (by simp only [List.length_cons, List.length_nil]; omega) (by decide) hbL.size ?_; intro p60 c60 w16 hO16 hg16 _; rw [HLX.out] at hO16 ⊢)
          have hb16 : Below w12.heap.size w12 w16 := hbL.grown hg16 hbL.size (fun k hk => (hOL.lt k hk).1)
          refine ⟨.inr hb16, ?_⟩
          refine MT.one 9 false (by kernel_rfl) ?_
          dsimp only [opAt]
          go_wp2
          have hb17 : Below w12.heap.size w12 (w16.alloc (.cells #[.slice p60 lx.length c60] 50)) := hb16.alloc hb16.size _
          have kr17 : Blk (w16.alloc (.cells #[.slice p60 lx.length c60] 50)) w16.heap.size #[.slice p60 lx.length c60] 50 := Blk.new
          have sx17 : SlA (fun b => w12.heap.size ≤ b) (SlE AtmE) (w16.alloc (.cells #[.slice p60 lx.length c60] 50)) (.slice (some ⟨w16.heap.size, 0, none⟩) 1 1) [lx] := sl_one hb16.size (kr17.cell 0) (SlA.mono (fun b hb => hb.elim id False.elim) (hO16.sl.keep ((Below.refl _ _).alloc (Nat.le_refl _) _))) (Nat.le_refl _)
          refine ⟨.inr hb17, ?_⟩
          generalize (w16.alloc (.cells #[.slice p60 lx.length c60] 50)) = w17 at *
          generalize w16.heap.size = RX at *
          have kl17 := kl12.keep hb17
          have t1 : w17.cell? ⟨ML, 1, none⟩ = some (.slice (some ⟨b0, o0, none⟩) ls.length d11) := kl17.cell 1
          have t2 := kl17.frozen 1
          have t3 := kl17.lt
          refine MT.one 10 false (by kernel_rfl) ?_
          dsimp only [opAt]
          go_wp2
          refine ⟨.inr hb17, ?_⟩
          refine MT.one 11 true (by kernel_rfl) ?_
          dsimp only [opAt]
          go_wp2
          refine ⟨.inl trivial, ?_⟩
          refine MT.fin (by kernel_rfl) ?_
          have hg18 := grownBy_set w17 ⟨ML, 1, none⟩ (.slice (some ⟨RX, 0, none⟩) 1 1)
          have hB18 : Below w.heap.size w (w17.setCell ⟨ML, 1, none⟩ (.slice (some ⟨RX, 0, none⟩) 1 1)) := (Below.thru hB12 hb17 (Nat.le_refl _)).setCell dw _
          have kl18 : Blk (w17.setCell ⟨ML, 1, none⟩ (.slice (some ⟨RX, 0, none⟩) 1 1)) ML #[.bool all, .slice (some ⟨RX, 0, none⟩) 1 1] 31 := kl17.set (i := 1) _
          have km18 := (km12.keep hb17).grown hg18 (fun e => by injection e with e; simp only at e; omega)
          have kx18 := (kx12.keep hb17).grown hg18 (fun e => by injection e with e; simp only at e; omega)
          have ky18 := (ky12.keep hb17).grown hg18 (fun e => by injection e with e; simp only at e; omega)
          have ko18 := (ko12.keep hb17).grown hg18 (fun e => by injection e with e; simp only at e; omega)
          have k118 := (k112.keep hb17).grown hg18 (fun e => by injection e with e; simp only at e; omega)
          have hag : Agree (fun b => b < ML) w17 (w17.setCell ⟨ML, 1, none⟩ (.slice (some ⟨RX, 0, none⟩) 1 1)) := grownBy_agree hg18 (fun b hb e => by injection e with e; simp only at e; omega)
          have hag2 : Agree (fun b => w12.heap.size ≤ b) w17 (w17.setCell ⟨ML, 1, none⟩ (.slice (some ⟨RX, 0, none⟩) 1 1)) := grownBy_agree hg18 (fun b hb e => by injection e with e; simp only at e; omega)
          have sm18 := ((sm12.keep hb17).agree hag).any
          have s118 := ((s112.keep hb17).agree hag).any
          have so18 : OutV _ (.slice p1 nr c1) (.slice p2 nm c2) o := ⟨((sr12.keep hb17).agree hag).any, ((sq12.keep hb17).agree hag).any⟩
          have sx18 := (sx17.agree hag2).any
          clear hag hag2 hg18 kl17 t1 t2 t3 sx17 kr17 hb17 hb16 hO16 hg16 hbL hOL kgx
          generalize (w17.setCell ⟨ML, 1, none⟩ (.slice (some ⟨RX, 0, none⟩) 1 1)) = w18 at *
          have o1 : w18.cell? ⟨MO, 0, none⟩ = some (.bool all) := k118.cell 0
          have o2 : w18.cell? ⟨MO, 1, none⟩ = some (.slice q5 ls.length d5) := k118.cell 1
          have hb19 : Below w18.heap.size w18 (w18.alloc (.cells #[.bool false, .slice q5 1 d5] 31)) := (Below.refl _ _).alloc (Nat.le_refl _) _
          have kf19 : Blk (w18.alloc (.cells #[.bool false, .slice q5 1 d5] 31)) w18.heap.size #[.bool false, .slice q5 1 d5] 31 := Blk.new
          have hB19 := Below.thru hB18 hb19 (Nat.le_refl _)
          have kx19 := kx18.keep hb19
          have ky19 := ky18.keep hb19
          have ko19 := ko18.keep hb19
          have k119 := k118.keep hb19
          have km19 := km18.keep hb19
          have kl19 := kl18.keep hb19
          have sm19 := sm18.keep hb19
          have s119 := s118.keep hb19
          have so19 := so18.keep hb19
          have sx19 := sx18.keep hb19
          obtain ⟨HSL, hsf⟩ := lists_first s119 hposn
          rw [hfirst] at hsf
          generalize hw19 : (w18.alloc (.cells #[.bool false, .slice q5 1 d5] 31)) = w19 at *
          go_wp2
          clear hw19
          have cc0 : w19.cell? ⟨X, 0, none⟩ = some (.int .i64 t) := kx19.cell 0
          have cc1 : w19.cell? ⟨X, 1, none⟩ = some (.int .i64 ps) := kx19.cell 1
          have cc2 : w19.cell? ⟨X, 2, none⟩ = some (.int .i64 vv) := kx19.cell 2
          have cc3 : w19.cell? ⟨X, 3, none⟩ = some (.bool n) := kx19.cell 3
          have zz4 := kx19.lt
          have cc4 : w19.cell? ⟨X + 1, 0, none⟩ = some (.int .i64 t) := ky19.cell 0
          have cc5 : w19.cell? ⟨X + 1, 1, none⟩ = some (.int .i64 ps) := ky19.cell 1
          have cc6 : w19.cell? ⟨X + 1, 2, none⟩ = some (.int .i64 vv) := ky19.cell 2
          have cc7 : w19.cell? ⟨X + 1, 3, none⟩ = some (.bool !n) := ky19.cell 3
          have zz8 := ky19.lt
          have cc8 : w19.cell? ⟨w.heap.size + 2, 0, none⟩ = some (.slice p1 nr c1) := ko19.cell 0
          have cc9 : w19.cell? ⟨w.heap.size + 2, 1, none⟩ = some (.slice p2 nm c2) := ko19.cell 1
          have zz10 := ko19.lt
          have cc10 : w19.cell? ⟨MO, 0, none⟩ = some (.bool all) := k119.cell 0
          have cc11 : w19.cell? ⟨MO, 1, none⟩ = some (.slice q5 ls.length d5) := k119.cell 1
          have zz12 := k119.lt
          have cc12 : w19.cell? ⟨MM, 0, none⟩ = some (.bool all) := km19.cell 0
          have cc13 : w19.cell? ⟨MM, 1, none⟩ = some (.slice p9 lm.length c9) := km19.cell 1
          have zz14 := km19.lt
          have cc14 : w19.cell? ⟨ML, 0, none⟩ = some (.bool all) := kl19.cell 0
          have cc15 : w19.cell? ⟨ML, 1, none⟩ = some (.slice (some ⟨RX, 0, none⟩) 1 1) := kl19.cell 1
          have zz16 := kl19.lt
          have cc16 : w19.cell? ⟨w18.heap.size, 0, none⟩ = some (.bool false) := kf19.cell 0
          have cc17 : w19.cell? ⟨w18.heap.size, 1, none⟩ = some (.slice q5 1 d5) := kf19.cell 1
          have zz18 := kf19.lt
          have HX : Hid (∀ q : Ext w19, Calls Tryd.prog 24 #[.agg #[.int .i64 t, .int .i64 ps, .int .i64 vv, .bool n], .agg #[.slice p1 nr c1, .slice p2 nm c2]] q.wd fun e w' => e = .returned (.bool (holdsB ⟨t, ps, vv, n⟩ o)) ∧ Below q.wd.heap.size q.wd w') := fun q => Holds_any ⟨t, ps, vv, n⟩ _ _ o q.wd (so19.keep q.ok)
          have HY : Hid (∀ q : Ext w19, Calls Tryd.prog 24 #[.agg #[.int .i64 t, .int .i64 ps, .int .i64 vv, .bool !n], .agg #[.slice p1 nr c1, .slice p2 nm c2]] q.wd fun e w' => e = .returned (.bool (holdsB ⟨t, ps, vv, !n⟩ o)) ∧ Below q.wd.heap.size q.wd w') := fun q => Holds_any ⟨t, ps, vv, !n⟩ _ _ o q.wd (so19.keep q.ok)
          have H1 : Hid (∀ q : Ext w19, Calls Tryd.prog 11 #[.agg #[.bool all, .slice q5 ls.length d5], .agg #[.slice p1 nr c1, .slice p2 nm c2]] q.wd fun e w' => e = .returned (.bool (evalB ls o)) ∧ Below q.wd.heap.size q.wd w') := fun q => Eval_any all q5 d5 ls _ _ o q.wd (s119.keep q.ok) (so19.keep q.ok) (by omega) (fun l h => by have := HL1.out l h; omega)
          have H2 : Hid (∀ q : Ext w19, Calls Tryd.prog 11 #[.agg #[.bool all, .slice p9 lm.length c9], .agg #[.slice p1 nr c1, .slice p2 nm c2]] q.wd fun e w' => e = .returned (.bool (evalB lm o)) ∧ Below q.wd.heap.size q.wd w') := fun q => Eval_any all p9 c9 lm _ _ o q.wd (sm19.keep q.ok) (so19.keep q.ok) hlmn HLM1.out
          have H3 : Hid (∀ q : Ext w19, Calls Tryd.prog 11 #[.agg #[.bool all, .slice (some ⟨RX, 0, none⟩) 1 1], .agg #[.slice p1 nr c1, .slice p2 nm c2]] q.wd fun e w' => e = .returned (.bool (evalB [lx] o)) ∧ Below q.wd.heap.size q.wd w') := fun q => Eval_any all (some ⟨RX, 0, none⟩) 1 [lx] _ _ o q.wd (sx19.keep q.ok) (so19.keep q.ok) (by simp) (fun l h => by simp at h; subst h; omega)
          have H4 : Hid (∀ q : Ext w19, Calls Tryd.prog 11 #[.agg #[.bool false, .slice q5 1 d5], .agg #[.slice p1 nr c1, .slice p2 nm c2]] q.wd fun e w' => e = .returned (.bool (evalB [l0] o)) ∧ Below q.wd.heap.size q.wd w') := fun q => Eval_any false q5 d5 [l0] _ _ o q.wd (hsf.keep q.ok) (so19.keep q.ok) (by simp) (fun l h => by simp at h; subst h; omega)
          rw [hyH] at HY
          rw [hmE] at H2
          rw [hlE] at H3
          generalize holdsB ⟨t, ps, vv, n⟩ o = H at HX HY H2 H3
          generalize evalB ls o = E1 at H1 H2
          generalize evalB [l0] o = E0 at H3 H4
          cases H <;> cases E1 <;> cases E0
          all_goals
            simp only [Bool.not_true, Bool.not_false, Bool.and_true, Bool.and_false, Bool.or_true, Bool.or_false] at HY H2 H3
            refine wp_region_ext (by kernel_rfl) (by kernel_rfl) ?_
            repeat (go_big_quiet_step (first
              | (go_at_call 24; with_reducible exact calls_ext (HX.out _))
              | (go_at_call 24; with_reducible exact calls_ext (HY.out _))
              | (go_at_call 11; with_reducible exact calls_ext (H1.out _))
              | (go_at_call 11; with_reducible exact calls_ext (H2.out _))
              | (go_at_call 11; with_reducible exact calls_ext (H3.out _))
              | (go_at_call 11; with_reducible exact calls_ext (H4.out _))))
            refine wpQuiet_nil ?_
            rintro _ ⟨rr, rfl⟩
            go_wp2
            go_ret
            exact ⟨rfl, Below.thru hB19 rr.ok (Nat.le_refl _)⟩
      · dsimp only [opAt]
        go_wp2
        have hb13 : Below w12.heap.size w12 (w12.alloc (.cells #[.int .i64 t, .int .i64 ps, .int .i64 vv, .bool n] 49)).drew := ((Below.refl _ _).alloc (Nat.le_refl _) _).drew
        have kgx' : Blk (w12.alloc (.cells #[.int .i64 t, .int .i64 ps, .int .i64 vv, .bool n] 49)).drew w12.heap.size #[.int .i64 t, .int .i64 ps, .int .i64 vv, .bool n] 49 := Blk.drew Blk.new
        refine ⟨.inr hb13, ?_⟩
        generalize (w12.alloc (.cells #[.int .i64 t, .int .i64 ps, .int .i64 vv, .bool n] 49)).drew = w13 at *
        refine MT.one 0 false (by kernel_rfl) ?_
        dsimp only [opAt]
        go_wp2
        have hb15 : Below w13.heap.size w13 (w13.alloc (.cells #[] 49)) := (Below.refl _ _).alloc (Nat.le_refl _) _
        have kgy : Blk (w13.alloc (.cells #[] 49)) w13.heap.size #[] 49 := Blk.new
        have kgz := kgx'.keep hb15
        have hbx := Below.thru hb13 hb15 (Nat.le_refl _)
        refine ⟨.inr hbx, ?_⟩
        have hgxn : w12.heap.size < w13.heap.size := kgx'.lt
        generalize (w13.alloc (.cells #[] 49)) = wx at *
        refine MT.one 5 false (by kernel_rfl) ?_
        dsimp only [opAt]
        go_wp2_with (at_builtin; refine wpList_app (R := AtmE) (A := fun _ => False) (B := fun _ => True) (xs := []) (ys := l0) (by rfl) (.tmp 52) (.tmp 56) 50 49 i1 z1 32 (by rfl) Tryd.underlying50 L1.out L2.out L4.out L5.out L3.out w12.heap.size (.slice (some ⟨w13.heap.size, 0, none⟩) 0 0) (.slice pv l0.length cv) (by rfl) (by rfl) (own_new hb13.size kgy) (hV0.any.keep hbx) (fun _ _ _ h => h) (by simp only [List.length_nil]; omega) (by decide) hbx.size ?_; intro p57 c57 w14 hO14 hg14 hat14; simp only [List.nil_append] at hO14 hat14 ⊢)
        have hbL : Below w12.heap.size w12 w14 := hbx.grown hg14 hbx.size (fun k hk => by simp [Value.ownBlock] at hk; omega)
        have kgx := kgz.grown hg14 (fun e => by simp [Value.ownBlock] at e; omega)
        have hOL := hO14
        generalize w14 = wL at *
        clear hO14 hg14 hat14 hb15 hb13 kgy kgz hbx
        refine ⟨.inr hbL, ?_⟩
        refine MT.one 8 false (by kernel_rfl) ?_
        dsimp only [opAt]
        go_wp2_with (at_builtin; refine wpList_app (R := AtmE) (A := fun _ => False) (B := fun _ => True) (xs := l0) (ys := [⟨t, ps, vv, n⟩]) (by rfl) (.tmp 57) (.tmp 59) 50 49 i1 z1 32 (by rfl) Tryd.underlying50 L1.out L2.out L4.out L5.out L3.out w12.heap.size (.slice p57 l0.length c57) (.slice (some ⟨w12.heap.size, 0, none⟩) 1 1) (by rfl) (by rfl) hOL (atm_one ⟨t, ps, vv, n⟩ trivial ⟨kgx.cell 0, kgx.cell 1, kgx.cell 2, kgx.cell 3⟩) (fun _ _ _ h => h) (by simp only [List.length_cons, List.length_nil]; omega) (by decide) hbL.size ?_; intro p60 c60 w16 hO16 hg16 _; rw [HLX.out] at hO16 ⊢)
        have hb16 : Below w12.heap.size w12 w16 := hbL.grown hg16 hbL.size (fun k hk => (hOL.lt k hk).1)
        refine ⟨.inr hb16, ?_⟩
        refine MT.one 9 false (by kernel_rfl) ?_
        dsimp only [opAt]
        go_wp2
        have hb17 : Below w12.heap.size w12 (w16.alloc (.cells #[.slice p60 lx.length c60] 50)) := hb16.alloc hb16.size _
        have kr17 : Blk (w16.alloc (.cells #[.slice p60 lx.length c60] 50)) w16.heap.size #[.slice p60 lx.length c60] 50 := Blk.new
        have sx17 : SlA (fun b => w12.heap.size ≤ b) (SlE AtmE) (w16.alloc (.cells #[.slice p60 lx.length c60] 50)) (.slice (some ⟨w16.heap.size, 0, none⟩) 1 1) [lx] := sl_one hb16.size (kr17.cell 0) (SlA.mono (fun b hb => hb.elim id False.elim) (hO16.sl.keep ((Below.refl _ _).alloc (Nat.le_refl _) _))) (Nat.le_refl _)
        refine ⟨.inr hb17, ?_⟩
        generalize (w16.alloc (.cells #[.slice p60 lx.length c60] 50)) = w17 at *
        generalize w16.heap.size = RX at *
        have kl17 := kl12.keep hb17
        have t1 : w17.cell? ⟨ML, 1, none⟩ = some (.slice (some ⟨b0, o0, none⟩) ls.length d11) := kl17.cell 1
        have t2 := kl17.frozen 1
        have t3 := kl17.lt
        refine MT.one 10 false (by kernel_rfl) ?_
        dsimp only [opAt]
        go_wp2
        refine ⟨.inr hb17, ?_⟩
        refine MT.one 11 true (by kernel_rfl) ?_
        dsimp only [opAt]
        go_wp2
        refine ⟨.inl trivial, ?_⟩
        refine MT.fin (by kernel_rfl) ?_
        have hg18 := grownBy_set w17 ⟨ML, 1, none⟩ (.slice (some ⟨RX, 0, none⟩) 1 1)
        have hB18 : Below w.heap.size w (w17.setCell ⟨ML, 1, none⟩ (.slice (some ⟨RX, 0, none⟩) 1 1)) := (Below.thru hB12 hb17 (Nat.le_refl _)).setCell dw _
        have kl18 : Blk (w17.setCell ⟨ML, 1, none⟩ (.slice (some ⟨RX, 0, none⟩) 1 1)) ML #[.bool all, .slice (some ⟨RX, 0, none⟩) 1 1] 31 := kl17.set (i := 1) _
        have km18 := (km12.keep hb17).grown hg18 (fun e => by injection e with e; simp only at e; omega)
        have kx18 := (kx12.keep hb17).grown hg18 (fun e => by injection e with e; simp only at e; omega)
        have ky18 := (ky12.keep hb17).grown hg18 (fun e => by injection e with e; simp only at e; omega)
        have ko18 := (ko12.keep hb17).grown hg18 (fun e => by injection e with e; simp only at e; omega)
        have k118 := (k112.keep hb17).grown hg18 (fun e => by injection e with e; simp only at e; omega)
        have hag : Agree (fun b => b < ML) w17 (w17.setCell ⟨ML, 1, none⟩ (.slice (some ⟨RX, 0, none⟩) 1 1)) := grownBy_agree hg18 (fun b hb e => by injection e with e; simp only at e; omega)
        have hag2 : Agree (fun b => w12.heap.size ≤ b) w17 (w17.setCell ⟨ML, 1, none⟩ (.slice (some ⟨RX, 0, none⟩) 1 1)) := grownBy_agree hg18 (fun b hb e => by injection e with e; simp only at e; omega)
        have sm18 := ((sm12.keep hb17).agree hag).any
        have s118 := ((s112.keep hb17).agree hag).any
        have so18 : OutV _ (.slice p1 nr c1) (.slice p2 nm c2) o := ⟨((sr12.keep hb17).agree hag).any, ((sq12.keep hb17).agree hag).any⟩
        have sx18 := (sx17.agree hag2).any
        clear hag hag2 hg18 kl17 t1 t2 t3 sx17 kr17 hb17 hb16 hO16 hg16 hbL hOL kgx
        generalize (w17.setCell ⟨ML, 1, none⟩ (.slice (some ⟨RX, 0, none⟩) 1 1)) = w18 at *
        have o1 : w18.cell? ⟨MO, 0, none⟩ = some (.bool all) := k118.cell 0
        have o2 : w18.cell? ⟨MO, 1, none⟩ = some (.slice q5 ls.length d5) := k118.cell 1
        have hb19 : Below w18.heap.size w18 (w18.alloc (.cells #[.bool false, .slice q5 1 d5] 31)) := (Below.refl _ _).alloc (Nat.le_refl _) _
        have kf19 : Blk (w18.alloc (.cells #[.bool false, .slice q5 1 d5] 31)) w18.heap.size #[.bool false, .slice q5 1 d5] 31 := Blk.new
        have hB19 := Below.thru hB18 hb19 (Nat.le_refl _)
        have kx19 := kx18.keep hb19
        have ky19 := ky18.keep hb19
        have ko19 := ko18.keep hb19
        have k119 := k118.keep hb19
        have km19 := km18.keep hb19
        have kl19 := kl18.keep hb19
        have sm19 := sm18.keep hb19
        have s119 := s118.keep hb19
        have so19 := so18.keep hb19
        have sx19 := sx18.keep hb19
        obtain ⟨HSL, hsf⟩ := lists_first s119 hposn
        rw [hfirst] at hsf
        generalize hw19 : (w18.alloc (.cells #[.bool false, .slice q5 1 d5] 31)) = w19 at *
        go_wp2
        clear hw19
        have cc0 : w19.cell? ⟨X, 0, none⟩ = some (.int .i64 t) := kx19.cell 0
        have cc1 : w19.cell? ⟨X, 1, none⟩ = some (.int .i64 ps) := kx19.cell 1
        have cc2 : w19.cell? ⟨X, 2, none⟩ = some (.int .i64 vv) := kx19.cell 2
        have cc3 : w19.cell? ⟨X, 3, none⟩ = some (.bool n) := kx19.cell 3
        have zz4 := kx19.lt
        have cc4 : w19.cell? ⟨X + 1, 0, none⟩ = some (.int .i64 t) := ky19.cell 0
        have cc5 : w19.cell? ⟨X + 1, 1, none⟩ = some (.int .i64 ps) := ky19.cell 1
        have cc6 : w19.cell? ⟨X + 1, 2, none⟩ = some (.int .i64 vv) := ky19.cell 2
        have cc7 : w19.cell? ⟨X + 1, 3, none⟩ = some (.bool !n) := ky19.cell 3
        have zz8 := ky19.lt
        have cc8 : w19.cell? ⟨w.heap.size + 2, 0, none⟩ = some (.slice p1 nr c1) := ko19.cell 0
        have cc9 : w19.cell? ⟨w.heap.size + 2, 1, none⟩ = some (.slice p2 nm c2) := ko19.cell 1
        have zz10 := ko19.lt
        have cc10 : w19.cell? ⟨MO, 0, none⟩ = some (.bool all) := k119.cell 0
        have cc11 : w19.cell? ⟨MO, 1, none⟩ = some (.slice q5 ls.length d5) := k119.cell 1
        have zz12 := k119.lt
        have cc12 : w19.cell? ⟨MM, 0, none⟩ = some (.bool all) := km19.cell 0
        have cc13 : w19.cell? ⟨MM, 1, none⟩ = some (.slice p9 lm.length c9) := km19.cell 1
        have zz14 := km19.lt
        have cc14 : w19.cell? ⟨ML, 0, none⟩ = some (.bool all) := kl19.cell 0
        have cc15 : w19.cell? ⟨ML, 1, none⟩ = some (.slice (some ⟨RX, 0, none⟩) 1 1) := kl19.cell 1
        have zz16 := kl19.lt
        have cc16 : w19.cell? ⟨w18.heap.size, 0, none⟩ = some (.bool false) := kf19.cell 0
        have cc17 : w19.cell? ⟨w18.heap.size, 1, none⟩ = some (.slice q5 1 d5) := kf19.cell 1
        have zz18 := kf19.lt
        have HX : Hid (∀ q : Ext w19, Calls Tryd.prog 24 #[.agg #[.int .i64 t, .int .i64 ps, .int .i64 vv, .bool n], .agg #[.slice p1 nr c1, .slice p2 nm c2]] q.wd fun e w' => e = .returned (.bool (holdsB ⟨t, ps, vv, n⟩ o)) ∧ Below q.wd.heap.size q.wd w') := fun q => Holds_any ⟨t, ps, vv, n⟩ _ _ o q.wd (so19.keep q.ok)
        have HY : Hid (∀ q : Ext w19, Calls Tryd.prog 24 #[.agg #[.int .i64 t, .int .i64 ps, .int .i64 vv, .bool !n], .agg #[.slice p1 nr c1, .slice p2 nm c2]] q.wd fun e w' => e = .returned (.bool (holdsB ⟨t, ps, vv, !n⟩ o)) ∧ Below q.wd.heap.size q.wd w') := fun q => Holds_any ⟨t, ps, vv, !n⟩ _ _ o q.wd (so19.keep q.ok)
        have H1 : Hid (∀ q : Ext w19, Calls Tryd.prog 11 #[.agg #[.bool all, .slice q5 ls.length d5], .agg #[.slice p1 nr c1, .slice p2 nm c2]] q.wd fun e w' => e = .returned (.bool (evalB ls o)) ∧ Below q.wd.heap.size q.wd w') := fun q => Eval_any all q5 d5 ls _ _ o q.wd (s119.keep q.ok) (so19.keep q.ok) (by omega) (fun l h => by have := HL1.out l h; omega)
        have H2 : Hid (∀ q : Ext w19, Calls Tryd.prog 11 #[.agg #[.bool all, .slice p9 lm.length c9], .agg #[.slice p1 nr c1, .slice p2 nm c2]] q.wd fun e w' => e = .returned (.bool (evalB lm o)) ∧ Below q.wd.heap.size q.wd w') := fun q => Eval_any all p9 c9 lm _ _ o q.wd (sm19.keep q.ok) (so19.keep q.ok) hlmn HLM1.out
        have H3 : Hid (∀ q : Ext w19, Calls Tryd.prog 11 #[.agg #[.bool all, .slice (some ⟨RX, 0, none⟩) 1 1], .agg #[.slice p1 nr c1, .slice p2 nm c2]] q.wd fun e w' => e = .returned (.bool (evalB [lx] o)) ∧ Below q.wd.heap.size q.wd w') := fun q => Eval_any all (some ⟨RX, 0, none⟩) 1 [lx] _ _ o q.wd (sx19.keep q.ok) (so19.keep q.ok) (by simp) (fun l h => by simp at h; subst h; omega)
        have H4 : Hid (∀ q : Ext w19, Calls Tryd.prog 11 #[.agg #[.bool false, .slice q5 1 d5], .agg #[.slice p1 nr c1, .slice p2 nm c2]] q.wd fun e w' => e = .returned (.bool (evalB [l0] o)) ∧ Below q.wd.heap.size q.wd w') := fun q => Eval_any false q5 d5 [l0] _ _ o q.wd (hsf.keep q.ok) (so19.keep q.ok) (by simp) (fun l h => by simp at h; subst h; omega)
        rw [hyH] at HY
        rw [hmE] at H2
        rw [hlE] at H3
        generalize holdsB ⟨t, ps, vv, n⟩ o = H at HX HY H2 H3
        generalize evalB ls o = E1 at H1 H2
        generalize evalB [l0] o = E0 at H3 H4
        cases H <;> cases E1 <;> cases E0
        all_goals
          simp only [Bool.not_true, Bool.not_false, Bool.and_true, Bool.and_false, Bool.or_true, Bool.or_false] at HY H2 H3
          refine wp_region_ext (by kernel_rfl) (by kernel_rfl) ?_
          repeat (go_big_quiet_step (first
            | (go_at_call 24; with_reducible exact calls_ext (HX.out _))
            | (go_at_call 24; with_reducible exact calls_ext (HY.out _))
            | (go_at_call 11; with_reducible exact calls_ext (H1.out _))
            | (go_at_call 11; with_reducible exact calls_ext (H2.out _))
            | (go_at_call 11; with_reducible exact calls_ext (H3.out _))
            | (go_at_call 11; with_reducible exact calls_ext (H4.out _))))
          refine wpQuiet_nil ?_
          rintro _ ⟨rr, rfl⟩
          go_wp2
          go_ret
          exact ⟨rfl, Below.thru hB19 rr.ok (Nat.le_refl _)⟩
end Go.Proofs.YtdealgleehbhlaaDoor
