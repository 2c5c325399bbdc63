/- ExecRefRows, ExecRefJoin, ExecRefJoin2: what is used of them. -/
import Derived.Test.YtcalinfdckklfaaGreatDoorPk15
import Derived.Test.YtcalinfdckklfaaGreatDoorPk13
namespace Go.Proofs.YtcalinfdckklfaaGreatDoor
open Go.RowKit

def updL (ps : Nat → List (Nat × Nat)) (i : Nat) (l : List (Nat × Nat)) : Nat → List (Nat × Nat) := fun k => if k = i then l else ps k
theorem updL_same (ps : Nat → List (Nat × Nat)) (i : Nat) (l : List (Nat × Nat)) : updL ps i l i = l := if_pos rfl
theorem updL_other (ps : Nat → List (Nat × Nat)) {i k : Nat} (l : List (Nat × Nat)) (h : k ≠ i) : updL ps i l k = ps k := if_neg h

theorem Own.mono {α : Type} {A B : Nat → Prop} {R : Elem α} {w : World} {base : Nat} {e : TypeId} {v : Value} {xs : List α} (hAB : ∀ b, A b → B b) (h : Own A R w base e v xs) : Own B R w base e v xs := by
  obtain ⟨cc, h1, h2, h3⟩ := h
  exact ⟨cc, h1, h2, fun i hi hi' => R.mono (fun b hb => ⟨hAB b hb.1, hb.2⟩) (h3 i hi hi')⟩

structure Jn (w : World) (base : Nat) (r : Nat → Value) (ps : Nat → List (Nat × Nat)) (evs : List Ev) (regs : List (List Int)) : Prop where
  o : ∀ i, i < 5 → Own (fun _ => False) PairE w base 83 (r i) (ps i)
  o5 : Own F0 EvE w base 52 (r 5) evs
  o6 : ∃ Z : Nat → Prop, Own Z (SlE IntE) w base 60 (r 6) regs ∧ (∀ b, Z b → b < w.heap.size ∧ base ≤ b) ∧ ∀ i b, i < 7 → (r i).ownBlock = some b → ¬ Z b
  dis : ∀ i j k, i < 7 → j < 7 → i ≠ j → (r i).ownBlock = some k → (r j).ownBlock ≠ some k
section
variable {w w' : World} {base : Nat} {r : Nat → Value} {ps : Nat → List (Nat × Nat)} {evs : List Ev} {regs : List (List Int)} {v : Value}
theorem Jn.lt (h : Jn w base r ps evs regs) {i k : Nat} (hi : i < 7) (hk : (r i).ownBlock = some k) : base ≤ k ∧ k < w.heap.size := by
  by_cases h5 : i < 5
  · exact (h.o i h5).lt k hk
  · by_cases e : i = 5
    · subst e; exact h.o5.lt k hk
    · have e : i = 6 := by omega
      subst e
      obtain ⟨Z, hZ, _⟩ := h.o6
      exact hZ.lt k hk
theorem Jn.only {A : Nat → Prop} (h : Jn w base r ps evs regs) (ho : Only A w w') (ha : ∀ i k, i < 7 → (r i).ownBlock = some k → ¬ A k) (hb : ∀ b, A b → b < base) : Jn w' base r ps evs regs := by
  refine ⟨fun i hi => (h.o i hi).only ho (fun k hk => ha i k (by omega) hk) (fun _ h => h.elim), h.o5.only ho (fun k hk => ha 5 k (by decide) hk) (fun _ h => h.elim), ?_, h.dis⟩
  obtain ⟨Z, h1, h2, h3⟩ := h.o6
  exact ⟨Z, h1.only ho (fun k hk => ha 6 k (by decide) hk) (fun b hZ hA => by have := (h2 b hZ).2; have := hb b hA; omega), fun b hZ => ⟨Nat.lt_of_lt_of_le (h2 b hZ).1 ho.size, (h2 b hZ).2⟩, h3⟩
theorem Jn.keep (h : Jn w base r ps evs regs) (hb : Below w.heap.size w w') : Jn w' base r ps evs regs :=
  h.only (A := fun _ => False) (Below.only hb) (fun _ _ _ _ h => h) (fun _ h => h.elim)
theorem Jn.below (h : Jn w base r ps evs regs) (hb : Below base w w') (hs : ∀ b, base ≤ b → b < w.heap.size → w'.heap[b]? = w.heap[b]?) : Jn w' base r ps evs regs := h.keep ⟨hb.os, hb.tape, hb.output, hb.size, fun k hk => by
  by_cases hkb : k < base
  · exact hb.block k hkb
  · exact hs k (by omega) hk⟩
theorem Jn.dis' (h : Jn w base r ps evs regs) {i : Nat} (hi : i < 7) (hv : v.ownBlock = (r i).ownBlock ∨ v.ownBlock = some w.heap.size) : ∀ a j k, a < 7 → j < 7 → a ≠ j → (updV r i v a).ownBlock = some k → (updV r i v j).ownBlock ≠ some k := by
  intro a j k ha hj haj hk
  by_cases e : a = i
  · subst e
    rw [updV_same] at hk
    rw [updV_other _ _ (Ne.symm haj)]
    rcases hv with hv | hv
    · rw [hv] at hk; exact h.dis a j k ha hj haj hk
    · rw [hv] at hk
      cases hk
      intro hk
      have := (h.lt hj hk).2
      omega
  · rw [updV_other _ _ e] at hk
    by_cases e' : j = i
    · subst e'
      rw [updV_same]
      rcases hv with hv | hv
      · rw [hv]; exact h.dis a j k ha hj haj hk
      · rw [hv]
        intro e2
        cases e2
        have := (h.lt ha hk).2
        omega
    · rw [updV_other _ _ e']
      exact h.dis a j k ha hj haj hk
theorem Jn.rest (h : Jn w base r ps evs regs) {i j : Nat} (hi : i < 7) (hj : j < 7) (hij : j ≠ i) : ∀ k, (r j).ownBlock = some k → ¬ (r i).ownBlock = some k := fun k hk => h.dis j i k hj hi hij hk
/-- The registers' row, while another one has become longer. -/
theorem Jn.regs' (h : Jn w base r ps evs regs) {i : Nat} (hi : i < 6) (hg : w.grownBy w' (r i).ownBlock) (hv : v.ownBlock = (r i).ownBlock ∨ v.ownBlock = some w.heap.size) :
    ∃ Z : Nat → Prop, Own Z (SlE IntE) w' base 60 (updV r i v 6) regs ∧ (∀ b, Z b → b < w'.heap.size ∧ base ≤ b) ∧ ∀ j b, j < 7 → (updV r i v j).ownBlock = some b → ¬ Z b := by
  obtain ⟨Z, h1, h2, h3⟩ := h.o6
  have O : Only (fun k => (r i).ownBlock = some k) w w' := grownBy_only hg fun k hk => hk
  rw [updV_other _ _ (by omega)]
  refine ⟨Z, h1.only O (h.rest (by omega) (by decide) (by omega)) (fun b hZ e => h3 i b (by omega) e hZ), fun b hZ => ⟨Nat.lt_of_lt_of_le (h2 b hZ).1 O.size, (h2 b hZ).2⟩, fun j b hj hb hZ => ?_⟩
  by_cases e : j = i
  · subst e
    rw [updV_same] at hb
    rcases hv with hv | hv
    · rw [hv] at hb; exact h3 j b (by omega) hb hZ
    · rw [hv] at hb
      cases hb
      have := (h2 _ hZ).1
      omega
  · rw [updV_other _ _ e] at hb
    exact h3 j b hj hb hZ
theorem Jn.app (h : Jn w base r ps evs regs) {i : Nat} (hi : i < 5) {l : List (Nat × Nat)} (hg : w.grownBy w' (r i).ownBlock) (ho : Own (fun _ => False) PairE w' base 83 v l) (hv : v.ownBlock = (r i).ownBlock ∨ v.ownBlock = some w.heap.size) : Jn w' base (updV r i v) (updL ps i l) evs regs := by
  have O : Only (fun k => (r i).ownBlock = some k) w w' := grownBy_only hg fun k hk => hk
  refine ⟨fun j hj => ?_, ?_, h.regs' (by omega) hg hv, h.dis' (by omega) hv⟩
  · by_cases e : j = i
    · subst e; rw [updV_same, updL_same]; exact ho
    · rw [updV_other _ _ e, updL_other _ _ e]
      exact (h.o j hj).only O (h.rest (by omega) (by omega) e) (fun _ h => h.elim)
  · rw [updV_other _ _ (by omega)]
    exact h.o5.only O (h.rest (by omega) (by decide) (by omega)) (fun _ h => h.elim)
theorem Jn.app5 (h : Jn w base r ps evs regs) {l : List Ev} (hg : w.grownBy w' (r 5).ownBlock) (ho : Own F0 EvE w' base 52 v l) (hv : v.ownBlock = (r 5).ownBlock ∨ v.ownBlock = some w.heap.size) : Jn w' base (updV r 5 v) ps l regs := by
  have O : Only (fun k => (r 5).ownBlock = some k) w w' := grownBy_only hg fun k hk => hk
  refine ⟨fun j hj => ?_, ?_, h.regs' (by decide) hg hv, h.dis' (by decide) hv⟩
  · rw [updV_other _ _ (by omega)]
    exact (h.o j hj).only O (h.rest (by decide) (by omega) (by omega)) (fun _ h => h.elim)
  · rw [updV_same]; exact ho
theorem Jn.app6 (h : Jn w base r ps evs regs) {Z : Nat → Prop} {l : List (List Int)} (hg : w.grownBy w' (r 6).ownBlock) (ho : Own Z (SlE IntE) w' base 60 v l) (hZ : ∀ b, Z b → b < w.heap.size ∧ base ≤ b) (hd : ∀ i b, i < 7 → (r i).ownBlock = some b → ¬ Z b) (hv : v.ownBlock = (r 6).ownBlock ∨ v.ownBlock = some w.heap.size) : Jn w' base (updV r 6 v) ps evs l := by
  have O : Only (fun k => (r 6).ownBlock = some k) w w' := grownBy_only hg fun k hk => hk
  refine ⟨fun j hj => ?_, ?_, ⟨Z, ?_, fun b hb => ⟨Nat.lt_of_lt_of_le (hZ b hb).1 O.size, (hZ b hb).2⟩, fun j b hj hb hz => ?_⟩, h.dis' (by decide) hv⟩
  · rw [updV_other _ _ (by omega)]
    exact (h.o j hj).only O (h.rest (by decide) (by omega) (by omega)) (fun _ h => h.elim)
  · rw [updV_other _ _ (by omega)]
    exact h.o5.only O (h.rest (by decide) (by decide) (by omega)) (fun _ h => h.elim)
  · rw [updV_same]; exact ho
  · by_cases e : j = 6
    · subst e
      rw [updV_same] at hb
      rcases hv with hv | hv
      · rw [hv] at hb; exact hd 6 b (by decide) hb hz
      · rw [hv] at hb
        cases hb
        have := (hZ _ hz).1
        omega
    · rw [updV_other _ _ e] at hb
      exact hd j b hj hb hz
/-- Room for one more row of registers. -/
theorem Jn.room (h : Jn w base r ps evs regs) {g : Nat} (hg : w.heap.size = g) (hb : base ≤ g) (o : Obj) : ∃ Z : Nat → Prop, Own Z (SlE IntE) (w.alloc o) base 60 (r 6) regs ∧ (∀ b, Z b → b < (w.alloc o).heap.size ∧ base ≤ b) ∧ (∀ i b, i < 7 → (r i).ownBlock = some b → ¬ Z b) ∧ Z g := by
  obtain ⟨Z, h1, h2, h3⟩ := h.o6
  refine ⟨fun b => Z b ∨ b = g, (h1.mono fun b hb => .inl hb).keep ((Below.refl _ _).alloc (Nat.le_refl _) _), fun b hz => ?_, fun i b hi hbb hz => ?_, .inr rfl⟩
  · simp only [World.size_alloc]
    rcases hz with hz | rfl
    · have := h2 b hz; omega
    · omega
  · rcases hz with hz | rfl
    · exact h3 i b hi hbb hz
    · have := (h.lt hi hbb).2
      omega
theorem jn_nil (w : World) (base : Nat) : Jn w base (fun _ => .slice none 0 0) (fun _ => []) [] [] :=
  ⟨fun _ _ => Own.nil, Own.nil, ⟨fun _ => False, Own.nil, fun _ h => h.elim, fun _ _ _ _ h => h⟩, fun _ _ _ _ _ _ h => by simp [Value.ownBlock] at h⟩
end
end Go.Proofs.YtcalinfdckklfaaGreatDoor
namespace Go.Proofs.YtcalinfdckklfaaGreatDoor
open Go.RowKit
attribute [local go_sem] Ext.cell Ext.frozen

theorem totN_next {l : List Tr} {k : Nat} (h : k < l.length) : totN (l.take (k + 1)) = totN (l.take k) + l[k].evs.length := by
  rw [List.take_add_one, List.getElem?_eq_getElem h]
  exact totN_snoc _ _

set_option maxRecDepth 20000 in
set_option maxHeartbeats 8000000 in
theorem refJoin_full (p : Option Addr) (c : Nat) (l : List Tr) (w : World) (hl : Sl TgE w (.slice p l.length c) l) (h24 : 24 < totN l) (hM : totN l ≤ 1000000) (hn : l.length ≤ 1000000) :
    Calls Tryz.prog 8 #[.slice p l.length c] w fun e w' => e = .returned (.tuple #[.agg (exC fun _ => .slice none 0 0), .int .i64 3]) ∧ Below w.heap.size w w' := by
  have HM : Hid _ := hM
  clear hM
  obtain ⟨w1, hw1⟩ : ∃ w1, w1 = w.alloc (.cells #[.slice none 0 0, .slice none 0 0, .slice none 0 0, .slice none 0 0, .slice none 0 0, .slice none 0 0, .slice none 0 0] 47) := ⟨_, rfl⟩
  have k1 : Blk w1 w.heap.size #[.slice none 0 0, .slice none 0 0, .slice none 0 0, .slice none 0 0, .slice none 0 0, .slice none 0 0, .slice none 0 0] 47 := by rw [hw1]; exact Blk.new
  have b1 : Below w.heap.size w w1 := by rw [hw1]; exact below_new _ _
  have u1 : w1.heap.size = w.heap.size + 1 := by rw [hw1]; simp
  obtain ⟨w2, hw2⟩ : ∃ w2, w2 = w1.alloc (.cells #[.slice none 0 0, .slice none 0 0, .slice none 0 0, .slice none 0 0, .slice none 0 0, .slice none 0 0, .slice none 0 0] 47) := ⟨_, rfl⟩
  have k2 : Blk w2 (w.heap.size + 1) #[.slice none 0 0, .slice none 0 0, .slice none 0 0, .slice none 0 0, .slice none 0 0, .slice none 0 0, .slice none 0 0] 47 := by rw [hw2]; exact Blk.newAt u1
  have b2 : Below w1.heap.size w1 w2 := by rw [hw2]; exact below_new _ _
  have u2 : w2.heap.size = w.heap.size + 2 := by rw [hw2]; simp [u1]
  have B2 := Below.thru b1 b2 (Nat.le_refl _)
  have kr := k1.keep b2
  have HW1 : Hid _ := hw1
  have HW2 : Hid _ := hw2
  have HU2 : Hid _ := u2
  clear hw1 hw2 k1 b1 b2 u1 u2
  go_enter Tryz.func8, Tryz.ntmps8
  go_wp2
  rw [← HW1.out, ← HW2.out]
  go_loopw [5, 6] (fun n i wr => ∃ k : Nat, k ≤ l.length ∧ i = .int .i64 k ∧ n = .int .i64 (totN (l.take k) : Nat) ∧ wr = w2) (fun _ i _ => l.length - (intOf i).toNat)
  case atStart => exact ⟨0, Nat.zero_le _, rfl, rfl, rfl⟩
  case round =>
    obtain ⟨k, hk, rfl, rfl, rfl⟩ := hrel
    by_cases hlt : k < l.length
    · have hlt' : (k : Int) < (l.length : Int) := by omega
      obtain ⟨xb, xo, r, rfl, -, hz, hat⟩ := (tg_at (hl.keep B2)).2 k hlt
      have a0 := hat.c0
      have hE := hz.e0
      have hnx := totN_next hlt
      have h1 := totN_take l (k + 1)
      have h2 := totN_take l k
      have hM := HM.out
      generalize l[k] = t at hE hnx
      obtain ⟨pe, ce, he⟩ := hE.len
      rw [he] at a0
      have HN : Hid _ := hnx
      have h3 : totN (l.take k) + t.evs.length ≤ 1000000 := by omega
      have la := cell_lt a0
      clear hz hat hE he hnx h1 h2 hM
      go_wp2
      go_roundw
      case rel => exact ⟨k + 1, by omega, by go_num, by rw [HN.out]; go_num, trivial⟩
      case measure => simp [intOf]; omega
    · have hlt' : ¬ (k : Int) < (l.length : Int) := by omega
      have e : l.take k = l := List.take_of_length_le (by omega)
      have h24' : (24 : Int) < ((totN (l.take k) : Nat) : Int) := by rw [e]; omega
      have le := Blk.lt k2
      have lr := Blk.lt kr
      have z0 := Blk.cell k2
      have y0 : wr.cell? ⟨w.heap.size + 1, 0, none⟩ = some (.slice none 0 0) := z0 0
      have y1 : wr.cell? ⟨w.heap.size + 1, 1, none⟩ = some (.slice none 0 0) := z0 1
      have y2 : wr.cell? ⟨w.heap.size + 1, 2, none⟩ = some (.slice none 0 0) := z0 2
      have y3 : wr.cell? ⟨w.heap.size + 1, 3, none⟩ = some (.slice none 0 0) := z0 3
      have y4 : wr.cell? ⟨w.heap.size + 1, 4, none⟩ = some (.slice none 0 0) := z0 4
      have y5 : wr.cell? ⟨w.heap.size + 1, 5, none⟩ = some (.slice none 0 0) := z0 5
      have y6 : wr.cell? ⟨w.heap.size + 1, 6, none⟩ = some (.slice none 0 0) := z0 6
      clear z0 e
      have FX := trivial
      go_wp2_with (clear FX; refine wpList_storeB (by rfl) 47 (.tmp 2) (.tmp 37) (by rfl) w.heap.size #[.slice none 0 0, .slice none 0 0, .slice none 0 0, .slice none 0 0, .slice none 0 0, .slice none 0 0, .slice none 0 0] _ 47 (by rfl) (by rfl) kr (by kernel_rfl) (by rfl) (by simp [Value.oneCell']) ?_; intro wL kL oL zL; simp only [Act.put])
      have zz := Blk.cell kL
      have q0 : wL.cell? ⟨w.heap.size, 0, none⟩ = some (.slice none 0 0) := zz 0
      have q1 : wL.cell? ⟨w.heap.size, 1, none⟩ = some (.slice none 0 0) := zz 1
      have q2 : wL.cell? ⟨w.heap.size, 2, none⟩ = some (.slice none 0 0) := zz 2
      have q3 : wL.cell? ⟨w.heap.size, 3, none⟩ = some (.slice none 0 0) := zz 3
      have q4 : wL.cell? ⟨w.heap.size, 4, none⟩ = some (.slice none 0 0) := zz 4
      have q5 : wL.cell? ⟨w.heap.size, 5, none⟩ = some (.slice none 0 0) := zz 5
      have q6 : wL.cell? ⟨w.heap.size, 6, none⟩ = some (.slice none 0 0) := zz 6
      refine bodyPost_ret (v := .tuple #[.agg #[.slice none 0 0, .slice none 0 0, .slice none 0 0, .slice none 0 0, .slice none 0 0, .slice none 0 0, .slice none 0 0], .int .i64 3]) (by simp [results, Tryz.results8, go_sem, q0, q1, q2, q3, q4, q5, q6]) rfl ⟨rfl, B2.trans (oL.below B2.size (fun k hk => by omega))⟩

set_option maxRecDepth 20000 in
set_option maxHeartbeats 8000000 in
theorem refJoin_bad (p : Option Addr) (c : Nat) (l : List Tr) (w : World) (hl : Sl TgE w (.slice p l.length c) l) (hr : ∀ t ∈ l, Rng t) (hev : ∀ t ∈ l, t.evs.length ≤ 1000) (h24 : totN l ≤ 24) (hM : totN l ≤ 1000000) (hn : l.length ≤ 1000000) (hbad : ¬ l.all fineT = true) :
    Calls Tryz.prog 8 #[.slice p l.length c] w fun e w' => e = .returned (.tuple #[.agg (exC fun _ => .slice none 0 0), .int .i64 2]) ∧ Below w.heap.size w w' := by
  have HR : Hid _ := hr
  have HEV : Hid _ := hev
  have HB : Hid _ := hbad
  clear hr hev hbad
  have HM : Hid _ := hM
  clear hM
  obtain ⟨w1, hw1⟩ : ∃ w1, w1 = w.alloc (.cells #[.slice none 0 0, .slice none 0 0, .slice none 0 0, .slice none 0 0, .slice none 0 0, .slice none 0 0, .slice none 0 0] 47) := ⟨_, rfl⟩
  have k1 : Blk w1 w.heap.size #[.slice none 0 0, .slice none 0 0, .slice none 0 0, .slice none 0 0, .slice none 0 0, .slice none 0 0, .slice none 0 0] 47 := by rw [hw1]; exact Blk.new
  have b1 : Below w.heap.size w w1 := by rw [hw1]; exact below_new _ _
  have u1 : w1.heap.size = w.heap.size + 1 := by rw [hw1]; simp
  obtain ⟨w2, hw2⟩ : ∃ w2, w2 = w1.alloc (.cells #[.slice none 0 0, .slice none 0 0, .slice none 0 0, .slice none 0 0, .slice none 0 0, .slice none 0 0, .slice none 0 0] 47) := ⟨_, rfl⟩
  have k2 : Blk w2 (w.heap.size + 1) #[.slice none 0 0, .slice none 0 0, .slice none 0 0, .slice none 0 0, .slice none 0 0, .slice none 0 0, .slice none 0 0] 47 := by rw [hw2]; exact Blk.newAt u1
  have b2 : Below w1.heap.size w1 w2 := by rw [hw2]; exact below_new _ _
  have u2 : w2.heap.size = w.heap.size + 2 := by rw [hw2]; simp [u1]
  have B2 := Below.thru b1 b2 (Nat.le_refl _)
  have kr := k1.keep b2
  have HW1 : Hid _ := hw1
  have HW2 : Hid _ := hw2
  have HU2 : Hid _ := u2
  clear hw1 hw2 k1 b1 b2 u1 u2
  go_enter Tryz.func8, Tryz.ntmps8
  go_wp2
  rw [← HW1.out, ← HW2.out]
  go_loopw [5, 6] (fun n i wr => ∃ k : Nat, k ≤ l.length ∧ i = .int .i64 k ∧ n = .int .i64 (totN (l.take k) : Nat) ∧ wr = w2) (fun _ i _ => l.length - (intOf i).toNat)
  case atStart => exact ⟨0, Nat.zero_le _, rfl, rfl, rfl⟩
  case round =>
    obtain ⟨k, hk, rfl, rfl, rfl⟩ := hrel
    by_cases hlt : k < l.length
    · have hlt' : (k : Int) < (l.length : Int) := by omega
      obtain ⟨xb, xo, r, rfl, -, hz, hat⟩ := (tg_at (hl.keep B2)).2 k hlt
      have a0 := hat.c0
      have hE := hz.e0
      have hnx := totN_next hlt
      have h1 := totN_take l (k + 1)
      have h2 := totN_take l k
      have hM := HM.out
      generalize l[k] = t at hE hnx
      obtain ⟨pe, ce, he⟩ := hE.len
      rw [he] at a0
      have HN : Hid _ := hnx
      have h3 : totN (l.take k) + t.evs.length ≤ 1000000 := by omega
      have la := cell_lt a0
      clear hz hat hE he hnx h1 h2 hM
      go_wp2
      go_roundw
      case rel => exact ⟨k + 1, by omega, by go_num, by rw [HN.out]; go_num, trivial⟩
      case measure => simp [intOf]; omega
    · have hlt' : ¬ (k : Int) < (l.length : Int) := by omega
      have e : l.take k = l := List.take_of_length_le (by omega)
      have h24' : ¬ (24 : Int) < ((totN (l.take k) : Nat) : Int) := by rw [e]; omega
      clear e
      go_wp2
      clear hlt hlt' hk h24'
      obtain ⟨w2, hww⟩ : ∃ x : World, x = wr := ⟨_, rfl⟩
      subst hww
      go_loopw [7] (fun i wr => ∃ j : Nat, j ≤ l.length ∧ i = .int .i64 j ∧ (∀ x ∈ l.take j, fineT x = true) ∧ Below w2.heap.size w2 wr) (fun i _ => l.length - (intOf i).toNat)
      case atStart => exact ⟨0, Nat.zero_le _, rfl, fun _ h => by simp at h, Below.refl _ _⟩
      case round =>
        obtain ⟨j, hj, rfl, hfine, hbj⟩ := hrel
        have HFN : Hid _ := hfine
        clear hfine
        have Bj := Below.thru B2 hbj (Nat.le_refl _)
        have kej := k2.keep hbj
        have krj := kr.keep hbj
        by_cases hjl : j < l.length
        · have hjl' : (j : Int) < (l.length : Int) := by omega
          obtain ⟨xb, xo, r, rfl, -, hz, hat⟩ := (tg_at (hl.keep Bj)).2 j hjl
          have hr0 := HR.out _ (List.getElem_mem hjl)
          have hev := HEV.out _ (List.getElem_mem hjl)
          have htk : l.take (j + 1) = l.take j ++ [l[j]] := by rw [List.take_add_one, List.getElem?_eq_getElem hjl]; rfl
          have hmem : l[j] ∈ l := List.getElem_mem hjl
          generalize l[j] = t at hz hat hr0 hev htk hmem
          have HTK : Hid _ := htk
          have HMEM : Hid _ := hmem
          clear htk hmem
          obtain ⟨a0, a1, a2, a3, a4, a5, a6, a7, a8, a9, aa, ab, ac, ad, ae, af⟩ := hat
          have la := cell_lt a0
          have hFi := fun W (hb : Below wr.heap.size wr W) => refFine_any r t W (hz.keep hb) hr0 (by omega)
          cases hf : fineT t
          · rw [hf] at hFi
            have HFI : Hid _ := hFi
            have HBAD : Hid _ := hf
            clear hFi hf
            have F1 := trivial
            go_wp2_with (first
              | (go_at_call 31; clear F1; refine (HFI.out _ (Below.refl _ _)).mono ?_; rintro e w7 ⟨rfl, hb7⟩; have B7 := Below.thru Bj hb7 (Nat.le_refl _); have ke7 := kej.keep hb7; have kr7 := krj.keep hb7; have le := Blk.lt ke7; have lr := Blk.lt kr7; have z0 := Blk.cell ke7; have y0 : w7.cell? ⟨w.heap.size + 1, 0, none⟩ = some (.slice none 0 0) := z0 0; have y1 : w7.cell? ⟨w.heap.size + 1, 1, none⟩ = some (.slice none 0 0) := z0 1; have y2 : w7.cell? ⟨w.heap.size + 1, 2, none⟩ = some (.slice none 0 0) := z0 2; have y3 : w7.cell? ⟨w.heap.size + 1, 3, none⟩ = some (.slice none 0 0) := z0 3; have y4 : w7.cell? ⟨w.heap.size + 1, 4, none⟩ = some (.slice none 0 0) := z0 4; have y5 : w7.cell? ⟨w.heap.size + 1, 5, none⟩ = some (.slice none 0 0) := z0 5; have y6 : w7.cell? ⟨w.heap.size + 1, 6, none⟩ = some (.slice none 0 0) := z0 6; clear z0; have FX := trivial)
              | (clear FX; refine wpList_storeB (by rfl) 47 (.tmp 2) (.tmp 50) (by rfl) w.heap.size #[.slice none 0 0, .slice none 0 0, .slice none 0 0, .slice none 0 0, .slice none 0 0, .slice none 0 0, .slice none 0 0] _ 47 (by rfl) (by rfl) kr7 (by kernel_rfl) (by rfl) (by simp [Value.oneCell']) ?_; intro wL kL oL zL; simp only [Act.put]))
            have zz := Blk.cell kL
            have q0 : wL.cell? ⟨w.heap.size, 0, none⟩ = some (.slice none 0 0) := zz 0
            have q1 : wL.cell? ⟨w.heap.size, 1, none⟩ = some (.slice none 0 0) := zz 1
            have q2 : wL.cell? ⟨w.heap.size, 2, none⟩ = some (.slice none 0 0) := zz 2
            have q3 : wL.cell? ⟨w.heap.size, 3, none⟩ = some (.slice none 0 0) := zz 3
            have q4 : wL.cell? ⟨w.heap.size, 4, none⟩ = some (.slice none 0 0) := zz 4
            have q5 : wL.cell? ⟨w.heap.size, 5, none⟩ = some (.slice none 0 0) := zz 5
            have q6 : wL.cell? ⟨w.heap.size, 6, none⟩ = some (.slice none 0 0) := zz 6
            refine bodyPost_ret (v := .tuple #[.agg #[.slice none 0 0, .slice none 0 0, .slice none 0 0, .slice none 0 0, .slice none 0 0, .slice none 0 0, .slice none 0 0], .int .i64 2]) (by simp [results, Tryz.results8, go_sem, q0, q1, q2, q3, q4, q5, q6]) rfl ⟨rfl, B7.trans (oL.below B7.size (fun k hk => by omega))⟩
          · rw [hf] at hFi
            have HFI : Hid _ := hFi
            have HOK : Hid _ := hf
            clear hFi hf
            go_wp2_with (go_at_call 31; refine (HFI.out _ (Below.refl _ _)).mono ?_; rintro e w7 ⟨rfl, hb7⟩)
            go_roundw
            case rel => exact ⟨j + 1, by omega, by go_num, fun x hx => by rw [HTK.out, List.mem_append] at hx; exact hx.elim (HFN.out x) (fun h => by rw [List.mem_singleton] at h; rw [h]; exact HOK.out), Below.thru hbj hb7 (Nat.le_refl _)⟩
            case measure => simp [intOf]; omega
        · have hjl' : ¬ (j : Int) < (l.length : Int) := by omega
          exact absurd (List.all_eq_true.2 fun x hx => HFN.out x (by rw [List.take_of_length_le (by omega)]; exact hx)) HB.out
end Go.Proofs.YtcalinfdckklfaaGreatDoor
namespace Go.Proofs.YtcalinfdckklfaaGreatDoor
open Go.RowKit

def selS : Nat → Sel
  | 0 => poS
  | 1 => adS
  | 2 => daS
  | 3 => ctS
  | _ => rmS
def exZ7 : Array Value := #[.slice none 0 0, .slice none 0 0, .slice none 0 0, .slice none 0 0, .slice none 0 0, .slice none 0 0, .slice none 0 0]
def exR7 (r : Nat → Value) : Array Value := #[r 5, .slice none 0 0, .slice none 0 0, .slice none 0 0, .slice none 0 0, .slice none 0 0, r 6]
structure JI (w wr : World) (r : Nat → Value) (ps : Nat → List (Nat × Nat)) (evs : List Ev) (regs : List (List Int)) : Prop where
  jn : Jn wr (w.heap.size + 2) r ps evs regs
  ke : Blk wr (w.heap.size + 1) (exR7 r) 47
  kr : Blk wr w.heap.size exZ7 47
  B : Below w.heap.size w wr
  sz : w.heap.size + 2 ≤ wr.heap.size
section
variable {w wr w' wA : World} {r : Nat → Value} {ps : Nat → List (Nat × Nat)} {evs : List Ev} {regs : List (List Int)} {v : Value}
theorem JI.keep (J : JI w wr r ps evs regs) (hb : Below wr.heap.size wr w') : JI w w' r ps evs regs :=
  ⟨J.jn.keep hb, J.ke.keep hb, J.kr.keep hb, Below.thru J.B hb (Nat.le_refl _), Nat.le_trans J.sz hb.size⟩
theorem JI.lt (J : JI w wr r ps evs regs) {i k : Nat} (hi : i < 7) (hk : (r i).ownBlock = some k) : w.heap.size + 2 ≤ k ∧ k < wr.heap.size := J.jn.lt hi hk
/-- A row has grown: the blocks below stay. -/
theorem JI.old (J : JI w wr r ps evs regs) {i : Nat} (hi : i < 7) (hg : wr.grownBy w' (r i).ownBlock) : Blk w' (w.heap.size + 1) (exR7 r) 47 ∧ Blk w' w.heap.size exZ7 47 ∧ Below w.heap.size w w' ∧ w.heap.size + 2 ≤ w'.heap.size := by
  have hn : ∀ b, b < w.heap.size + 2 → some b ≠ (r i).ownBlock := fun b hb e => by have := (J.lt hi e.symm).1; omega
  exact ⟨J.ke.grown hg (hn _ (by omega)), J.kr.grown hg (hn _ (by omega)), J.B.grown hg (Nat.le_trans (by omega) J.sz) (fun k hk => by have := (J.lt hi hk).1; omega), Nat.le_trans J.sz hg.size⟩
theorem JI.push (J : JI w wr r ps evs regs) {i : Nat} (hi : i < 5) {l : List (Nat × Nat)} (hg : wr.grownBy w' (r i).ownBlock) (ho : Own (fun _ => False) PairE w' (w.heap.size + 2) 83 v l) (hv : v.ownBlock = (r i).ownBlock ∨ v.ownBlock = some wr.heap.size) : JI w w' (updV r i v) (updL ps i l) evs regs := by
  obtain ⟨a, b, c, d⟩ := J.old (by omega) hg
  refine ⟨J.jn.app hi hg ho hv, ?_, b, c, d⟩
  have e : exR7 (updV r i v) = exR7 r := by unfold exR7; rw [updV_other _ _ (by omega), updV_other _ _ (by omega)]
  rw [e]
  exact a
theorem only_cell {b i : Nat} {w : World} {u : Value} : Only (fun k => k = b) w (w.setCell ⟨b, i, none⟩ u) := grownBy_only (grownBy_set w ⟨b, i, none⟩ u) (fun k hk => by cases hk; rfl)
theorem size_cell {b i : Nat} {w : World} {u : Value} : (w.setCell ⟨b, i, none⟩ u).heap.size = w.heap.size := by simp [World.setCell]
/-- An event more, written back. -/
theorem JI.ev (J : JI w wr r ps evs regs) {l : List Ev} (hg : wr.grownBy w' (r 5).ownBlock) (ho : Own F0 EvE w' (w.heap.size + 2) 52 v l) (hv : v.ownBlock = (r 5).ownBlock ∨ v.ownBlock = some wr.heap.size) : JI w (w'.setCell ⟨w.heap.size + 1, 0, none⟩ v) (updV r 5 v) ps l regs := by
  obtain ⟨a, b, c, d⟩ := J.old (by decide) hg
  have j := J.jn.app5 hg ho hv
  refine ⟨j.only only_cell (fun i k hi hk e => by have := (j.lt hi hk).1; omega) (fun k hk => by omega), ?_, b.only only_cell (by omega), below_setT c (by omega) _, by rw [size_cell]; exact d⟩
  have k := Blk.set (i := 0) a v
  have e : (exR7 r).setIfInBounds 0 v = exR7 (updV r 5 v) := by unfold exR7; rw [updV_same, updV_other _ _ (by decide)]; rfl
  rw [e] at k
  exact k
/-- Registers more, written back. -/
theorem JI.reg (J : JI w wr r ps evs regs) {Z : Nat → Prop} {l : List (List Int)} (hg : wr.grownBy w' (r 6).ownBlock) (ho : Own Z (SlE IntE) w' (w.heap.size + 2) 60 v l) (hZ : ∀ b, Z b → b < wr.heap.size ∧ w.heap.size + 2 ≤ b) (hd : ∀ i b, i < 7 → (r i).ownBlock = some b → ¬ Z b) (hv : v.ownBlock = (r 6).ownBlock ∨ v.ownBlock = some wr.heap.size) : JI w (w'.setCell ⟨w.heap.size + 1, 6, none⟩ v) (updV r 6 v) ps evs l := by
  obtain ⟨a, b, c, d⟩ := J.old (by decide) hg
  have j := J.jn.app6 hg ho hZ hd hv
  refine ⟨j.only only_cell (fun i k hi hk e => by have := (j.lt hi hk).1; omega) (fun k hk => by omega), ?_, b.only only_cell (by omega), below_setT c (by omega) _, by rw [size_cell]; exact d⟩
  have k := Blk.set (i := 6) a v
  have e : (exR7 r).setIfInBounds 6 v = exR7 (updV r 6 v) := by unfold exR7; rw [updV_same, updV_other _ _ (by decide)]; rfl
  rw [e] at k
  exact k

/-- Blocks that no row is in: what else the call keeps. -/
structure Apart (P : Nat → Prop) (wr : World) (r : Nat → Value) : Prop where
  lt : ∀ b, P b → b < wr.heap.size
  aw : ∀ i k, i < 7 → (r i).ownBlock = some k → ¬ P k
theorem Apart.keep {P : Nat → Prop} (h : Apart P wr r) (hs : wr.heap.size ≤ w'.heap.size) : Apart P w' r := ⟨fun b hb => Nat.lt_of_lt_of_le (h.lt b hb) hs, h.aw⟩
theorem Apart.grow {P : Nat → Prop} (h : Apart P wr r) {i : Nat} (hi : i < 7) (hs : wr.heap.size ≤ w'.heap.size) (hv : v.ownBlock = (r i).ownBlock ∨ v.ownBlock = some wr.heap.size) : Apart P w' (updV r i v) := by
  refine ⟨fun b hb => Nat.lt_of_lt_of_le (h.lt b hb) hs, fun j k hj hk hp => ?_⟩
  by_cases e : j = i
  · subst e
    rw [updV_same] at hk
    rcases hv with hv | hv
    · rw [hv] at hk; exact h.aw j k hi hk hp
    · rw [hv] at hk
      cases hk
      have := h.lt _ hp
      omega
  · rw [updV_other _ _ e] at hk
    exact h.aw j k hj hk hp
theorem Apart.blk {P : Nat → Prop} (h : Apart P wr r) {i b : Nat} {cs : Array Value} {t : TypeId} (hi : i < 7) (hb : P b) (k : Blk wr b cs t) (hg : wr.grownBy w' (r i).ownBlock) : Blk w' b cs t := k.grown hg fun e => h.aw i b hi e.symm hb
/-- A new block more. -/
theorem Apart.more {P : Nat → Prop} (h : Apart P wr r) (J : JI w wr r ps evs regs) (o : Obj) : Apart (fun b => P b ∨ b = wr.heap.size) (wr.alloc o) r :=
  ⟨fun b hb => by simp only [World.size_alloc]; exact hb.elim (fun hb => Nat.lt_succ_of_lt (h.lt b hb)) (fun e => e ▸ Nat.lt_succ_self _), fun i k hi hk hp => by
    rcases hp with hp | rfl
    · exact h.aw i k hi hk hp
    · have := (J.lt hi hk).2
      omega⟩
end
end Go.Proofs.YtcalinfdckklfaaGreatDoor
