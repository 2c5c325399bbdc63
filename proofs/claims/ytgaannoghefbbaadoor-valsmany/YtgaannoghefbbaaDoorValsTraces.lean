/- Contract of vals.Traces. -/
import Derived.Test.YtgaannoghefbbaaDoorValsGather3
import Derived.Test.YtgaannoghefbbaaDoorValsMath3
import Derived.Test.YtgaannoghefbbaaDoorTestCount
import Derived.Laws.EntriesVeiled
namespace Go.Proofs.YtgaannoghefbbaaDoor
open Go.RowKit
attribute [local go_sem] Ext.cell Ext.frozen

theorem gather_any (th : List Ins) (locs : Int) (l : List Int) (hl8 : l.length ≤ 8) (h4 : loadsN th ≤ 4) (bt bo bl bv bg : Nat) (p : Option Addr) (c : Nat) (pl : Option Addr) (cl : Nat) (C : Nat → Prop) (base : Nat) : ∀ f : Nat, GatherOk th locs l bt bo bl bv bg p c pl cl C base f
  | 0, v, b, W, D, lv, acc, gv, kv, tk, hf, F, I, hn => by
    have h1 := room tk
    have h0 : (runT th locs v b).more = 0 := by
      rcases more_cases th locs v b with h | h | h
      · exact h
      · have := room_val tk h; omega
      · have := room_luck tk h; omega
    have e : onT th locs l 0 v b = [runT th locs v b] := rfl
    rw [e] at hn ⊢
    exact gather_done th locs l bt bo bl bv bg p c pl cl C base v b W D lv acc gv kv (by omega) (by omega) F I (by simp at hn; omega) h0
  | f + 1, v, b, W, D, lv, acc, gv, kv, tk, hf, F, I, hn => by
    rcases more_cases th locs v b with h | h | h
    · have e : onT th locs l (f + 1) v b = [runT th locs v b] := by rw [onT, if_pos h]
      rw [e] at hn ⊢
      exact gather_done th locs l bt bo bl bv bg p c pl cl C base v b W D lv acc gv kv (by omega) (by omega) F I (by simp at hn; omega) h
    · exact gather_val th locs l bt bo bl bv bg p c pl cl C base f (gather_any th locs l hl8 h4 bt bo bl bv bg p c pl cl C base f) v b W D lv acc gv kv tk hf F I hn h hl8
    · exact gather_luck th locs l bt bo bl bv bg p c pl cl C base f (gather_any th locs l hl8 h4 bt bo bl bv bg p c pl cl C base f) v b W D lv acc gv kv tk hf F I hn h

set_option maxHeartbeats 2000000 in
theorem loads_any (p : Option Addr) (c : Nat) (th : List Ins) (w : World) (T : Tab w) (ht : Sl InsE w (.slice p th.length c) th) (hth : th.length ≤ 1000000) :
    Calls Tryd.prog 18 #[.slice p th.length c] w fun e w' => e = .returned (.int .i64 (loadsN th : Nat)) ∧ Below w.heap.size w w' := by
  have b1 := below_new w (.cells #[.slice p th.length c] 22)
  have hS : Sl ThrE (w.alloc (.cells #[.slice p th.length c] 22)) (.slice (some ⟨w.heap.size, 0, none⟩) 1 1) [th] := sl_one trivial (by rw [Blk.cell Blk.new]; rfl) (ht.keep b1) (Nat.le_refl _)
  have hC := fun W (hB : Below (w.alloc (.cells #[.slice p th.length c] 22)).heap.size (w.alloc (.cells #[.slice p th.length c] 22)) W) => Count_any none (some ⟨w.heap.size, 0, none⟩) 0 0 1 [th] W ((T.below b1).below hB) (hS.keep hB) (by simp [sizeTs]; omega) (by simp)
  have hc : cntTs [th] 0 0 = (((loadsN th : Nat) : Int), ((storesN th : Nat) : Int)) := by rw [cntTs_is]; simp [loadsTs, storesTs]
  rw [hc] at hC
  simp only [List.length_singleton] at hC
  have HC : Hid _ := hC
  clear hC hc
  go_enter Tryd.func18, Tryd.ntmps18
  go_wp2_with (go_at_call 24; refine (HC.out _ (Below.refl _ _)).mono ?_; rintro e w2 ⟨rfl, hb2⟩)
  go_ret
  exact ⟨rfl, Below.thru b1 hb2 (Nat.le_refl _)⟩

theorem onT_len4 {th : List Ins} {locs : Int} {l : List Int} (hl : l.length ≤ 8) (h4 : loadsN th ≤ 4) : (onT th locs l 8 [] []).length ≤ 65536 := by
  have h := tracesT_len4 (th := th) (locs := locs) hl
  unfold tracesT at h
  rw [if_pos h4] at h
  exact h

set_option maxRecDepth 20000 in
set_option maxHeartbeats 8000000 in
theorem Traces_new (p pl : Option Addr) (c cl : Nat) (th : List Ins) (locs : Int) (l : List Int) (w : World) (T : FEnv w) (hl8 : l.length ≤ 8) (hth : th.length ≤ 1000000)
    (ht : Sl InsE w (.slice p th.length c) th) (hl : Sl IntE w (.slice pl l.length cl) l) :
    Calls Tryd.prog 8 #[.slice p th.length c, .int .i64 locs, .slice pl l.length cl] w fun e w' => ∃ u, e = .returned u ∧ SlA (fun k => w.heap.size ≤ k) TrE w' u (tracesT th locs l) ∧ Below w.heap.size w w' := by
  obtain ⟨w1, hw1⟩ : ∃ w1, w1 = w.alloc (.cells #[.slice p th.length c] 22) := ⟨_, rfl⟩
  have k1 : Blk w1 w.heap.size #[.slice p th.length c] 22 := by rw [hw1]; exact Blk.new
  have b1 : Below w.heap.size w w1 := by rw [hw1]; exact below_new _ _
  have s1 : w1.heap.size = w.heap.size + 1 := by rw [hw1]; simp
  obtain ⟨w2, hw2⟩ : ∃ w2, w2 = w1.alloc (.cells #[.int .i64 locs] 3) := ⟨_, rfl⟩
  have k2 : Blk w2 (w.heap.size + 1) #[.int .i64 locs] 3 := by rw [hw2]; exact Blk.newAt s1
  have b2 : Below w1.heap.size w1 w2 := by rw [hw2]; exact below_new _ _
  have s2 : w2.heap.size = w.heap.size + 1 + 1 := by rw [hw2]; simp [s1]
  obtain ⟨w3, hw3⟩ : ∃ w3, w3 = w2.alloc (.cells #[.slice pl l.length cl] 23) := ⟨_, rfl⟩
  have k3 : Blk w3 (w.heap.size + 1 + 1) #[.slice pl l.length cl] 23 := by rw [hw3]; exact Blk.newAt s2
  have b3 : Below w2.heap.size w2 w3 := by rw [hw3]; exact below_new _ _
  have s3 : w3.heap.size = w.heap.size + 1 + 1 + 1 := by rw [hw3]; simp [s2]
  have B3 : Below w.heap.size w w3 := Below.thru (Below.thru b1 b2 (Nat.le_refl _)) b3 (Nat.le_refl _)
  have k13 := (k1.keep b2).keep b3
  have k23 := k2.keep b3
  have HW1 : Hid _ := hw1
  have HW2 : Hid _ := hw2
  have HW3 : Hid _ := hw3
  clear hw1 hw2 hw3 k1 k2 b1 b2 b3 s1 s2
  have q0 := k13.cell 0
  have lq0 := k13.lt
  simp only [List.getElem?_toArray, List.getElem?_cons_zero] at q0
  by_cases h4 : loadsN th ≤ 4
  · have h4' : ¬ (4 : Int) < ((loadsN th : Nat) : Int) := by omega
    have hL := onT_len4 (th := th) (locs := locs) hl8 h4
    have hT : tracesT th locs l = onT th locs l 8 [] [] := if_pos h4
    have HT : Hid _ := hT
    clear hT
    have F1 := trivial
    go_enter Tryd.func8, Tryd.ntmps8
    go_wp2_with (first
      | (go_at_call 18; clear F1; rw [← HW1.out, ← HW2.out, ← HW3.out]; refine (loads_any p c th _ (T.tab.below B3) (ht.keep B3) hth).mono ?_; rintro e w4 ⟨rfl, hb4⟩; have F2 := trivial)
      | (go_at_call 19; clear F2
         generalize hfv : Value.func (Fn.func 19) #[] _ = fv
         have kl6 : Blk ((w4.alloc (.cells #[.slice none 0 0] 25)).alloc (.cells #[fv] 60)) w4.heap.size #[.slice none 0 0] 25 := Blk.new.alloc _
         have kg6 : Blk ((w4.alloc (.cells #[.slice none 0 0] 25)).alloc (.cells #[fv] 60)) (w4.heap.size + 1) #[fv] 60 := Blk.newAt (by simp)
         have B6 : Below w4.heap.size w4 ((w4.alloc (.cells #[.slice none 0 0] 25)).alloc (.cells #[fv] 60)) := (below_new _ _).alloc (by simp) _
         have s6 : ((w4.alloc (.cells #[.slice none 0 0] 25)).alloc (.cells #[fv] 60)).heap.size = w4.heap.size + 1 + 1 := by simp
         generalize (w4.alloc (.cells #[.slice none 0 0] 25)).alloc (.cells #[fv] 60) = w6 at *
         have C6 := Below.thru hb4 B6 (Nat.le_refl _)
         have D6 := Below.thru B3 C6 (Nat.le_refl _)
         have hs4 := hb4.size
         have ls3 := s3
         have F6 : GaFix w6 th locs l w.heap.size (w.heap.size + 1) w4.heap.size (w.heap.size + 1 + 1) (w4.heap.size + 1) p c pl cl (fun x => x < w4.heap.size ∨ x = w4.heap.size + 1) :=
           ⟨k13.keep C6, k23.keep C6, k3.keep C6, by rw [hfv]; exact kg6, SlA.mono (fun b hb => .inl (by have := hb.2; omega)) (SlA.lt ht |>.keep D6), SlA.mono (fun b hb => .inl (by have := hb.2; omega)) (SlA.lt hl |>.keep D6), T.below D6, .inl (by omega), .inl (by omega), .inl (by omega), .inr rfl, .inl (by have := cell_lt T.bar.1; omega), .inl (by have := T.tab.pos; omega)⟩
         have hn : ∀ x, Value.ownBlock (.slice none 0 0) ≠ some x := fun x h => by simp [Value.ownBlock] at h
         have I6 : InvG w4.heap.size w4.heap.size (fun x => x < w4.heap.size ∨ x = w4.heap.size + 1) w6 (fun _ => False) (.slice none 0 0) [] (.slice none 0 0) [] (.slice none 0 0) [] :=
           ⟨kl6, Own.nil, World.ownsRow_nil _ _ _ _, World.ownsRow_nil _ _ _ _, by omega, fun x hx => by omega, fun _ h => h.elim, fun x hx h => by rcases h with h | h | h | h <;> first | (exact absurd h (hn _)) | omega, fun _ h => h.elim, hn _, hn _, hn _, fun _ _ => hn _, fun _ _ => hn _, fun _ _ => hn _⟩
         have CC := gather_any th locs l hl8 h4 w.heap.size (w.heap.size + 1) w4.heap.size (w.heap.size + 1 + 1) (w4.heap.size + 1) p c pl cl (fun x => x < w4.heap.size ∨ x = w4.heap.size + 1) w4.heap.size 8 [] [] w6 (fun _ => False) (.slice none 0 0) [] (.slice none 0 0) (.slice none 0 0) (took_nil _ _) rfl F6 I6 (by simp; omega)
         refine CC.mono ?_
         clear CC F6
         rintro e w7 ⟨rfl, D7, lv7, R7⟩
         have x7 := R7.blk.cell 0
         have lx7 := R7.blk.lt
         simp only [List.getElem?_toArray, List.getElem?_cons_zero] at x7
         have F3 := trivial))
    go_ret
    have hsz := R7.only.size
    refine ⟨lv7, rfl, ?_, D6.trans (R7.only.below (by have := D6.size; omega) fun b hb => ?_)⟩
    · rw [HT.out]
      exact R7.own.sl.mono fun b hb => by
        rcases hb with hb | hb
        · have := hs4; omega
        · rcases R7.dsub b hb with hb | hb
          · exact hb.elim
          · omega
    · rcases hb with hb | hb | hb | hb
      · omega
      · exact absurd hb (hn _)
      · exact absurd hb (hn _)
      · exact absurd hb (hn _)
  · have h4' : (4 : Int) < ((loadsN th : Nat) : Int) := by omega
    have hT : tracesT th locs l = [] := if_neg h4
    have HT : Hid _ := hT
    clear hT
    have F1 := trivial
    go_enter Tryd.func8, Tryd.ntmps8
    go_wp2_with (first
      | (go_at_call 18; clear F1; rw [← HW1.out, ← HW2.out, ← HW3.out]; refine (loads_any p c th _ (T.tab.below B3) (ht.keep B3) hth).mono ?_; rintro e w4 ⟨rfl, hb4⟩; have F2 := trivial))
    go_ret
    exact ⟨_, rfl, by rw [HT.out]; exact SlA.nil, Below.thru B3 hb4 (Nat.le_refl _)⟩
end Go.Proofs.YtgaannoghefbbaaDoor
