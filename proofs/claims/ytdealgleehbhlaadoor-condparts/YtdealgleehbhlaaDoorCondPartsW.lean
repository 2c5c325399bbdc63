/- The walk of CondParts. -/
import Derived.Test.YtdealgleehbhlaaDoorCondSetsW
import Derived.Test.YtdealgleehbhlaaDoorCondEval2
namespace Go.Proofs.YtdealgleehbhlaaDoor
open Go.RowKit
attribute [local go_sem] Ext.cell Ext.frozen

theorem parts_world (w4 : World) (all : Bool) (q8 : Option Addr) (n d8 : Nat) : Below w4.heap.size w4 ((w4.alloc (.cells #[.bool all, .slice q8 n d8] 31)).alloc (.cells #[] 36)) ∧ Blk ((w4.alloc (.cells #[.bool all, .slice q8 n d8] 31)).alloc (.cells #[] 36)) w4.heap.size #[.bool all, .slice q8 n d8] 31 ∧ Blk ((w4.alloc (.cells #[.bool all, .slice q8 n d8] 31)).alloc (.cells #[] 36)) (w4.heap.size + 1) #[] 36 :=
  ⟨by go_grown, Blk.new.alloc _, Blk.newAt (by simp)⟩

set_option maxRecDepth 100000 in
set_option maxHeartbeats 8000000 in
theorem CondParts_true (all : Bool) (p : Option Addr) (c : Nat) (ls : List (List Atm)) (q1 : Option Addr) (d1 : Nat) (xs : List Out) (q2 : Option Addr) (d2 : Nat) (ys : List Out) (w : World) (E : Pow w) (hl : Sl (SlE AtmE) w (.slice p ls.length c) ls) (_ : ∀ l ∈ ls, ∀ a ∈ l, Asz a) (hx : Sl OutE w (.slice q1 xs.length d1) xs) (hzx : ∀ o ∈ xs, Ozb o) (hy : Sl OutE w (.slice q2 ys.length d2) ys) (hzy : ∀ o ∈ ys, Ozb o) :
    Calls Tryd.prog 8 #[.agg #[.bool all, .slice p ls.length c], .slice q1 xs.length d1, .slice q2 ys.length d2] w fun e w' => e = .returned (.bool true) ∧ Below w.heap.size w w' := by
  obtain ⟨i0, z0, j1, j2, j3, j4, j5⟩ := info_get info_out
  have J1 : Hid _ := j1
  have J2 : Hid _ := j2
  have J3 : Hid _ := j3
  have J4 : Hid _ := j4
  have J5 : Hid _ := j5
  clear j1 j2 j3 j4 j5
  have hb1 := (Below.refl w.heap.size w).alloc (Nat.le_refl _) (.cells #[.bool all, .slice p ls.length c] 24)
  have k1 : Blk (w.alloc (.cells #[.bool all, .slice p ls.length c] 24)) w.heap.size #[.bool all, .slice p ls.length c] 24 := Blk.new
  have HZX : Hid _ := hzx
  have HZY : Hid _ := hzy
  clear hzx hzy
  have C0 := shown_any _ (E.below hb1)
  have CF := fun (w' : World) (h : Below w.heap.size w w') => few_any all p c ls w' (hl.keep h)
  go_enter Tryd.func8, Tryd.ntmps8
  cases hf : fewB ls
  · rw [hf] at CF
    have CF : Hid _ := CF
    go_wp2_with (first
      | (go_at_call 9; refine C0.mono ?_; rintro e w2 ⟨rfl, hb2⟩; have e0 : w2.cell? ⟨w.heap.size, 0, none⟩ = some (.bool all) := (k1.keep hb2).cell 0; have e1 : w2.cell? ⟨w.heap.size, 1, none⟩ = some (.slice p ls.length c) := (k1.keep hb2).cell 1)
      | (go_at_call 10; refine Calls.mono (CF.out _ (Below.thru hb1 hb2 (Nat.le_refl _))) ?_; rintro e w3 ⟨rfl, hb3⟩))
    go_ret
    exact ⟨rfl, Below.thru (Below.thru hb1 hb2 (Nat.le_refl _)) hb3 (Nat.le_refl _)⟩
  · rw [hf] at CF
    have CF : Hid _ := CF
    obtain ⟨hz, hzl⟩ := few_yes hf
    clear hf
    by_cases h25 : 25 < xs.length
    · have h25' : (25 : Int) < (xs.length : Int) := by omega
      go_wp2_with (first
        | (go_at_call 9; refine C0.mono ?_; rintro e w2 ⟨rfl, hb2⟩; have e0 : w2.cell? ⟨w.heap.size, 0, none⟩ = some (.bool all) := (k1.keep hb2).cell 0; have e1 : w2.cell? ⟨w.heap.size, 1, none⟩ = some (.slice p ls.length c) := (k1.keep hb2).cell 1)
        | (go_at_call 10; refine Calls.mono (CF.out _ (Below.thru hb1 hb2 (Nat.le_refl _))) ?_; rintro e w3 ⟨rfl, hb3⟩))
      go_ret
      exact ⟨rfl, Below.thru (Below.thru hb1 hb2 (Nat.le_refl _)) hb3 (Nat.le_refl _)⟩
    · have h25' : ¬ (25 : Int) < (xs.length : Int) := by omega
      by_cases h26 : 25 < ys.length
      · have h26' : (25 : Int) < (ys.length : Int) := by omega
        go_wp2_with (first
          | (go_at_call 9; refine C0.mono ?_; rintro e w2 ⟨rfl, hb2⟩; have e0 : w2.cell? ⟨w.heap.size, 0, none⟩ = some (.bool all) := (k1.keep hb2).cell 0; have e1 : w2.cell? ⟨w.heap.size, 1, none⟩ = some (.slice p ls.length c) := (k1.keep hb2).cell 1)
          | (go_at_call 10; refine Calls.mono (CF.out _ (Below.thru hb1 hb2 (Nat.le_refl _))) ?_; rintro e w3 ⟨rfl, hb3⟩))
        go_ret
        exact ⟨rfl, Below.thru (Below.thru hb1 hb2 (Nat.le_refl _)) hb3 (Nat.le_refl _)⟩
      · have h26' : ¬ (25 : Int) < (ys.length : Int) := by omega
        have HL1 : ∀ l ∈ ls, l.length ≤ 1000000 := fun l hl => by have := hzl l hl; omega
        have CM := fun (w' : World) (h : Below w.heap.size w w') => made_any all p c ls w' (hl.keep h) (by omega) (fun l hl => by have := hzl l hl; omega)
        have CVX := fun (q' : Option Addr) (d' : Nat) (w' : World) (h1 : Sl (SlE AtmE) w' (.slice q' ls.length d') ls) (h : Below w.heap.size w w') => Verdict_any all q' q1 d' d1 ls xs w' h1 (hx.keep h) (by omega) HL1 (by omega)
        have CVY := fun (q' : Option Addr) (d' : Nat) (w' : World) (h1 : Sl (SlE AtmE) w' (.slice q' ls.length d') ls) (h : Below w.heap.size w w') => Verdict_any all q' q2 d' d2 ls ys w' h1 (hy.keep h) (by omega) HL1 (by omega)
        have hlab : (xs ++ ys).length ≤ 50 := by rw [List.length_append]; omega
        have hva := verdict_app all ls xs ys
        have hsp := set_parts xs ys
        have hzab : ∀ o ∈ xs ++ ys, Ozb o := fun o h => (List.mem_append.1 h).elim (HZX.out o) (HZY.out o)
        obtain ⟨ab, hab⟩ : ∃ ab, xs ++ ys = ab := ⟨_, rfl⟩
        rw [hab] at hlab hva hsp hzab
        have hlx : (setO [] xs).length ≤ 25 := by have := set_len (l := xs) (acc := []); simp at this; omega
        have hly : (setO [] ys).length ≤ 25 := by have := set_len (l := ys) (acc := []); simp at this; omega
        have hzsx : ∀ o ∈ setO [] xs, Ozb o := fun o h => HZX.out o (by simpa using set_mem.1 h)
        have hzsy : ∀ o ∈ setO [] ys, Ozb o := fun o h => HZY.out o (by simpa using set_mem.1 h)
        have CSX := fun (w' : World) (h : Below w.heap.size w w') => Set_any q1 d1 xs w' (hx.keep h) HZX.out (by omega)
        have CSY := fun (w' : World) (h : Below w.heap.size w w') => Set_any q2 d2 ys w' (hy.keep h) HZY.out (by omega)
        generalize setO [] xs = sx at hlx hzsx CSX hsp
        generalize setO [] ys = sy at hly hzsy CSY hsp
        have hlss : (sy ++ sx).length ≤ 50 := by rw [List.length_append]; omega
        have hzss : ∀ o ∈ sy ++ sx, Ozb o := fun o h => (List.mem_append.1 h).elim (hzsy o) (hzsx o)
        obtain ⟨st, hst⟩ : ∃ st, sy ++ sx = st := ⟨_, rfl⟩
        rw [hst] at hlss hzss hsp
        have HAB : Hid _ := hab
        have HSS : Hid _ := hst
        have CVA := fun (q' q : Option Addr) (d' d : Nat) (w' : World) (h1 : Sl (SlE AtmE) w' (.slice q' ls.length d') ls) (h2 : Sl OutE w' (.slice q ab.length d) ab) => Verdict_any all q' q d' d ls ab w' h1 h2 (by omega) HL1 (by omega)
        have CSA := fun (q : Option Addr) (d : Nat) (w' : World) (h : Sl OutE w' (.slice q ab.length d) ab) => Set_any q d ab w' h hzab (by omega)
        have CSB := fun (q : Option Addr) (d : Nat) (w' : World) (h : Sl OutE w' (.slice q st.length d) st) => Set_any q d st w' h hzss (by omega)
        have hlu : (setO [] ab).length ≤ 50 := by have := set_len (l := ab) (acc := []); simp at this; omega
        have hzu : ∀ o ∈ setO [] ab, Osz o := fun o h => (hzab o (by simpa using set_mem.1 h)).osz
        rw [← hsp] at CSB
        generalize setO [] ab = su at hlu hzu CSA CSB
        have CQ := fun (p q : Option Addr) (c d : Nat) (w' : World) (h1 : Sl OutE w' (.slice p su.length c) su) (h2 : Sl OutE w' (.slice q su.length d) su) => Same_any p q c d su w' h1 h2 hzu (by omega)
        clear hab hst hsp hzab hzss hzsx hzsy hzu
        generalize verdictB all ls xs = bu at CVX hva
        generalize verdictB all ls ys = bv at CVY hva
        rw [hva] at CVA
        clear hva
        cases all <;> cases bu <;> cases bv
        all_goals
          simp only [cond_true, cond_false, Bool.and_true, Bool.and_false, Bool.or_true, Bool.or_false] at CVA
          have CM : Hid _ := CM
          have CVX : Hid _ := CVX
          have CVY : Hid _ := CVY
          have CVA : Hid _ := CVA
          have CSX : Hid _ := CSX
          have CSY : Hid _ := CSY
          have CSA : Hid _ := CSA
          have CSB : Hid _ := CSB
          have CQ : Hid _ := CQ
          go_wp2_with (first
            | (go_at_call 9; refine C0.mono ?_; rintro e w2 ⟨rfl, hb2⟩; have e0 : w2.cell? ⟨w.heap.size, 0, none⟩ = some (.bool _) := (k1.keep hb2).cell 0; have e1 : w2.cell? ⟨w.heap.size, 1, none⟩ = some (.slice p ls.length c) := (k1.keep hb2).cell 1)
            | (go_at_call 10; refine Calls.mono (CF.out _ (Below.thru hb1 hb2 (Nat.le_refl _))) ?_; rintro e w3 ⟨rfl, hb3⟩; have f0 := cell_keep e0 hb3; have f1 := cell_keep e1 hb3; have hB3 := Below.thru (Below.thru hb1 hb2 (Nat.le_refl _)) hb3 (Nat.le_refl _))
            | (go_at_call 12; refine Calls.mono (CM.out _ hB3) ?_; rintro e w4 ⟨q8, d8, rfl, s8, hb4⟩; have hB4 := Below.thru hB3 hb4 (Nat.le_refl _); clear e0 e1 f0 f1; obtain ⟨hb5, kc5, kn5⟩ := parts_world w4 _ q8 ls.length d8; have F1 := trivial)
            | (at_builtin; clear F1; refine wpList_app (R := OutE) (A := fun b => b < w4.heap.size) (B := fun b => b < w4.heap.size) (xs := []) (ys := xs) (by rfl) (.tmp 31) (.tmp 32) 25 36 i0 z0 48 (by rfl) Tryd.underlying25 J1.out J2.out J4.out J5.out J3.out (w4.heap.size + 1) (.slice (some ⟨w4.heap.size + 1, 0, none⟩) 0 0) (.slice q1 xs.length d1) (by rfl) (by rfl) (own_new (Nat.le_refl _) kn5) (((hx.keep hB4).old).keep hb5) (fun _ _ _ h => OutE.mono (fun b hb => ⟨hb, fun e => by simp [Value.ownBlock] at e; omega⟩) h) (by simp only [List.length_nil]; omega) (by decide) (by simp) ?_; intro p6 c6 w6 hO6 hg6 _; simp only [List.nil_append] at hO6 ⊢; have hb6 : Below w4.heap.size w4 w6 := hb5.grown hg6 (by simp; omega) (fun k hk => by simp [Value.ownBlock] at hk; omega); have kc6 := kc5.grown hg6 (by simp [Value.ownBlock]); have F2 := trivial)
            | (at_builtin; clear F2; refine wpList_app (R := OutE) (A := fun b => b < w4.heap.size) (B := fun b => b < w4.heap.size) (xs := xs) (ys := ys) (by rfl) (.tmp 33) (.tmp 34) 25 36 i0 z0 48 (by rfl) Tryd.underlying25 J1.out J2.out J4.out J5.out J3.out (w4.heap.size + 1) (.slice p6 xs.length c6) (.slice q2 ys.length d2) (by rfl) (by rfl) hO6 (((hy.keep hB4).old).keep hb6) (fun _ _ _ h => OutE.mono (fun b hb => ⟨hb, fun e => by have := (hO6.lt b e.symm).1; omega⟩) h) (by omega) (by decide) (by have := hg6.size; simp at this; omega) ?_; intro p7 c7 w7 hO7 hg7 _; rw [HAB.out] at hO7 ⊢; have hb7 : Below w4.heap.size w4 w7 := hb6.grown hg7 hb6.size (fun k hk => by have := (hO6.lt k hk).1; omega); have kc7 := kc6.grown hg7 (fun e => by have := (hO6.lt _ e.symm).1; omega); have hB7 := Below.thru hB4 hb7 (Nat.le_refl _); have s7 := s8.any.keep hb7; have g0 : w7.cell? ⟨w4.heap.size, 0, none⟩ = some (.bool _) := kc7.cell 0; have g1 : w7.cell? ⟨w4.heap.size, 1, none⟩ = some (.slice q8 ls.length d8) := kc7.cell 1; have F3 := trivial)
            | (go_at_call 14; clear F3; refine Calls.mono (CVX.out _ _ _ s7 hB7) ?_; rintro e w8 ⟨rfl, hb8⟩; have h0 := cell_keep g0 hb8; have h1 := cell_keep g1 hb8; have F4 := trivial)
            | (go_at_call 14; clear F4; refine Calls.mono (CVY.out _ _ _ (s7.keep hb8) (Below.thru hB7 hb8 (Nat.le_refl _))) ?_; rintro e w9 ⟨rfl, hb9⟩; have i1 := cell_keep h0 hb9; have i2 := cell_keep h1 hb9; have hb79 := Below.thru hb8 hb9 (Nat.le_refl _); have F5 := trivial)
            | (go_at_call 14; clear F5; refine Calls.mono (CVA.out _ _ _ _ _ (s7.keep hb79) (hO7.sl.any.keep hb79)) ?_; rintro e w10 ⟨rfl, hb10⟩; have k0 := cell_keep i1 hb10; have hb7A := Below.thru hb79 hb10 (Nat.le_refl _); have hbA := (Below.refl w10.heap.size w10).alloc (Nat.le_refl _) (.cells #[] 36); have knA : Blk (w10.alloc (.cells #[] 36)) w10.heap.size #[] 36 := Blk.new; have hBA := Below.thru (Below.thru hB7 hb7A (Nat.le_refl _)) hbA (Nat.le_refl _); have F6 := trivial)
            | (go_at_call 21; clear F6; refine Calls.mono (CSY.out _ hBA) ?_; rintro e w11 ⟨v11, rfl, s11, hb11⟩; obtain ⟨p11, c11, rfl⟩ := s11.len; have F7 := trivial)
            | (at_builtin; clear F7; refine wpList_app (R := OutE) (A := fun b => w10.heap.size + 1 ≤ b) (B := fun b => w10.heap.size + 1 ≤ b) (xs := []) (ys := sy) (by rfl) (.tmp 45) (.tmp 47) 25 36 i0 z0 48 (by rfl) Tryd.underlying25 J1.out J2.out J4.out J5.out J3.out w10.heap.size (.slice (some ⟨w10.heap.size, 0, none⟩) 0 0) (.slice p11 sy.length c11) (by rfl) (by rfl) (own_new (Nat.le_refl _) (knA.keep hb11)) (SlA.mono (fun b hb => by simpa using hb) s11) (fun _ _ _ h => OutE.mono (fun b hb => ⟨hb, fun e => by simp [Value.ownBlock] at e; omega⟩) h) (by simp only [List.length_nil]; omega) (by decide) (by have := hb11.size; simp at this; omega) ?_; intro p12 c12 w12 hO12 hg12 _; simp only [List.nil_append] at hO12 ⊢; have hb12 : Below w10.heap.size w10 w12 := (Below.thru hbA hb11 (Nat.le_refl _)).grown hg12 (by have := hb11.size; simp at this; omega) (fun k hk => by simp [Value.ownBlock] at hk; omega); have k1' := cell_keep k0 hb12; have hB12 := Below.thru (Below.thru hB7 hb7A (Nat.le_refl _)) hb12 (Nat.le_refl _); have F8 := trivial)
            | (go_at_call 21; clear F8; refine Calls.mono (CSX.out _ hB12) ?_; rintro e w13 ⟨v13, rfl, s13, hb13⟩; obtain ⟨p13, c13, rfl⟩ := s13.len; have F9 := trivial)
            | (at_builtin; clear F9; refine wpList_app (R := OutE) (A := fun b => w10.heap.size + 1 ≤ b) (B := fun b => w12.heap.size ≤ b) (xs := sy) (ys := sx) (by rfl) (.tmp 48) (.tmp 50) 25 36 i0 z0 48 (by rfl) Tryd.underlying25 J1.out J2.out J4.out J5.out J3.out w10.heap.size (.slice p12 sy.length c12) (.slice p13 sx.length c13) (by rfl) (by rfl) (hO12.keep hb13) s13 (fun _ _ _ h => OutE.mono (fun b hb => ⟨by have := (hg12.size); have := hb11.size; simp at *; omega, fun e => by have := (hO12.lt b e.symm).2; omega⟩) h) (by omega) (by decide) (by have := hb12.size; have := hb13.size; omega) ?_; intro p14 c14 w14 hO14 hg14 _; rw [HSS.out] at hO14 ⊢; have hb14 : Below w10.heap.size w10 w14 := (Below.thru hb12 hb13 (Nat.le_refl _)).grown hg14 (by have := hb12.size; have := hb13.size; omega) (fun k hk => (hO12.lt k hk).1); have k2' := cell_keep k0 hb14; have hb7E := Below.thru hb7A hb14 (Nat.le_refl _); have F10 := trivial)
            | (go_at_call 21; clear F10; refine Calls.mono (CSA.out _ _ _ (hO7.sl.any.keep hb7E)) ?_; rintro e w15 ⟨v15, rfl, s15, hb15⟩; obtain ⟨p15, c15, rfl⟩ := s15.len; have F11 := trivial)
            | (go_at_call 21; clear F11; refine Calls.mono (CSB.out _ _ _ (hO14.sl.any.keep hb15)) ?_; rintro e w16 ⟨v16, rfl, s16, hb16⟩; obtain ⟨p16, c16, rfl⟩ := s16.len)
            | (go_at_call 20; refine Calls.mono (CQ.out _ _ _ _ _ (s15.any.keep hb16) s16.any) ?_; rintro e w17 ⟨rfl, hb17⟩))
          go_ret
          exact ⟨rfl, Below.thru (Below.thru (Below.thru (Below.thru hB7 hb7E (Nat.le_refl _)) hb15 (Nat.le_refl _)) hb16 (Nat.le_refl _)) hb17 (Nat.le_refl _)⟩
end Go.Proofs.YtdealgleehbhlaaDoor
