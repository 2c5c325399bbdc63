/- The walk of CondSets. -/
import Derived.Test.YtdealgleehbhlaaDoorCondFew
import Derived.Test.YtdealgleehbhlaaDoorCondSet
import Derived.Test.YtdealgleehbhlaaDoorCondRefSet
import Derived.Test.YtdealgleehbhlaaDoorCondOpen
namespace Go.Proofs.YtdealgleehbhlaaDoor
open Go.RowKit
attribute [local go_sem] Ext.cell Ext.frozen

theorem Sl.lenAs {A : Nat → Prop} {w : World} {v : Value} {xs : List Out} {n : Nat} (h : SlA A OutE w v xs) (hn : xs.length = n) : ∃ p cap, v = .slice p n cap := by
  subst hn; exact h.len

set_option maxRecDepth 100000 in
set_option maxHeartbeats 4000000 in
theorem CondSets_true (q : Option Addr) (d : Nat) (os : List Out) (w : World) (E : Pow w) (ho : Sl OutE w (.slice q os.length d) os) (hz : ∀ o ∈ os, Ozb o) :
    Calls Tryd.prog 4 #[.slice q os.length d] w fun e w' => e = .returned (.bool true) ∧ Below w.heap.size w w' := by
  have HZ : Hid _ := hz
  clear hz
  have hne : ∀ w, Nonempty (Ext w) := ext_some
  go_enter Tryd.func4, Tryd.ntmps4
  by_cases h50 : 50 < os.length
  · have h50' : (50 : Int) < (os.length : Int) := by omega
    go_wp2_with (go_at_call 9; refine (shown_any _ E).mono ?_; rintro e w2 ⟨rfl, hb2⟩)
    go_ret
    exact ⟨rfl, hb2⟩
  · have h50' : ¬ (50 : Int) < (os.length : Int) := by omega
    go_wp2_with (go_at_call 9; refine (shown_any _ E).mono ?_; rintro e w2 ⟨rfl, hb2⟩)
    go_loopw [4] (fun i wr => ∃ k : Nat, (k = 0 ∨ k < os.length) ∧ i = .int .i64 k ∧ Below w.heap.size w wr) (fun i _ => os.length - (intOf i).toNat)
    case atStart => exact ⟨0, .inl rfl, rfl, hb2⟩
    case round =>
      obtain ⟨k, hk, rfl, hbr⟩ := hrel
      by_cases hlt : k + 1 < os.length
      · obtain ⟨b1, o1, e1, u1, u2, f1, f2, hU1, hU2⟩ := (out_at (ho.keep hbr)).2 k (by omega)
        obtain ⟨b2, o2, rfl, x1, x2, g1, g2, hX1, hX2⟩ := (out_at (ho.keep hbr)).2 (k + 1) hlt
        simp only [Option.some.injEq, Addr.mk.injEq, and_true] at e1
        obtain ⟨rfl, rfl⟩ := e1
        have hzx := (HZ.out _ (List.getElem_mem (show k < os.length by omega))).osz
        generalize os[k] = x at hU1 hU2 hzx
        generalize os[k + 1] = y at hX1 hX2
        have hU : OutV wr u1 u2 x := ⟨hU1, hU2⟩
        have hX : OutV wr x1 x2 y := ⟨hX1, hX2⟩
        obtain ⟨pu, cu, rfl⟩ := hU1.len
        obtain ⟨pv, cv, rfl⟩ := hU2.len
        obtain ⟨px, cx, rfl⟩ := hX1.len
        obtain ⟨py, cy, rfl⟩ := hX2.len
        have z1 := cell_lt f1
        have hlt' : (k : Int) + 1 < (os.length : Int) := by omega
        have hlt0 : (k : Int) < (os.length : Int) := by omega
        have HC := fun q : Ext wr => Compare_any _ _ _ _ x y q.wd (hU.keep q.ok) (hX.keep q.ok) hzx
        have HD := fun q : Ext wr => refCompare_any _ _ _ _ x y q.wd (hU.keep q.ok) (hX.keep q.ok) hzx
        obtain ⟨r, hr⟩ : ∃ r, cmpO x y = r := ⟨_, rfl⟩
        rw [hr] at HC HD
        have HC : Hid _ := HC
        have HD : Hid _ := HD
        clear hr
        go_wp2
        refine wp_region_ext (by kernel_rfl) (by kernel_rfl) ?_
        repeat (go_big_quiet_step (first
          | (go_at_call 18; exact calls_ext (HC.out _))
          | (go_at_call 19; exact calls_ext (HD.out _))))
        refine wpQuiet_nil ?_
        rintro _ ⟨rr, rfl⟩
        go_wp2
        go_roundw
        case rel => exact ⟨k + 1, .inr (by omega), by go_num, Below.thru hbr rr.ok (Nat.le_refl _)⟩
        case measure => simp [intOf]; omega
      · have hlt' : ¬ (k : Int) + 1 < (os.length : Int) := by omega
        have hsz := HZ.out
        have hl : (setO [] os).length ≤ 50 := by have := set_len (l := os) (acc := []); simp at this; omega
        have hzs : ∀ o ∈ setO [] os, Osz o := fun o h => (HZ.out o (by simpa using set_mem.1 h)).osz
        have C1 := Set_any q d os wr (ho.keep hbr) HZ.out (by omega)
        have C2 := fun (w' : World) (h : Below wr.heap.size wr w') => refSet_any q d os w' ((ho.keep hbr).keep h) (fun o h => (HZ.out o h).osz) (by omega)
        generalize setO [] os = ss at *
        have HZS : Hid _ := hzs
        have C2 : Hid _ := C2
        clear hzs hsz
        go_wp2_with (first
          | (go_at_call 21; refine C1.mono ?_; rintro e w3 ⟨v3, rfl, s3, hb3⟩; obtain ⟨p3, c3, rfl⟩ := s3.len; have C3 := C2.out w3 hb3)
          | (go_at_call 22; refine C3.mono ?_; rintro e w4 ⟨v4, rfl, s4, hb4⟩; obtain ⟨p4, c4, rfl⟩ := s4.len; have C4 := Same_any p3 p4 c3 c4 ss w4 (s3.any.keep hb4) s4 HZS.out (by omega))
          | (go_at_call 20; refine C4.mono ?_; rintro e w5 ⟨rfl, hb5⟩))
        go_ret
        exact ⟨rfl, Below.thru (Below.thru (Below.thru hbr hb3 (Nat.le_refl _)) hb4 (Nat.le_refl _)) hb5 (Nat.le_refl _)⟩
end Go.Proofs.YtdealgleehbhlaaDoor
