/- Contracts of the document's answers: Same, where two lists are the same; Subset, where one has all of the other. -/
import Derived.Test.YtdealgleehbhlaaDoorCondRefCmp
import Derived.Test.YtdealgleehbhlaaDoorCondClone
namespace Go.Proofs.YtdealgleehbhlaaDoor
open Go.RowKit
attribute [local go_sem] Ext.cell Ext.frozen

set_option maxHeartbeats 1000000 in
theorem Same_any (p q : Option Addr) (c d : Nat) (l : List Out) (w : World) (h1 : Sl OutE w (.slice p l.length c) l) (h2 : Sl OutE w (.slice q l.length d) l) (hz : ∀ o ∈ l, Osz o) (hn : l.length ≤ 1000000) :
    Calls Tryd.prog 20 #[.slice p l.length c, .slice q l.length d] w fun e w' => e = .returned (.bool true) ∧ Below w.heap.size w w' := by
  have HZ : Hid _ := hz
  clear hz
  have hne : ∀ w, Nonempty (Ext w) := ext_some
  go_enter Tryd.func20, Tryd.ntmps20
  go_wp2
  go_loopw [5] (fun i wr => ∃ k : Nat, k ≤ l.length ∧ i = .int .i64 k ∧ Below w.heap.size w wr) (fun i _ => l.length - (intOf i).toNat)
  case atStart => exact ⟨0, Nat.zero_le _, rfl, Below.refl _ _⟩
  case round =>
    obtain ⟨k, hk, rfl, hbr⟩ := hrel
    by_cases hlt : k < l.length
    · obtain ⟨b1, o1, rfl, u1, u2, f1, f2, hU1, hU2⟩ := (out_at (h1.keep hbr)).2 k hlt
      obtain ⟨b2, o2, rfl, x1, x2, g1, g2, hX1, hX2⟩ := (out_at (h2.keep hbr)).2 k hlt
      have hzx := HZ.out _ (List.getElem_mem hlt)
      generalize l[k] = x at hU1 hU2 hX1 hX2 hzx
      have hU : OutV wr u1 u2 x := ⟨hU1, hU2⟩
      have hX : OutV wr x1 x2 x := ⟨hX1, hX2⟩
      obtain ⟨pu, cu, rfl⟩ := hU1.len
      obtain ⟨pv, cv, rfl⟩ := hU2.len
      obtain ⟨px, cx, rfl⟩ := hX1.len
      obtain ⟨py, cy, rfl⟩ := hX2.len
      have z1 := cell_lt f1
      have z2 := cell_lt g1
      have hlt' : (k : Int) < (l.length : Int) := by omega
      have HC := fun q : Ext wr => refCompare_any _ _ _ _ x x q.wd (hU.keep q.ok) (hX.keep q.ok) hzx
      rw [cmpO_self] at HC
      have HC : Hid _ := HC
      go_wp2
      refine wp_region_ext (by kernel_rfl) (by kernel_rfl) ?_
      repeat (go_big_quiet_step ((go_at_call 19; exact calls_ext (HC.out _))))
      refine wpQuiet_nil ?_
      rintro _ ⟨rr, rfl⟩
      go_wp2
      go_roundw
      case rel => exact ⟨k + 1, by omega, by go_num, Below.thru hbr rr.ok (Nat.le_refl _)⟩
      case measure => simp [intOf]; omega
    · go_wp2
      go_ret
      exact ⟨rfl, hbr⟩

theorem mem_step {x : Out} {l r : List Out} {y : Out} {k : Nat} (h : l.drop k = y :: r) (hm : x ∈ l.drop k) (hc : cmpO x y ≠ 0) : x ∈ r := by
  rw [h] at hm
  rcases List.mem_cons.1 hm with rfl | hm
  · exact absurd (cmpO_self _) hc
  · exact hm

set_option maxHeartbeats 1000000 in
theorem Subset_any (p q : Option Addr) (c d : Nat) (l m : List Out) (w : World) (h1 : Sl OutE w (.slice p l.length c) l) (h2 : Sl OutE w (.slice q m.length d) m) (hz : ∀ o ∈ l, Osz o) (hn : l.length ≤ 1000000) (hm : m.length ≤ 1000000) (hsub : ∀ x ∈ l, x ∈ m) :
    Calls Tryd.prog 23 #[.slice p l.length c, .slice q m.length d] w fun e w' => e = .returned (.bool true) ∧ Below w.heap.size w w' := by
  have HZ : Hid _ := hz
  have HS : Hid _ := hsub
  clear hz hsub
  have hne : ∀ w, Nonempty (Ext w) := ext_some
  go_enter Tryd.func23, Tryd.ntmps23
  go_wp2
  go_loopw [5] (fun i wr => ∃ k : Nat, k ≤ l.length ∧ i = .int .i64 k ∧ Below w.heap.size w wr) (fun i _ => l.length - (intOf i).toNat)
  case atStart => exact ⟨0, Nat.zero_le _, rfl, Below.refl _ _⟩
  case round =>
    obtain ⟨k, hk, rfl, hbr⟩ := hrel
    by_cases hlt : k < l.length
    · have hzx := HZ.out _ (List.getElem_mem hlt)
      have HX : Hid (l[k] ∈ m) := HS.out _ (List.getElem_mem hlt)
      have hlt' : (k : Int) < (l.length : Int) := by omega
      obtain ⟨w1, rfl⟩ : ∃ x : World, x = wr := ⟨_, rfl⟩
      go_wp2
      go_loopw [6, 7] (fun s i wr => ∃ (j : Nat) (t : Bool), j ≤ m.length ∧ i = .int .i64 j ∧ s = .bool t ∧ (t = false → l[k] ∈ m.drop j) ∧ Below w1.heap.size w1 wr) (fun _ i _ => m.length - (intOf i).toNat)
      case atStart => exact ⟨0, false, Nat.zero_le _, rfl, rfl, fun _ => HX.out, Below.refl _ _⟩
      case round =>
        obtain ⟨j, t, hj, rfl, rfl, hF, hb2⟩ := hrel
        have HF : Hid _ := hF
        clear hF
        have hbw : Below w.heap.size w wr := Below.thru hbr hb2 (Nat.le_refl _)
        by_cases hjl : j < m.length
        · have hjl' : (j : Int) < (m.length : Int) := by omega
          cases t
          · obtain ⟨b1, o1, rfl, u1, u2, f1, f2, hU1, hU2⟩ := (out_at (h1.keep hbw)).2 k hlt
            obtain ⟨b2, o2, rfl, x1, x2, g1, g2, hX1, hX2⟩ := (out_at (h2.keep hbw)).2 j hjl
            generalize l[k] = x at hU1 hU2 hzx HF
            generalize hy : m[j] = y at hX1 hX2
            have HY : Hid (m.drop j = y :: m.drop (j + 1)) := by rw [← hy]; exact drop_at hjl
            clear hy HX
            have hU : OutV wr u1 u2 x := ⟨hU1, hU2⟩
            have hX : OutV wr x1 x2 y := ⟨hX1, hX2⟩
            obtain ⟨pu, cu, rfl⟩ := hU1.len
            obtain ⟨pv, cv, rfl⟩ := hU2.len
            obtain ⟨px, cx, rfl⟩ := hX1.len
            obtain ⟨py, cy, rfl⟩ := hX2.len
            have z1 := cell_lt f1
            have z2 := cell_lt g1
            have HC := fun q : Ext wr => refCompare_any _ _ _ _ x y q.wd (hU.keep q.ok) (hX.keep q.ok) hzx
            obtain ⟨r, hr⟩ : ∃ r, cmpO x y = r := ⟨_, rfl⟩
            rw [hr] at HC
            have HC : Hid _ := HC
            have HR : Hid (decide (r = 0) = false → x ∈ m.drop (j + 1)) := fun h => mem_step HY.out (HF.out rfl) (by rw [hr]; simpa using h)
            clear hr
            cases hr0 : decide (r = 0)
            all_goals
              have hr' : (r == 0) = _ := hr0
              rw [hr0] at HR
              clear hr0
              go_wp2
              refine wp_region_ext (by kernel_rfl) (by kernel_rfl) ?_
              repeat (go_big_quiet_step ((go_at_call 19; exact calls_ext (HC.out _))))
              refine wpQuiet_nil ?_
              rintro _ ⟨rr, rfl⟩
              go_wp2
              go_roundw
              case rel => exact ⟨j + 1, _, by omega, by go_num, rfl, (fun h => by first | cases h; exact HR.out trivial | cases h), Below.thru hb2 rr.ok (Nat.le_refl _)⟩
              case measure => simp [intOf]; omega
          · go_wp2
            go_roundw
            case rel => exact ⟨k + 1, by omega, by go_num, hbw⟩
            case measure => simp [intOf]; omega
        · have ht : t = true := by
            cases t
            · have := HF.out rfl
              rw [List.drop_of_length_le (by omega)] at this
              cases this
            · rfl
          subst ht
          go_wp2
          go_roundw
          case rel => exact ⟨k + 1, by omega, by go_num, hbw⟩
          case measure => simp [intOf]; omega
    · go_wp2
      go_ret
      exact ⟨rfl, hbr⟩
end Go.Proofs.YtdealgleehbhlaaDoor
