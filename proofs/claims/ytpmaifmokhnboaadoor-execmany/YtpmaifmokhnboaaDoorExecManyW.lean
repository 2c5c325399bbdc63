/- ExecMany, walked: it answers true. -/
import Derived.Test.YtpmaifmokhnboaaDoorExecE
import Derived.Test.YtpmaifmokhnboaaDoorValsFacts
import Derived.Test.YtpmaifmokhnboaaDoorTestP
namespace Go.Proofs.YtpmaifmokhnboaaDoor
open Go.RowKit
attribute [local go_sem] Ext.cell Ext.frozen

set_option maxRecDepth 20000 in
set_option maxHeartbeats 16000000 in
theorem ExecMany_true (pi pt : Option Addr) (ci ct : Nat) (xs : List Int) (ts : List (List Ins)) (w : World) (T : FEnv w) (hi : Sl IntE w (.slice pi xs.length ci) xs) (ht : Sl ThrE w (.slice pt ts.length ct) ts) (hz : ∀ x ∈ xs, InZ x) :
    Calls Tryd.prog 4 #[.agg #[.slice pi xs.length ci, .slice pt ts.length ct]] w fun e w' => e = .returned (.bool true) ∧ Below w.heap.size w w' := by
  have hb1 := below_new w (.cells #[.slice pi xs.length ci, .slice pt ts.length ct] 25)
  have k1 : Blk (w.alloc (.cells #[.slice pi xs.length ci, .slice pt ts.length ct] 25)) w.heap.size #[.slice pi xs.length ci, .slice pt ts.length ct] 25 := Blk.new
  have hF := fun W (hB : Below w.heap.size w W) => Few_any pi pt ci ct xs ts W (ht.keep hB)
  have HF : Hid _ := hF
  clear hF
  have hne : ∀ w, Nonempty (Ext w) := ext_some
  have F1 := trivial
  cases hfew : fewB xs ts
  · have HW : Hid _ := hfew
    clear hfew
    go_enter Tryd.func4, Tryd.ntmps4
    go_wp2_with (first
      | (go_at_call 5; clear F1; refine (shown10_any _ (T.below hb1)).mono ?_; rintro e w1 ⟨rfl, hb2⟩; have B1 := Below.thru hb1 hb2 (Nat.le_refl _); have kk := k1.keep hb2; have x0 : w1.cell? ⟨w.heap.size, 0, none⟩ = some (.slice pi xs.length ci) := kk.cell 0; have x1 : w1.cell? ⟨w.heap.size, 1, none⟩ = some (.slice pt ts.length ct) := kk.cell 1; have lx := cell_lt x0; have F2 := trivial)
      | (go_at_call 6; clear F2; refine (HF.out _ B1).mono ?_; rintro e w2 ⟨rfl, hb3⟩; rw [HW.out]; have B2 := Below.thru B1 hb3 (Nat.le_refl _)))
    go_ret
    exact ⟨rfl, B2⟩
  · obtain ⟨hS, hfl, -, -⟩ := few_size hfew
    have HW : Hid _ := hfew
    clear hfew
    have hA := fun W (hB : Below w.heap.size w W) => All_any pi pt ci ct xs ts W (T.below hB) (hi.keep hB) (ht.keep hB) (by omega) hz
    have hO := fun W (hB : Below w.heap.size w W) => Of_any pi pt ci ct xs ts W (T.below hB) (hi.keep hB) (ht.keep hB) (by omega) hz
    by_cases h0 : (ofZ xs ts).2 = 0
    · obtain ⟨f1, f2, f3, f4, f5, f6, f7, f8⟩ := check_facts (of_check h0).1
      have hv8 : (ofZ xs ts).1.length ≤ 8 := ofZ_len
      have hlen := allZ_len h0
      rw [← prod_many] at hlen
      have h6 := fun k => prod_take (locs := xs.length) hv8 f5 k
      have hlt8 : ∀ th ∈ ts, (tracesT th xs.length (ofZ xs ts).1).length ≤ 65536 := fun th _ => tracesT_len4 hv8
      generalize allZ xs ts = z at *
      rw [show ofZ xs ts = ((ofZ xs ts).1, 0) by rw [← h0]] at hO
      generalize (ofZ xs ts).1 = v at *
      have HO : Hid _ := hO
      have HA : Hid _ := hA
      have H6 : Hid _ := h6
      have H7 : Hid _ := f7
      have HL8 : Hid _ := hlt8
      have HLEN : Hid _ := hlen
      clear hO hA h6 f7 hlt8 hlen h0 f1 f2 f3 f5 f6 f8
      obtain ⟨zl, ze⟩ := z
      go_enter Tryd.func4, Tryd.ntmps4
      go_wp2_with (first
        | (go_at_call 5; clear F1; refine (shown10_any _ (T.below hb1)).mono ?_; rintro e w1 ⟨rfl, hb2⟩; have B1 := Below.thru hb1 hb2 (Nat.le_refl _); have kk := k1.keep hb2; have x0 : w1.cell? ⟨w.heap.size, 0, none⟩ = some (.slice pi xs.length ci) := kk.cell 0; have x1 : w1.cell? ⟨w.heap.size, 1, none⟩ = some (.slice pt ts.length ct) := kk.cell 1; have lx := cell_lt x0; have F2 := trivial)
        | (go_at_call 6; clear F2; refine (HF.out _ B1).mono ?_; rintro e w2 ⟨rfl, hb3⟩; rw [HW.out]; have B2 := Below.thru B1 hb3 (Nat.le_refl _); replace x0 := cell_keep x0 hb3; replace x1 := cell_keep x1 hb3; replace lx := cell_lt x0; have k2 := kk.keep hb3; have F3 := trivial)
        | (go_at_call 8; clear F3; refine (HO.out _ B2).mono ?_; rintro e w3 ⟨u3, rfl, hU3, hb4⟩; obtain ⟨p3, c3, rfl⟩ := hU3.len; have B3 := Below.thru B2 hb4 (Nat.le_refl _); replace x0 := cell_keep x0 hb4; replace x1 := cell_keep x1 hb4; replace lx := cell_lt x0; have k3 := k2.keep hb4; have F4 := trivial)
        | (go_at_call 7; clear F4; refine (HA.out _ B3).mono ?_; rintro e w4 ⟨u4, rfl, hU4, hb5⟩; obtain ⟨p4, c4, rfl⟩ := hU4.len; have B4 := Below.thru B3 hb5 (Nat.le_refl _); replace x0 := cell_keep x0 hb5; replace x1 := cell_keep x1 hb5; replace lx := cell_lt x0; have k4 := k3.keep hb5; have hU5 := hU3.keep hb5; have F5 := trivial))
      clear x0 x1 lx
      go_loopw [8, 9] (fun m i wr => ∃ k : Nat, k ≤ ts.length ∧ i = .int .i64 k ∧ m = .int .i64 (prodL ((ts.map fun th => tracesT th xs.length v).take k) : Nat) ∧ Below w4.heap.size w4 wr) (fun _ i _ => ts.length - (Go.RowKit.intOf i).toNat)
      case atStart => exact ⟨0, Nat.zero_le _, rfl, rfl, Below.refl _ _⟩
      case round =>
        obtain ⟨k, hk, rfl, rfl, hbr⟩ := hrel
        have Br := Below.thru B4 hbr (Nat.le_refl _)
        have x0 := (k4.keep hbr).cell 0
        have x1 := (k4.keep hbr).cell 1
        have lx := (k4.keep hbr).lt
        simp only [List.getElem?_toArray, List.getElem?_cons_zero, List.getElem?_cons_succ] at x0 x1
        by_cases hlt : k < ts.length
        · have hlt' : (k : Int) < (ts.length : Int) := by omega
          obtain ⟨tb, to, rfl, t0, ht0, hT0⟩ := (thr_at (ht.keep Br)).2 k hlt
          have h8t := H7.out _ (List.getElem_mem hlt)
          have hl8 := HL8.out _ (List.getElem_mem hlt)
          have hnx : prodL ((ts.map fun th => tracesT th xs.length v).take (k + 1)) = prodL ((ts.map fun th => tracesT th xs.length v).take k) * (tracesT ts[k] xs.length v).length := prodL_next (by rw [List.getElem?_map, List.getElem?_eq_getElem hlt]; rfl)
          have h6n := H6.out (k + 1)
          have h6k := H6.out k
          generalize ts[k] = th at ht0 hT0 h8t hnx hl8
          obtain ⟨pth, cth, rfl⟩ := hT0.len
          have lt0 := cell_lt ht0
          have hTr := fun Z (hB : Below wr.heap.size wr Z) => Traces_any pth p3 cth c3 th xs.length v Z ((T.below Br).below hB) hv8 (by omega) (hT0.any.keep hB) ((hU5.keep hbr).keep hB)
          generalize tracesT th xs.length v = L at *
          generalize prodL ((ts.map fun th => tracesT th xs.length v).take k) = M at *
          obtain ⟨M2, hM2⟩ : ∃ M2, M * L.length = M2 := ⟨_, rfl⟩
          have hMI : (M : Int) * (L.length : Int) = (M2 : Int) := by rw [← hM2]; simp
          have hMb : M2 ≤ 65536 := by rw [← hM2, ← hnx]; exact h6n
          have HNX : Hid _ := hnx.trans hM2
          have HTR : Hid _ := hTr
          clear hnx hM2 h6n hTr
          go_wp2
          refine wp_region_mix [([0, 1, 2, 3, 4, 5, 6, 7, 8, 9], 10)] [11, 12, 13] (by kernel_rfl) (by kernel_rfl) (fun _ _ d _ _ h => by cases d <;> exact h) ?_
          dsimp only [List.map, opAt]
          have C1 : Below wr.heap.size wr wr.drew := Below.drew (Below.refl _ _)
          refine wpMix_stage ?_
          repeat (go_big_quiet_step (fail))
          refine wpQuiet_nil ?_
          go_wp2_with (go_at_call 9; refine (HTR.out _ C1).mono ?_; rintro e w6 ⟨v6, rfl, hV6, hb6⟩)
          have C2 : Below wr.heap.size wr w6 := Below.thru C1 hb6 (Nat.le_refl _)
          obtain ⟨p6, c6, rfl⟩ := hV6.len
          refine ⟨C2, ?_⟩
          refine wpMix_last ?_
          repeat (go_big_quiet_step (fail))
          refine wpQuiet_nil ?_
          go_wp2
          go_roundw
          case rel => exact ⟨k + 1, by omega, by go_num, by rw [HNX.out], Below.thru hbr C2 (Nat.le_refl _)⟩
          case measure => simp [Go.RowKit.intOf]; omega
        · have hlt' : ¬ (k : Int) < (ts.length : Int) := by omega
          have e : (ts.map fun th => tracesT th xs.length v).take k = ts.map fun th => tracesT th xs.length v := List.take_of_length_le (by rw [List.length_map]; omega)
          have hlen := HLEN.out
          rw [e]
          generalize prodL (ts.map fun th => tracesT th xs.length v) = M at *
          clear e HLEN
          rcases hlen with ⟨h1, h2, h3⟩ | ⟨h1, h2⟩
          · have h2' : ze = 0 := h2
            replace h3 : zl.length = M := h3
            clear h2
            subst h2'
            have h1' : ¬ (20000 : Int) < (M : Int) := by omega
            have h1'' : (M : Int) ≤ 20000 := by omega
            have h3' : (zl.length : Int) = (M : Int) := by omega
            go_wp2
            go_ret
            exact ⟨rfl, Br⟩
          · simp only [Prod.mk.injEq] at h2
            obtain ⟨rfl, rfl⟩ := h2
            have h1' : (20000 : Int) < (M : Int) := by omega
            go_wp2
            go_ret
            exact ⟨rfl, Br⟩
    · have hz0 := allZ_bad h0
      have hzb : ((ofZ xs ts).2 != 0) = true := by simp [h0]
      rw [hz0] at hA
      generalize ofZ xs ts = z at *
      have HO : Hid _ := hO
      have HA : Hid _ := hA
      have hee : (z.2 == z.2) = true := by simp
      clear hO hA hz0 h0
      go_enter Tryd.func4, Tryd.ntmps4
      go_wp2_with (first
        | (go_at_call 5; clear F1; refine (shown10_any _ (T.below hb1)).mono ?_; rintro e w1 ⟨rfl, hb2⟩; have B1 := Below.thru hb1 hb2 (Nat.le_refl _); have kk := k1.keep hb2; have x0 : w1.cell? ⟨w.heap.size, 0, none⟩ = some (.slice pi xs.length ci) := kk.cell 0; have x1 : w1.cell? ⟨w.heap.size, 1, none⟩ = some (.slice pt ts.length ct) := kk.cell 1; have lx := cell_lt x0; have F2 := trivial)
        | (go_at_call 6; clear F2; refine (HF.out _ B1).mono ?_; rintro e w2 ⟨rfl, hb3⟩; rw [HW.out]; have B2 := Below.thru B1 hb3 (Nat.le_refl _); replace x0 := cell_keep x0 hb3; replace x1 := cell_keep x1 hb3; replace lx := cell_lt x0; have k2 := kk.keep hb3; have F3 := trivial)
        | (go_at_call 8; clear F3; refine (HO.out _ B2).mono ?_; rintro e w3 ⟨u3, rfl, hU3, hb4⟩; obtain ⟨p3, c3, rfl⟩ := hU3.len; have B3 := Below.thru B2 hb4 (Nat.le_refl _); replace x0 := cell_keep x0 hb4; replace x1 := cell_keep x1 hb4; replace lx := cell_lt x0; have k3 := k2.keep hb4; have F4 := trivial)
        | (go_at_call 7; clear F4; refine (HA.out _ B3).mono ?_; rintro e w4 ⟨u4, rfl, hU4, hb5⟩; obtain ⟨p4, c4, rfl⟩ := hU4.len; have B4 := Below.thru B3 hb5 (Nat.le_refl _); replace x0 := cell_keep x0 hb5; replace x1 := cell_keep x1 hb5; replace lx := cell_lt x0; have k4 := k3.keep hb5; have hU5 := hU3.keep hb5; have F5 := trivial))
      go_ret
      exact ⟨rfl, B4⟩
end Go.Proofs.YtpmaifmokhnboaaDoor
