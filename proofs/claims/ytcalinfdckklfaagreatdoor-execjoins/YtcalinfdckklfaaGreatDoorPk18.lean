/- Contract of exec.Join: what traces do together. -/
import Derived.Test.YtcalinfdckklfaaGreatDoorPk17
import Derived.Test.YtcalinfdckklfaaGreatDoorPk15
namespace Go.Proofs.YtcalinfdckklfaaGreatDoor
open Go.RowKit
attribute [local go_sem] Ext.cell Ext.frozen

theorem tot_in : ∀ {l : List Tr} {t : Tr}, t ∈ l → t.evs.length ≤ totN l
  | x :: l, t, h => by
    rw [totN]
    rcases List.mem_cons.1 h with rfl | h
    · omega
    · have := tot_in h; omega
theorem ex_zero {A : Nat → Prop} {w : World} : ExZ A w (fun _ => .slice none 0 0) Ex.zero := ⟨SlA.nil, SlA.nil, SlA.nil, SlA.nil, SlA.nil, SlA.nil, SlA.nil⟩

set_option maxRecDepth 20000 in
set_option maxHeartbeats 32000000 in
theorem Join_any (p : Option Addr) (c : Nat) (l : List Tr) (w : World) (hl : Sl TgE w (.slice p l.length c) l) (hr : ∀ t ∈ l, Rng t) (hev : ∀ t ∈ l, t.evs.length ≤ 1000000) (hnl : l.length ≤ 1000000) :
    Calls Tryz.prog 7 #[.slice p l.length c] w fun e w' => ∃ r, e = .returned (.tuple #[.agg (exC r), .int .i64 (joinZ l).2]) ∧ ExZ (fun k => w.heap.size ≤ k) w' r (joinZ l).1 ∧ Below w.heap.size w w' := by
  have HR : Hid _ := hr
  have HEVN : Hid _ := hev
  clear hr hev
  have k1 : Blk (w.alloc (.cells #[.slice none 0 0, .slice none 0 0, .slice none 0 0, .slice none 0 0, .slice none 0 0, .slice none 0 0, .slice none 0 0] 42)) w.heap.size #[.slice none 0 0, .slice none 0 0, .slice none 0 0, .slice none 0 0, .slice none 0 0, .slice none 0 0, .slice none 0 0] 42 := Blk.new
  have b1 := below_new w (.cells #[.slice none 0 0, .slice none 0 0, .slice none 0 0, .slice none 0 0, .slice none 0 0, .slice none 0 0, .slice none 0 0] 42)
  go_enter Tryz.func7, Tryz.ntmps7
  go_wp2
  generalize w.alloc (.cells #[.slice none 0 0, .slice none 0 0, .slice none 0 0, .slice none 0 0, .slice none 0 0, .slice none 0 0, .slice none 0 0] 42) = w1 at *
  go_loopw [4, 11] (fun n i wr => ∃ k : Nat, k ≤ l.length ∧ i = .int .i64 k ∧ n = .int .i64 (totN (l.take k) : Nat) ∧ totN (l.take k) ≤ 24 ∧ Blk wr w.heap.size #[.slice none 0 0, .slice none 0 0, .slice none 0 0, .slice none 0 0, .slice none 0 0, .slice none 0 0, .slice none 0 0] 42 ∧ Below w.heap.size w wr) (fun _ i _ => l.length - (Go.RowKit.intOf i).toNat)
  case atStart => exact ⟨0, Nat.zero_le _, rfl, rfl, by simp [totN], k1, b1⟩
  case round =>
    clear k1 b1
    obtain ⟨k, hk, rfl, rfl, h24, kR, hbr⟩ := hrel
    by_cases hlt : k < l.length
    · obtain ⟨xb, oo, r, rfl, -, hZ0, hA0⟩ := (tg_at hl).2 k hlt
      have htx := totN_nxt hlt
      have htk := totN_take l (k + 1)
      have hEVk := HEVN.out _ (List.getElem_mem hlt)
      generalize l[k] = t at hZ0 hA0 htx hEVk
      generalize hFF : totN (l.take k) = F at *
      have HFF : Hid _ := hFF
      have HTX : Hid _ := htx
      clear hFF htx
      have hZ := hZ0.keep hbr
      have a0 := cell_keep hA0.c0 hbr
      have a1 := cell_keep hA0.c1 hbr
      have a2 := cell_keep hA0.c2 hbr
      have a3 := cell_keep hA0.c3 hbr
      have a4 := cell_keep hA0.c4 hbr
      have a5 := cell_keep hA0.v0 hbr
      have a6 := cell_keep hA0.v1 hbr
      have a7 := cell_keep hA0.v2 hbr
      have a8 := cell_keep hA0.v3 hbr
      have a9 := cell_keep hA0.d0 hbr
      have aa := cell_keep hA0.d1 hbr
      have ab := cell_keep hA0.d2 hbr
      have ac := cell_keep hA0.d3 hbr
      have ad := cell_keep hA0.vs hbr
      have ae := cell_keep hA0.ls hbr
      have af := cell_keep hA0.mo hbr
      have la := cell_lt a0
      obtain ⟨pe, ce, he⟩ := hZ.e0.len
      have HE : Hid _ := he
      clear he hA0
      have hlt' : (k : Int) < (l.length : Int) := by omega
      have hk6 : k ≤ 1000000 := by omega
      have hkR := kR
      have F1 := trivial
      by_cases hbig : 24 < F + t.evs.length
      · have hbig' : (24 : Int) < (F : Int) + (t.evs.length : Int) := by omega
        have HZ : joinZ l = (Ex.zero, 3) := by unfold joinZ; rw [if_pos (by rw [HTX.out] at htk; omega)]
        go_wp2_with (first
          | (clear F1; refine wpList_toldT (w := wr) (by kernel_rfl) (by rfl) (.tmp 6) (.tmp 14) (by rfl) hZ (by rfl) (by rfl) ?_; intro w4 kL B24; simp only [Act.put]; have x0 : w4.cell? ⟨wr.heap.size, 0, none⟩ = some (r 0) := kL.cell 0; rw [HE.out] at x0; have lL := kL.lt; have B4 := Below.thru hbr B24 (Nat.le_refl _); have kR4 := kR.keep B24; have F2 := trivial)
          | (clear F2; refine wpList_storeB (by rfl) 42 (.tmp 2) (.tmp 22) (by rfl) w.heap.size #[.slice none 0 0, .slice none 0 0, .slice none 0 0, .slice none 0 0, .slice none 0 0, .slice none 0 0, .slice none 0 0] _ 42 (by rfl) (by rfl) kR4 (by kernel_rfl) (by rfl) (by simp [Value.oneCell']) ?_; intro wL kM oL zL; simp only [Act.put]; have z0 : wL.cell? ⟨w.heap.size, 0, none⟩ = some (.slice none 0 0) := kM.cell 0; have z1 : wL.cell? ⟨w.heap.size, 1, none⟩ = some (.slice none 0 0) := kM.cell 1; have z2 : wL.cell? ⟨w.heap.size, 2, none⟩ = some (.slice none 0 0) := kM.cell 2; have z3 : wL.cell? ⟨w.heap.size, 3, none⟩ = some (.slice none 0 0) := kM.cell 3; have z4 : wL.cell? ⟨w.heap.size, 4, none⟩ = some (.slice none 0 0) := kM.cell 4; have z5 : wL.cell? ⟨w.heap.size, 5, none⟩ = some (.slice none 0 0) := kM.cell 5; have z6 : wL.cell? ⟨w.heap.size, 6, none⟩ = some (.slice none 0 0) := kM.cell 6; have lM := kM.lt; have BL := B4.trans (oL.below B4.size (fun k hk => by omega))))
        refine bodyPost_ret (v := .tuple #[.agg #[.slice none 0 0, .slice none 0 0, .slice none 0 0, .slice none 0 0, .slice none 0 0, .slice none 0 0, .slice none 0 0], .int .i64 3]) (by simp [results, Tryz.results7, go_sem, z0, z1, z2, z3, z4, z5, z6]) rfl ?_
        rw [HZ]
        exact ⟨fun _ => .slice none 0 0, rfl, ex_zero, BL⟩
      · have hbig' : ¬ (24 : Int) < (F : Int) + (t.evs.length : Int) := by omega
        go_wp2_with (clear F1; refine wpList_toldT (w := wr) (by kernel_rfl) (by rfl) (.tmp 6) (.tmp 14) (by rfl) hZ (by rfl) (by rfl) ?_; intro w4 kL B24; simp only [Act.put]; have x0 : w4.cell? ⟨wr.heap.size, 0, none⟩ = some (r 0) := kL.cell 0; rw [HE.out] at x0; have lL := kL.lt; have B4 := Below.thru hbr B24 (Nat.le_refl _); have kR4 := kR.keep B24)
        go_roundw
        case rel => exact ⟨k + 1, by omega, by go_num, by rw [HTX.out]; go_num, by rw [HTX.out]; omega, kR4, B4⟩
        case measure => simp [Go.RowKit.intOf]; omega
    · have hlt' : ¬ (k : Int) < (l.length : Int) := by omega
      have e : l.take k = l := List.take_of_length_le (by omega)
      rw [e] at h24 ⊢
      clear e
      go_wp2
      obtain ⟨w2, hww⟩ : ∃ x : World, x = wr := ⟨_, rfl⟩
      subst hww
      go_loopw [26] (fun i wr => ∃ j : Nat, j ≤ l.length ∧ i = .int .i64 j ∧ (∀ x ∈ l.take j, fineT x = true) ∧ Blk wr w.heap.size #[.slice none 0 0, .slice none 0 0, .slice none 0 0, .slice none 0 0, .slice none 0 0, .slice none 0 0, .slice none 0 0] 42 ∧ Below w.heap.size w wr) (fun i _ => l.length - (Go.RowKit.intOf i).toNat)
      case atStart => exact ⟨0, Nat.zero_le _, rfl, fun _ h => by simp at h, kR, hbr⟩
      case round =>
        clear kR hbr hlt hlt' hk
        obtain ⟨j, hj, rfl, hfine, kR, hbr⟩ := hrel
        have HFN : Hid _ := hfine
        clear hfine
        by_cases hjl : j < l.length
        · have hjl' : (j : Int) < (l.length : Int) := by omega
          obtain ⟨xb, oo, r, rfl, -, hZ0, hA0⟩ := (tg_at hl).2 j hjl
          have hr0 := HR.out _ (List.getElem_mem hjl)
          have htk : l.take (j + 1) = l.take j ++ [l[j]] := by rw [List.take_add_one, List.getElem?_eq_getElem hjl]; rfl
          have hmem : l[j] ∈ l := List.getElem_mem hjl
          have hte := tot_in hmem
          generalize l[j] = t at hZ0 hA0 hr0 htk hmem hte
          have HTK : Hid _ := htk
          have HMEM : Hid _ := hmem
          clear htk hmem
          have hZ := hZ0.keep hbr
          have a0 := cell_keep hA0.c0 hbr
          have a1 := cell_keep hA0.c1 hbr
          have a2 := cell_keep hA0.c2 hbr
          have a3 := cell_keep hA0.c3 hbr
          have a4 := cell_keep hA0.c4 hbr
          have a5 := cell_keep hA0.v0 hbr
          have a6 := cell_keep hA0.v1 hbr
          have a7 := cell_keep hA0.v2 hbr
          have a8 := cell_keep hA0.v3 hbr
          have a9 := cell_keep hA0.d0 hbr
          have aa := cell_keep hA0.d1 hbr
          have ab := cell_keep hA0.d2 hbr
          have ac := cell_keep hA0.d3 hbr
          have ad := cell_keep hA0.vs hbr
          have ae := cell_keep hA0.ls hbr
          have af := cell_keep hA0.mo hbr
          have la := cell_lt a0
          have hFi := fun W (hb : Below wr.heap.size wr W) => inForm_any r t W (hZ.keep hb) hr0 (by omega)
          have hj6 : j ≤ 1000000 := by omega
          have F1 := trivial
          cases hf : fineT t
          · rw [hf] at hFi
            have HFI : Hid _ := hFi
            have HZ : joinZ l = (Ex.zero, 2) := by
              unfold joinZ
              rw [if_neg (by omega), if_neg (fun h => by rw [List.all_eq_true.1 h t HMEM.out] at hf; cases hf)]
            clear hFi hf
            go_wp2_with (first
              | (clear F1; refine wpList_toldT (w := wr) (by kernel_rfl) (by rfl) (.tmp 8) (.tmp 29) (by rfl) hZ (by rfl) (by rfl) ?_; intro w4 kL B24; simp only [Act.put]; have lL := kL.lt; have B4 := Below.thru hbr B24 (Nat.le_refl _); have y0 : w4.cell? ⟨wr.heap.size, 0, none⟩ = some (r 0) := kL.cell 0; have y1 : w4.cell? ⟨wr.heap.size, 1, none⟩ = some (r 1) := kL.cell 1; have y2 : w4.cell? ⟨wr.heap.size, 2, none⟩ = some (r 2) := kL.cell 2; have y3 : w4.cell? ⟨wr.heap.size, 3, none⟩ = some (r 3) := kL.cell 3; have y4 : w4.cell? ⟨wr.heap.size, 4, none⟩ = some (r 4) := kL.cell 4; have y5 : w4.cell? ⟨wr.heap.size, 5, none⟩ = some (.int .i64 (t.v 0)) := kL.cell 5; have y6 : w4.cell? ⟨wr.heap.size, 6, none⟩ = some (.int .i64 (t.v 1)) := kL.cell 6; have y7 : w4.cell? ⟨wr.heap.size, 7, none⟩ = some (.int .i64 (t.v 2)) := kL.cell 7; have y8 : w4.cell? ⟨wr.heap.size, 8, none⟩ = some (.int .i64 (t.v 3)) := kL.cell 8; have y9 : w4.cell? ⟨wr.heap.size, 9, none⟩ = some (.int .u32 (t.d 0)) := kL.cell 9; have y10 : w4.cell? ⟨wr.heap.size, 10, none⟩ = some (.int .u32 (t.d 1)) := kL.cell 10; have y11 : w4.cell? ⟨wr.heap.size, 11, none⟩ = some (.int .u32 (t.d 2)) := kL.cell 11; have y12 : w4.cell? ⟨wr.heap.size, 12, none⟩ = some (.int .u32 (t.d 3)) := kL.cell 12; have y13 : w4.cell? ⟨wr.heap.size, 13, none⟩ = some (.int .i64 t.vs) := kL.cell 13; have y14 : w4.cell? ⟨wr.heap.size, 14, none⟩ = some (.int .i64 t.ls) := kL.cell 14; have y15 : w4.cell? ⟨wr.heap.size, 15, none⟩ = some (.int .i64 t.mo) := kL.cell 15; have F2 := trivial)
              | (go_at_call 21; clear F2; refine (HFI.out _ B24).mono ?_; rintro e w7 ⟨rfl, hb7⟩; have B7 := Below.thru B4 hb7 (Nat.le_refl _); have kR7 := (kR.keep B24).keep hb7; have F3 := trivial)
              | (clear F3; refine wpList_storeB (by rfl) 42 (.tmp 2) (.tmp 33) (by rfl) w.heap.size #[.slice none 0 0, .slice none 0 0, .slice none 0 0, .slice none 0 0, .slice none 0 0, .slice none 0 0, .slice none 0 0] _ 42 (by rfl) (by rfl) kR7 (by kernel_rfl) (by rfl) (by simp [Value.oneCell']) ?_; intro wL kM oL zL; simp only [Act.put]; have z0 : wL.cell? ⟨w.heap.size, 0, none⟩ = some (.slice none 0 0) := kM.cell 0; have z1 : wL.cell? ⟨w.heap.size, 1, none⟩ = some (.slice none 0 0) := kM.cell 1; have z2 : wL.cell? ⟨w.heap.size, 2, none⟩ = some (.slice none 0 0) := kM.cell 2; have z3 : wL.cell? ⟨w.heap.size, 3, none⟩ = some (.slice none 0 0) := kM.cell 3; have z4 : wL.cell? ⟨w.heap.size, 4, none⟩ = some (.slice none 0 0) := kM.cell 4; have z5 : wL.cell? ⟨w.heap.size, 5, none⟩ = some (.slice none 0 0) := kM.cell 5; have z6 : wL.cell? ⟨w.heap.size, 6, none⟩ = some (.slice none 0 0) := kM.cell 6; have lM := kM.lt; have BL := B7.trans (oL.below B7.size (fun k hk => by omega))))
            refine bodyPost_ret (v := .tuple #[.agg #[.slice none 0 0, .slice none 0 0, .slice none 0 0, .slice none 0 0, .slice none 0 0, .slice none 0 0, .slice none 0 0], .int .i64 2]) (by simp [results, Tryz.results7, go_sem, z0, z1, z2, z3, z4, z5, z6]) rfl ?_
            rw [HZ]
            exact ⟨fun _ => .slice none 0 0, rfl, ex_zero, BL⟩
          · rw [hf] at hFi
            have HFI : Hid _ := hFi
            have HOK : Hid _ := hf
            clear hFi hf
            go_wp2_with (first
              | (clear F1; refine wpList_toldT (w := wr) (by kernel_rfl) (by rfl) (.tmp 8) (.tmp 29) (by rfl) hZ (by rfl) (by rfl) ?_; intro w4 kL B24; simp only [Act.put]; have lL := kL.lt; have B4 := Below.thru hbr B24 (Nat.le_refl _); have y0 : w4.cell? ⟨wr.heap.size, 0, none⟩ = some (r 0) := kL.cell 0; have y1 : w4.cell? ⟨wr.heap.size, 1, none⟩ = some (r 1) := kL.cell 1; have y2 : w4.cell? ⟨wr.heap.size, 2, none⟩ = some (r 2) := kL.cell 2; have y3 : w4.cell? ⟨wr.heap.size, 3, none⟩ = some (r 3) := kL.cell 3; have y4 : w4.cell? ⟨wr.heap.size, 4, none⟩ = some (r 4) := kL.cell 4; have y5 : w4.cell? ⟨wr.heap.size, 5, none⟩ = some (.int .i64 (t.v 0)) := kL.cell 5; have y6 : w4.cell? ⟨wr.heap.size, 6, none⟩ = some (.int .i64 (t.v 1)) := kL.cell 6; have y7 : w4.cell? ⟨wr.heap.size, 7, none⟩ = some (.int .i64 (t.v 2)) := kL.cell 7; have y8 : w4.cell? ⟨wr.heap.size, 8, none⟩ = some (.int .i64 (t.v 3)) := kL.cell 8; have y9 : w4.cell? ⟨wr.heap.size, 9, none⟩ = some (.int .u32 (t.d 0)) := kL.cell 9; have y10 : w4.cell? ⟨wr.heap.size, 10, none⟩ = some (.int .u32 (t.d 1)) := kL.cell 10; have y11 : w4.cell? ⟨wr.heap.size, 11, none⟩ = some (.int .u32 (t.d 2)) := kL.cell 11; have y12 : w4.cell? ⟨wr.heap.size, 12, none⟩ = some (.int .u32 (t.d 3)) := kL.cell 12; have y13 : w4.cell? ⟨wr.heap.size, 13, none⟩ = some (.int .i64 t.vs) := kL.cell 13; have y14 : w4.cell? ⟨wr.heap.size, 14, none⟩ = some (.int .i64 t.ls) := kL.cell 14; have y15 : w4.cell? ⟨wr.heap.size, 15, none⟩ = some (.int .i64 t.mo) := kL.cell 15; have F2 := trivial)
              | (go_at_call 21; clear F2; refine (HFI.out _ B24).mono ?_; rintro e w7 ⟨rfl, hb7⟩; have B7 := Below.thru B4 hb7 (Nat.le_refl _); have kR7 := (kR.keep B24).keep hb7; have F3 := trivial))
            go_roundw
            case rel => exact ⟨j + 1, by omega, by go_num, fun x hx => by rw [HTK.out, List.mem_append] at hx; exact hx.elim (HFN.out x) (fun h => by rw [List.mem_singleton] at h; rw [h]; exact HOK.out), kR7, B7⟩
            case measure => simp [Go.RowKit.intOf]; omega
        · have hjl' : ¬ (j : Int) < (l.length : Int) := by omega
          have hF : ∀ t ∈ l, fineT t = true := fun t ht => HFN.out t (by rw [List.take_of_length_le (by omega)]; exact ht)
          have HZ : joinZ l = (joinE l, 0) := by
            unfold joinZ
            rw [if_neg (by omega), if_pos (List.all_eq_true.2 hF)]
          have hEV := fun W (hB : Below w.heap.size w W) => events_any p c l W (hl.keep hB) (by omega) hnl
          have hRG := fun W (hB : Below w.heap.size w W) => registers_any p c l W (hl.keep hB) hnl
          have hR0 := fun W (hB : Below w.heap.size w W) => relation_any 24 poS poN p c l W (hl.keep hB) (by omega) hnl (fun t _ => ah_po t) (fun args w => by kernel_rfl) (fun t ht k hk r W _ => aheadPo_any r t k W (by have := tot_in ht; omega))
          have hR1 := fun W (hB : Below w.heap.size w W) => relation_any 25 adS adN p c l W (hl.keep hB) (by omega) hnl (fun t ht => ah_ad (hF t ht)) (fun args w => by kernel_rfl) (fun t ht k hk r W hz => aheadAd_any r t k W hz (HR.out t ht) (by rw [(fine_len (hF t ht)).1]; exact hk))
          have hR2 := fun W (hB : Below w.heap.size w W) => relation_any 26 daS daN p c l W (hl.keep hB) (by omega) hnl (fun t ht => ah_da (hF t ht)) (fun args w => by kernel_rfl) (fun t ht k hk r W hz => aheadDa_any r t k W hz (HR.out t ht) (by rw [(fine_len (hF t ht)).2.1]; exact hk))
          have hR3 := fun W (hB : Below w.heap.size w W) => relation_any 27 ctS ctN p c l W (hl.keep hB) (by omega) hnl (fun t ht => ah_ct (hF t ht)) (fun args w => by kernel_rfl) (fun t ht k hk r W hz => aheadCt_any r t k W hz (HR.out t ht) (by rw [(fine_len (hF t ht)).2.2.1]; exact hk))
          have hR4 := fun W (hB : Below w.heap.size w W) => relation_any 28 rmS rmN p c l W (hl.keep hB) (by omega) hnl (fun t ht => ah_rm (hF t ht)) (fun args w => by kernel_rfl) (fun t ht k hk r W hz => aheadRm_any r t k W hz (by rw [(fine_len (hF t ht)).2.2.2]; exact hk) (by have h1 := pa_get (hF t ht) hk; have := tot_in ht; omega))
          have HEV : Hid _ := hEV
          have HRG : Hid _ := hRG
          clear hEV hRG hF
          generalize hG0 : mkR (totN l) (relJ poS l 0) = R0 at hR0
          have HR0 : Hid _ := hR0
          have HG0 : Hid _ := hG0
          clear hR0 hG0
          generalize hG1 : mkR (totN l) (relJ adS l 0) = R1 at hR1
          have HR1 : Hid _ := hR1
          have HG1 : Hid _ := hG1
          clear hR1 hG1
          generalize hG2 : mkR (totN l) (relJ daS l 0) = R2 at hR2
          have HR2 : Hid _ := hR2
          have HG2 : Hid _ := hG2
          clear hR2 hG2
          generalize hG3 : mkR (totN l) (relJ ctS l 0) = R3 at hR3
          have HR3 : Hid _ := hR3
          have HG3 : Hid _ := hG3
          clear hR3 hG3
          generalize hG4 : mkR (totN l) (relJ rmS l 0) = R4 at hR4
          have HR4 : Hid _ := hR4
          have HG4 : Hid _ := hG4
          clear hR4 hG4
          have F0 := trivial
          go_wp2_with (first
            | (go_at_call 22; clear F0; refine (HEV.out _ hbr).mono ?_; rintro e w0x ⟨u0, rfl, hV0, hb0⟩; obtain ⟨q0, d0, rfl⟩ := hV0.len; have s0 := (hbr).size; have B0x := Below.thru (hbr) hb0 (Nat.le_refl _); have F1 := trivial)
            | (go_at_call 23; clear F1; refine (HR0.out _ B0x).mono ?_; rintro e w1x ⟨u1, rfl, hV1, hb1⟩; obtain ⟨q1, d1, rfl⟩ := hV1.len; have s1 := (B0x).size; replace hV0 := hV0.keep hb1; have B1x := Below.thru (B0x) hb1 (Nat.le_refl _); have F2 := trivial)
            | (go_at_call 23; clear F2; refine (HR1.out _ B1x).mono ?_; rintro e w2x ⟨u2, rfl, hV2, hb2⟩; obtain ⟨q2, d2, rfl⟩ := hV2.len; have s2 := (B1x).size; replace hV0 := hV0.keep hb2; replace hV1 := hV1.keep hb2; have B2x := Below.thru (B1x) hb2 (Nat.le_refl _); have F3 := trivial)
            | (go_at_call 23; clear F3; refine (HR2.out _ B2x).mono ?_; rintro e w3x ⟨u3, rfl, hV3, hb3⟩; obtain ⟨q3, d3, rfl⟩ := hV3.len; have s3 := (B2x).size; replace hV0 := hV0.keep hb3; replace hV1 := hV1.keep hb3; replace hV2 := hV2.keep hb3; have B3x := Below.thru (B2x) hb3 (Nat.le_refl _); have F4 := trivial)
            | (go_at_call 23; clear F4; refine (HR3.out _ B3x).mono ?_; rintro e w4x ⟨u4, rfl, hV4, hb4⟩; obtain ⟨q4, d4, rfl⟩ := hV4.len; have s4 := (B3x).size; replace hV0 := hV0.keep hb4; replace hV1 := hV1.keep hb4; replace hV2 := hV2.keep hb4; replace hV3 := hV3.keep hb4; have B4x := Below.thru (B3x) hb4 (Nat.le_refl _); have F5 := trivial)
            | (go_at_call 23; clear F5; refine (HR4.out _ B4x).mono ?_; rintro e w5x ⟨u5, rfl, hV5, hb5⟩; obtain ⟨q5, d5, rfl⟩ := hV5.len; have s5 := (B4x).size; replace hV0 := hV0.keep hb5; replace hV1 := hV1.keep hb5; replace hV2 := hV2.keep hb5; replace hV3 := hV3.keep hb5; replace hV4 := hV4.keep hb5; have B5x := Below.thru (B4x) hb5 (Nat.le_refl _); have F6 := trivial)
            | (go_at_call 30; clear F6; refine (HRG.out _ B5x).mono ?_; rintro e w6x ⟨u6, rfl, hV6, hb6⟩; obtain ⟨q6, d6, rfl⟩ := hV6.len; have s6 := (B5x).size; replace hV0 := hV0.keep hb6; replace hV1 := hV1.keep hb6; replace hV2 := hV2.keep hb6; replace hV3 := hV3.keep hb6; replace hV4 := hV4.keep hb6; replace hV5 := hV5.keep hb6; have B6x := Below.thru (B5x) hb6 (Nat.le_refl _); have F7 := trivial)
            | (clear F7; have kK := (((((((kR.keep hb0).keep hb1).keep hb2).keep hb3).keep hb4).keep hb5).keep hb6); refine wpList_storeB (by rfl) 42 (.tmp 2) (.tmp 54) (by rfl) w.heap.size #[.slice q0 (evsJ l 0).length d0, .slice q1 R0.length d1, .slice q2 R1.length d2, .slice q3 R2.length d3, .slice q4 R3.length d4, .slice q5 R4.length d5, .slice q6 (regsJ l).length d6] _ 42 (by rfl) (by rfl) kK (by kernel_rfl) (by rfl) (by simp [Value.oneCell']) ?_; intro wL kM oL zL; simp only [Act.put]; have z0 : wL.cell? ⟨w.heap.size, 0, none⟩ = some (.slice q0 (evsJ l 0).length d0) := kM.cell 0; have z1 : wL.cell? ⟨w.heap.size, 1, none⟩ = some (.slice q1 R0.length d1) := kM.cell 1; have z2 : wL.cell? ⟨w.heap.size, 2, none⟩ = some (.slice q2 R1.length d2) := kM.cell 2; have z3 : wL.cell? ⟨w.heap.size, 3, none⟩ = some (.slice q3 R2.length d3) := kM.cell 3; have z4 : wL.cell? ⟨w.heap.size, 4, none⟩ = some (.slice q4 R3.length d4) := kM.cell 4; have z5 : wL.cell? ⟨w.heap.size, 5, none⟩ = some (.slice q5 R4.length d5) := kM.cell 5; have z6 : wL.cell? ⟨w.heap.size, 6, none⟩ = some (.slice q6 (regsJ l).length d6) := kM.cell 6; have lM := kM.lt; have BL := B6x.trans (oL.below B6x.size (fun k hk => by omega))))
          refine bodyPost_ret (v := .tuple #[.agg #[.slice q0 (evsJ l 0).length d0, .slice q1 R0.length d1, .slice q2 R1.length d2, .slice q3 R2.length d3, .slice q4 R3.length d4, .slice q5 R4.length d5, .slice q6 (regsJ l).length d6], .int .i64 0]) (by simp [results, Tryz.results7, go_sem, z0, z1, z2, z3, z4, z5, z6]) rfl ?_
          rw [HZ]
          have hlt := kR.lt
          have tr : ∀ {α : Type} {E : Elem α} {x : List α} {u : Value} {n : Nat}, wr.heap.size ≤ n → SlA (fun b => n ≤ b) E w6x u x → SlA (fun b => w.heap.size ≤ b) E wL u x := fun hn h => SlA.mono (fun b hb => by omega) (h.agree (oL.agree (fun b hb e => by omega)))
          have g0 := tr (by exact Nat.le_refl _) hV0
          have g1 := tr (by have := hb0.size; omega) hV1
          have g2 := tr (by have := hb0.size; have := hb1.size; omega) hV2
          have g3 := tr (by have := hb0.size; have := hb1.size; have := hb2.size; omega) hV3
          have g4 := tr (by have := hb0.size; have := hb1.size; have := hb2.size; have := hb3.size; omega) hV4
          have g5 := tr (by have := hb0.size; have := hb1.size; have := hb2.size; have := hb3.size; have := hb4.size; omega) hV5
          have g6 := tr (by have := hb0.size; have := hb1.size; have := hb2.size; have := hb3.size; have := hb4.size; have := hb5.size; omega) hV6
          exact ⟨fun i => ([.slice q0 (evsJ l 0).length d0, .slice q1 R0.length d1, .slice q2 R1.length d2, .slice q3 R2.length d3, .slice q4 R3.length d4, .slice q5 R4.length d5, .slice q6 (regsJ l).length d6] : List Value).getD i undef, rfl, ⟨g0, (by show SlA _ _ _ _ (mkR (totN l) (relJ poS l 0)); rw [HG0.out]; exact g1), (by show SlA _ _ _ _ (mkR (totN l) (relJ adS l 0)); rw [HG1.out]; exact g2), (by show SlA _ _ _ _ (mkR (totN l) (relJ daS l 0)); rw [HG2.out]; exact g3), (by show SlA _ _ _ _ (mkR (totN l) (relJ ctS l 0)); rw [HG3.out]; exact g4), (by show SlA _ _ _ _ (mkR (totN l) (relJ rmS l 0)); rw [HG4.out]; exact g5), g6⟩, BL⟩
end Go.Proofs.YtcalinfdckklfaaGreatDoor
