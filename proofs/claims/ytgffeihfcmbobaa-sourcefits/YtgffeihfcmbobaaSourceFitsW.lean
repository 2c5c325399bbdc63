/- SourceFits, walked. -/
import Derived.Test.YtgffeihfcmbobaaSrcShown
import Derived.Test.YtgffeihfcmbobaaSrcFits
import Derived.BigQuiet
namespace Go.Proofs.Ytgffeihfcmbobaa
open Go.RowKit
attribute [local go_sem] Ext.cell Ext.frozen

theorem rise_at {S : List (List Int)} (h : S.Pairwise lexL) {i : Nat} (hi : i + 1 < S.length) : lexL S[i] S[i + 1] := List.pairwise_iff_getElem.1 h i (i + 1) (by omega) hi (by omega)

set_option maxRecDepth 20000 in
set_option maxHeartbeats 16000000 in
theorem SourceFits_true (q0_ q1_ : Option Addr) (c0_ c1_ : Nat) (xs0 : List Ev) (xs1 : List Int) (w : World) (hx0 : Sl EvE w (.slice q0_ xs0.length c0_) xs0) (hx1 : Sl IntE w (.slice q1_ xs1.length c1_) xs1) :
    Calls Try.prog 4 #[.slice q0_ xs0.length c0_, .slice q1_ xs1.length c1_] w fun e w' => e = .returned (.bool true) ∧ Below w.heap.size w w' := by
  have HS : Hid (Calls _ _ _ _ _) := shown11_any w
  by_cases h24 : 24 < xs0.length
  · have d24 : decide ((24 : Int) < (xs0.length : Int)) = true := decide_eq_true (by omega)
    have e24 : decide (24 < xs0.length) = true := decide_eq_true h24
    go_enter Try.func4, Try.ntmps4
    go_wp2_with (go_at_call 9; refine HS.out.mono ?_; rintro e w1 ⟨rfl, hb1⟩)
    go_ret
    exact ⟨rfl, hb1⟩
  · have d24 : decide ((24 : Int) < (xs0.length : Int)) = false := decide_eq_false (by omega)
    have e24 : decide (24 < xs0.length) = false := decide_eq_false h24
    have hn : xs0.length ≤ 24 := by omega
    have HMD : Hid _ := fun W => made11_any q0_ xs0.length c0_ W
    have HM1 : Hid _ := fun (rd : Int) W (hB : Below w.heap.size w W) => May_any (.slice q0_ xs0.length c0_) nilR q0_ q1_ c0_ c1_ xs0 xs1 rd W rfl (hx0.keep hB) (hx1.keep hB) (by omega)
    have HA1 : Hid _ := fun W (hB : Below w.heap.size w W) => All_any (.slice q0_ xs0.length c0_) nilR q0_ q1_ c0_ c1_ xs0 xs1 W rfl (hx0.keep hB) (hx1.keep hB) (by omega)
    have HF1 : Hid _ := fun q c fr W (hB : Below w.heap.size w W) (hF : Sl IntE W (.slice q fr.length c) fr) (hl : fr.length ≤ 1000000) => Fits_any (.slice q0_ xs0.length c0_) nilR q0_ q1_ q c0_ c1_ c xs0 xs1 fr W rfl (hx0.keep hB) (hx1.keep hB) hF (by omega) hl
    have hsl : (srcZ xs0 xs1).length ≤ 20000 := srcZ_le xs0 xs1
    have HFI : Hid (∀ x ∈ srcZ xs0 xs1, x.length = xs0.length ∧ fitsZ xs0 xs1 x = true) := (show ∀ x ∈ srcZ xs0 xs1, x.length = xs0.length ∧ fitsZ xs0 xs1 x = true from fun x hx => ⟨(srcZ_mem hx).1, srcZ_fits hx⟩)
    have HRI : Hid ((srcZ xs0 xs1).Pairwise lexL) := srcZ_rises xs0 xs1
    have HMANY : Hid _ := fun k (h : 20000 < prodN ((choZ xs0 xs1).take k)) => srcZ_many h
    have HLEN : Hid _ := fun (h : prodN (choZ xs0 xs1) ≤ 20000) => srcZ_len (l := xs0) (init := xs1) (by omega)
    obtain ⟨S, hSe⟩ : ∃ S, srcZ xs0 xs1 = S := ⟨_, rfl⟩
    rw [hSe] at HA1 HFI HRI hsl HMANY HLEN
    clear hSe h24
    have hne : ∀ w, Nonempty (Ext w) := ext_some
    have F1 := trivial
    go_enter Try.func4, Try.ntmps4
    go_wp2_with (first
      | (go_at_call 9; clear F1; refine HS.out.mono ?_; rintro e w1 ⟨rfl, hb1⟩; have F2 := trivial)
      | (go_at_call 10; clear F2; refine (HMD.out w1).mono ?_; rintro e w2 ⟨rfl, hb2⟩; have B2 := Below.thru hb1 hb2 (Nat.le_refl _); have F3 := trivial)
      | (clear F3; refine wpList_toldX (w := w2) (T := 30) (by kernel_rfl) (by rfl) (.tmp 6) (.tmp 18) (by rfl) #[.slice q0_ xs0.length c0_, nilR 1, nilR 2, nilR 3, nilR 4, nilR 5, nilR 6] (by rfl) (by simp [Value.oneCell', nilR]) (by rfl) (by rfl) ?_; intro w3 k3 b3; simp only [Act.put]; have B3 := Below.thru B2 b3 (Nat.le_refl _); obtain ⟨y0, y1, y2, y3, y4, y5, y6⟩ := ex_cells k3; have ly := k3.lt; have F4 := trivial)
      | (go_at_call 16; clear F4; refine (HA1.out w3 B3).mono ?_; rintro e w4 ⟨u4, rfl, V4, hb4⟩; obtain ⟨p4, c4, rfl⟩ := V4.len; have B4 := Below.thru B3 hb4 (Nat.le_refl _); have k4 := k3.keep hb4; have F5 := trivial))
    clear y0 y1 y2 y3 y4 y5 y6 ly k3
    go_loopw [8, 9] (fun m i wr => ∃ k : Nat, k ≤ xs0.length ∧ i = .int .i64 k ∧ m = .int .i64 (prodN ((choZ xs0 xs1).take k) : Nat) ∧ prodN ((choZ xs0 xs1).take k) ≤ 20000 ∧ Below w4.heap.size w4 wr) (fun _ i _ => xs0.length - (Go.RowKit.intOf i).toNat)
    case atStart => exact ⟨0, Nat.zero_le _, rfl, rfl, by rw [List.take_zero]; decide, Below.refl _ _⟩
    case round =>
      obtain ⟨k, hk, rfl, rfl, h20, hbr⟩ := hrel
      have Br := Below.thru B4 hbr (Nat.le_refl _)
      obtain ⟨y0, y1, y2, y3, y4, y5, y6⟩ := ex_cells (k4.keep hbr)
      have ly := (k4.keep hbr).lt
      by_cases hlt : k < xs0.length
      · have hlt' : (k : Int) < (xs0.length : Int) := by omega
        obtain ⟨eb, eo, rfl, g0, g1, g2, g3, g4, g5, g6⟩ := (ev_at (hx0.keep Br)).2 k hlt
        have hnx := prodN_next (choZ_at (init := xs1) (List.getElem?_eq_getElem hlt))
        have hmz := mayZ_at (init := xs1) (List.getElem?_eq_getElem hlt)
        have hml := mayE_len xs0 xs1 xs0[k]
        have hMay := HM1.out (k : Int) wr Br
        rw [hmz] at hMay
        generalize xs0[k] = x at *
        have lg := cell_lt g0
        have hmk := HMANY.out (k + 1)
        by_cases hx : x.kd = 1
        · have hx1 : (x.kd == 1) = true := by simp [hx]
          have hce : choE xs0 xs1 x = mayE xs0 xs1 x := by unfold choE; rw [if_pos hx1]
          rw [hce] at hnx
          rw [if_pos hx1] at hMay
          generalize mayE xs0 xs1 x = may at *
          obtain ⟨M, hM⟩ : ∃ M, prodN ((choZ xs0 xs1).take k) * may.length = M := ⟨_, rfl⟩
          rw [hM] at hnx
          rw [hnx] at hmk
          have hMI : (prodN ((choZ xs0 xs1).take k) : Int) * (may.length : Int) = (M : Int) := by rw [← hM]; simp
          have hMb : M ≤ 500000 := by
            have h1 : prodN ((choZ xs0 xs1).take k) * may.length ≤ 20000 * 25 := Nat.mul_le_mul h20 (by omega)
            omega
          generalize prodN ((choZ xs0 xs1).take k) = F at *
          have HNX : Hid _ := hnx
          have HMK : Hid _ := hmk
          have HMAY : Hid (Calls _ _ _ _ _) := hMay
          clear hx hnx hmk hM hMay hce hmz
          by_cases hbig : 20000 < M
          · have hbig' : (20000 : Int) < (M : Int) := by omega
            have hS0 := HMK.out hbig
            subst hS0
            go_wp2_with (go_at_call 13; refine HMAY.out.mono ?_; rintro e w5 ⟨u5, rfl, V5, hb5⟩; obtain ⟨p5, c5, rfl⟩ := V5.len)
            go_ret
            exact ⟨rfl, Below.thru Br hb5 (Nat.le_refl _)⟩
          · have hbig' : ¬ (20000 : Int) < (M : Int) := by omega
            go_wp2_with (go_at_call 13; refine HMAY.out.mono ?_; rintro e w5 ⟨u5, rfl, V5, hb5⟩; obtain ⟨p5, c5, rfl⟩ := V5.len)
            go_roundw
            case rel => exact ⟨k + 1, by omega, by go_num, by rw [HNX.out], by rw [HNX.out]; omega, Below.thru hbr hb5 (Nat.le_refl _)⟩
            case measure => simp [Go.RowKit.intOf]; omega
        · have hx1 : (x.kd == 1) = false := by simp [hx]
          have hce : choE xs0 xs1 x = [-2] := by unfold choE; rw [if_neg (by simp [hx])]
          rw [hce] at hnx
          have hnx2 : prodN ((choZ xs0 xs1).take (k + 1)) = prodN ((choZ xs0 xs1).take k) := by rw [hnx]; simp
          generalize prodN ((choZ xs0 xs1).take k) = F at *
          have HNX : Hid _ := hnx2
          have hF' : ¬ (20000 : Int) < (F : Int) := by omega
          clear hx hnx hnx2 hmk hMay hce hmz
          go_wp2
          go_roundw
          case rel => exact ⟨k + 1, by omega, by go_num, by rw [HNX.out], by rw [HNX.out]; exact h20, hbr⟩
          case measure => simp [Go.RowKit.intOf]; omega
      · have hlt' : ¬ (k : Int) < (xs0.length : Int) := by omega
        have hPl : S.length = prodN ((choZ xs0 xs1).take k) := by
          have e : (choZ xs0 xs1).take k = choZ xs0 xs1 := List.take_of_length_le (by rw [choZ_len]; omega)
          rw [e] at h20 ⊢
          exact HLEN.out h20
        rw [← hPl]
        clear hPl h20 HMANY HLEN y0 y1 y2 y3 y4 y5 y6 ly
        obtain ⟨w5, rfl⟩ : ∃ x : World, x = wr := ⟨_, rfl⟩
        have V5 := V4.keep hbr
        have k5 := k4.keep hbr
        go_wp2
        go_loopw [10] (fun i wr => ∃ j : Nat, j ≤ S.length ∧ i = .int .i64 j ∧ Below w5.heap.size w5 wr) (fun i _ => S.length - (Go.RowKit.intOf i).toNat)
        case atStart => exact ⟨0, Nat.zero_le _, rfl, Below.refl _ _⟩
        case round =>
          obtain ⟨j, hj, rfl, hbr2⟩ := hrel
          have Br2 := Below.thru Br hbr2 (Nat.le_refl _)
          by_cases hjl : j < S.length
          · have hjl' : (j : Int) < (S.length : Int) := by omega
            obtain ⟨bj, oj, rfl, vj, gj, hvj⟩ := (sl_at (V5.keep hbr2)).2 j hjl
            obtain ⟨hlj, hfj⟩ := HFI.out _ (List.getElem_mem hjl)
            obtain ⟨y0, y1, y2, y3, y4, y5, y6⟩ := ex_cells (k5.keep hbr2)
            have ly := (k5.keep hbr2).lt
            have lj := cell_lt gj
            obtain ⟨pj, cj, rfl⟩ := hvj.len
            have CC : ∀ p : Ext wr, Calls Try.prog 18 #[exV (.slice q0_ xs0.length c0_) nilR, .slice q1_ xs1.length c1_, .slice pj S[j].length cj] p.wd fun e w'' => e = .returned (.bool true) ∧ ∃ q' : Ext wr, w'' = q'.wd := fun p => calls_ext (by have h := HF1.out pj cj S[j] p.wd (Below.thru Br2 p.ok (Nat.le_refl _)) (hvj.any.keep p.ok) (by omega); rw [hfj] at h; exact h)
            unfold exV at CC
            have HCC : Hid _ := CC
            clear CC hfj
            cases j with
            | zero =>
              generalize S[0] = B at *
              clear hlj
              rw [Nat.add_zero] at gj
              go_wp2
              refine wp_region_ext (by kernel_rfl) (by kernel_rfl) ?_
              repeat (go_big_quiet_step (first | (with_reducible exact HCC.out _)))
              refine wpQuiet_nil ?_
              rintro _ ⟨rr, rfl⟩
              have b6 := rr.ok
              generalize rr.wd = w6 at *
              have hb26 := Below.thru hbr2 b6 (Nat.le_refl _)
              clear y0 y1 y2 y3 y4 y5 y6 ly gj lj
              go_wp2
              go_loopw [11] (fun i wz => i = .int .i64 0 ∧ Below w5.heap.size w5 wz) (fun _ _ => 0)
              case atStart => exact ⟨rfl, hb26⟩
              case round =>
                obtain ⟨rfl, hbz⟩ := hrel
                go_wp2
                refine wp_region_ext (by kernel_rfl) (by kernel_rfl) ?_
                repeat (go_big_quiet_step (fail))
                refine wpQuiet_nil ?_
                rintro _ ⟨ss, rfl⟩
                have b7 := ss.ok
                generalize ss.wd = w7 at *
                go_wp2
                go_roundw
                case rel => exact ⟨1, by omega, by go_num, Below.thru hbz b7 (Nat.le_refl _)⟩
                case measure => simp [Go.RowKit.intOf]; omega
            | succ i =>
              obtain ⟨kk, x, y, heq, hxk, hyk, hxy⟩ := rise_at HRI.out hjl
              obtain ⟨bi, oi, ei, vi, gi, hvi⟩ := (sl_at (V5.keep hbr2)).2 i (by omega)
              simp only [Option.some.injEq, Addr.mk.injEq, and_true] at ei
              obtain ⟨rfl, rfl⟩ := ei
              obtain ⟨hli, _⟩ := HFI.out _ (List.getElem_mem (show i < S.length by omega))
              obtain ⟨pi, ci, rfl⟩ := hvi.len
              have hkn : kk < xs0.length := by
                rcases Nat.lt_or_ge kk S[i].length with h | h
                · omega
                · rw [List.getElem?_eq_none h] at hxk; cases hxk
              generalize S[i] = A at *
              generalize S[i + 1] = B at *
              have HEQ : Hid _ := heq
              have HXK : Hid _ := hxk
              have HYK : Hid _ := hyk
              have HLA : Hid _ := hli
              have HLB : Hid _ := hlj
              have hAl : A.length ≤ 24 := by omega
              clear heq hxk hyk hli hlj
              go_wp2
              refine wp_region_ext (by kernel_rfl) (by kernel_rfl) ?_
              repeat (go_big_quiet_step (first | (with_reducible exact HCC.out _)))
              refine wpQuiet_nil ?_
              rintro _ ⟨rr, rfl⟩
              have b6 := rr.ok
              generalize rr.wd = w6 at *
              have hb26 := Below.thru hbr2 b6 (Nat.le_refl _)
              have gi6 := cell_keep gi b6
              have gj6 := cell_keep gj b6
              have hvi6 := hvi.keep b6
              have hvj6 := hvj.keep b6
              clear y0 y1 y2 y3 y4 y5 y6 ly gj lj gi hvi hvj
              go_wp2
              go_loopw [11] (fun z wz => ∃ k : Nat, k ≤ kk ∧ z = .int .i64 k ∧ Below w6.heap.size w6 wz) (fun z _ => kk - (Go.RowKit.intOf z).toNat)
              case atStart => exact ⟨0, Nat.zero_le _, rfl, Below.refl _ _⟩
              case round =>
                obtain ⟨k, hkk, rfl, hbz⟩ := hrel
                have hkA : k < A.length := by rw [HLA.out]; omega
                have hkB : k < B.length := by rw [HLB.out]; omega
                obtain ⟨ab, ao, rfl, ga⟩ := (ints_at (hvi6.keep hbz)).2 k hkA
                obtain ⟨bb, bo, rfl, gb⟩ := (ints_at (hvj6.keep hbz)).2 k hkB
                have giz := cell_keep gi6 hbz
                have gjz := cell_keep gj6 hbz
                have l1 := cell_lt ga
                have l2 := cell_lt gb
                have l3 := cell_lt giz
                have hkn' : (k : Int) < (xs0.length : Int) := by omega
                have hkA' : (k : Int) < (A.length : Int) := by omega
                have hkB' : (k : Int) < (B.length : Int) := by omega
                have hiS : (i : Int) < (S.length : Int) := by omega
                have hw1 : wrap64 (((i + 1 : Nat) : Int) - 1) = (i : Int) := by unfold wrap64; omega
                have hw2 : wrap64 ((i : Int) + 1 - 1) = (i : Int) := by unfold wrap64; omega
                by_cases hlt2 : k < kk
                · have hab : A[k] = B[k] := by
                    have h := HEQ.out k hlt2
                    rw [List.getElem?_eq_getElem hkA, List.getElem?_eq_getElem hkB] at h
                    exact Option.some.inj h
                  rw [← hab] at gb
                  generalize A[k] = z at *
                  have dz : decide (z ≤ z) = true := decide_eq_true (Int.le_refl z)
                  have dl : decide (z < z) = false := decide_eq_false (Int.lt_irrefl z)
                  have hwn : wrap64 ((xs0.length : Int) - 1) = (xs0.length : Int) - 1 := by unfold wrap64; omega
                  have hke : ((k : Int) == (xs0.length : Int) - 1) = false := by rw [beq_eq_false_iff_ne]; omega
                  clear hab
                  go_wp2
                  refine wp_region_ext (by kernel_rfl) (by kernel_rfl) ?_
                  repeat (go_big_quiet_step (fail))
                  refine wpQuiet_nil ?_
                  rintro _ ⟨ss, rfl⟩
                  have b7 := ss.ok
                  generalize ss.wd = w7 at *
                  have ga7 := cell_keep ga b7
                  have gb7 := cell_keep gb b7
                  have gi7 := cell_keep giz b7
                  have gj7 := cell_keep gjz b7
                  have l4 := cell_lt ga7
                  have l5 := cell_lt gb7
                  have l6 := cell_lt gi7
                  go_wp2
                  refine wp_region_ext (by kernel_rfl) (by kernel_rfl) ?_
                  repeat (go_big_quiet_step (fail))
                  refine wpQuiet_nil ?_
                  rintro _ ⟨tt, rfl⟩
                  have b8 := tt.ok
                  generalize tt.wd = w8 at *
                  go_wp2
                  go_roundw
                  case rel => exact ⟨k + 1, by omega, by go_num, Below.thru (Below.thru hbz b7 (Nat.le_refl _)) b8 (Nat.le_refl _)⟩
                  case measure => simp [Go.RowKit.intOf]; omega
                · have hke : k = kk := by omega
                  subst hke
                  have hax : A[k] = x := by
                    have h := HXK.out
                    rw [List.getElem?_eq_getElem hkA] at h
                    exact Option.some.inj h
                  have hby : B[k] = y := by
                    have h := HYK.out
                    rw [List.getElem?_eq_getElem hkB] at h
                    exact Option.some.inj h
                  rw [hax] at ga
                  rw [hby] at gb
                  have dz : decide (y ≤ x) = false := decide_eq_false (by omega)
                  clear hax hby hxy
                  go_wp2
                  refine wp_region_ext (by kernel_rfl) (by kernel_rfl) ?_
                  repeat (go_big_quiet_step (fail))
                  refine wpQuiet_nil ?_
                  rintro _ ⟨ss, rfl⟩
                  have b7 := ss.ok
                  generalize ss.wd = w7 at *
                  go_wp2
                  go_roundw
                  case rel => exact ⟨i + 2, by omega, by go_num, Below.thru hb26 (Below.thru hbz b7 (Nat.le_refl _)) (Nat.le_refl _)⟩
                  case measure => simp [Go.RowKit.intOf]; omega
          · have hjl' : ¬ (j : Int) < (S.length : Int) := by omega
            go_wp2
            go_ret
            exact ⟨rfl, Br2⟩
end Go.Proofs.Ytgffeihfcmbobaa
