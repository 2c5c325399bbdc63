/- The contract of cupolaref02.Fenced (of a test that may be). -/
import Derived.Test.YtpmecgagbjphdaaDoorTestRefBare
import Derived.Test.YtpmecgagbjphdaaDoorInsRef
namespace Go.Proofs.YtpmecgagbjphdaaDoor
open Go.RowKit

theorem lay1_plain {x : Ins} {n : Int} (h : kindZ x.op = 0) : lay1 (skipZ x n) = [skipZ x n] := by unfold lay1; rw [skip_op, if_pos h]
theorem lay1_mem {x : Ins} {n : Int} (h : kindZ x.op ≠ 0) : lay1 (skipZ x n) = [dmb, x] := by unfold lay1; rw [skip_op, if_neg h, skip_no (kind_fn h).2]
theorem laid1_step {l : List Ins} {k j : Nat} {y : Ins} (h : k + j < l.length) (hy : l[k + j] = y) : laid lay1 ((l.drop k).take (j + 1)) = laid lay1 ((l.drop k).take j) + (if kindZ y.op = 0 then 1 else 2) := by
  rw [take_step h, laid_append, hy, laid_cons', laid_nil]
  unfold lay1
  split <;> simp
theorem kind_pos {op : Int} (h : kindZ op ≠ 0) : 0 < kindZ op ∧ kindZ op ≤ 2 := by rcases kind_cases op with h' | h' | h' <;> omega

set_option maxRecDepth 20000 in
set_option maxHeartbeats 8000000 in
theorem refFenced_any (pi pt : Option Addr) (ci ct : Nat) (xs : List Int) (ts : List (List Ins)) (w : World) (ht : Sl ThrE w (.slice pt ts.length ct) ts) (hM : ts.length ≤ 1000000) (hin : ∀ l ∈ ts, l.length ≤ 8 ∧ inside l = true) :
    Calls Tryd.prog 19 #[.agg #[.slice pi xs.length ci, .slice pt ts.length ct]] w fun e w' => ∃ qt dt, e = .returned (.agg #[.slice pi xs.length ci, .slice qt (ts.map fencedL).length dt]) ∧
      SlA (fun b => w.heap.size ≤ b) ThrE w' (.slice qt (ts.map fencedL).length dt) (ts.map fencedL) ∧ Below w.heap.size w w' := by
  have hui : ∀ l ∈ ts.map bareL, l.length ≤ 8 ∧ inside l = true := fun l hl => by
    obtain ⟨l', hl', rfl⟩ := List.mem_map.1 hl
    have := bareL_len l'
    have := hin l' hl'
    exact ⟨by omega, inside_bare l'⟩
  have hul : (ts.map bareL).length ≤ 1000000 := by rw [List.length_map]; exact hM
  have hb1 := (((Below.refl w.heap.size w).alloc (Nat.le_refl _) (.cells #[.slice pi xs.length ci, .slice pt ts.length ct] 25)).alloc (by simp) (.cells #[.slice none 0 0, .slice none 0 0] 25))
  have E : Hid (ts.map fencedL = (ts.map bareL).map (relay lay1)) := by unfold Hid; rw [List.map_map]; rfl
  rw [E.out]
  generalize hus : ts.map bareL = us at hui hul ⊢
  have C := refBare_any pi pt ci ct xs ts _ (ht.keep hb1) hM hin
  rw [hus] at C
  have HUS : Hid _ := hus
  have HN : Hid _ := hui
  clear hus hui hin
  obtain ⟨i0, z0, j1, j2, j3, j4, j5⟩ := info_get info_thr
  have J1 : Hid _ := j1
  have J2 : Hid _ := j2
  have J3 : Hid _ := j3
  have J4 : Hid _ := j4
  have J5 : Hid _ := j5
  clear j1 j2 j3 j4 j5
  obtain ⟨i1, z1, j1, j2, j3, j4, j5⟩ := info_get info_ins
  have L1 : Hid _ := j1
  have L2 : Hid _ := j2
  have L3 : Hid _ := j3
  have L4 : Hid _ := j4
  have L5 : Hid _ := j5
  clear j1 j2 j3 j4 j5
  go_enter Tryd.func19, Tryd.ntmps19
  go_wp2_with fail
  refine C.mono ?_
  clear C
  rintro e w0 ⟨qt, dt, rfl, s2, hb0⟩
  obtain ⟨hc0, hf0⟩ := bcell hb0
  have hz0 : w.heap.size + 1 < w0.heap.size := by have := hb0.size; simp at this; omega
  have hz0' : w.heap.size < w0.heap.size := by omega
  go_wp2
  have hB0 := hb1.trans (hb0.mono (by simp; omega))
  have hR0 : Blk w0 (w.heap.size + 1) #[.slice none 0 0, .slice none 0 0] 25 := Blk.keep (Blk.newAt (by simp)) hb0
  generalize hn0 : w0.heap.size = n0 at *
  have HN0 : Hid _ := hn0
  have hBt0 : Blk ((w0.alloc (.cells #[.slice pi xs.length ci, .slice qt us.length dt] 25)).alloc (.cells #[.slice pi xs.length ci, .slice none 0 0] 25)) n0 #[.slice pi xs.length ci, .slice qt us.length dt] 25 := (Blk.newAt hn0).alloc _
  have hBu0 : Blk ((w0.alloc (.cells #[.slice pi xs.length ci, .slice qt us.length dt] 25)).alloc (.cells #[.slice pi xs.length ci, .slice none 0 0] 25)) (n0 + 1) #[.slice pi xs.length ci, .slice none 0 0] 25 := Blk.newAt (by simp [hn0])
  have hBa : Below n0 w0 ((w0.alloc (.cells #[.slice pi xs.length ci, .slice qt us.length dt] 25)).alloc (.cells #[.slice pi xs.length ci, .slice none 0 0] 25)) := ((Below.refl _ _).alloc (by omega) _).alloc (by simp; omega) _
  have hBr0 := hR0.keep (by rw [hn0]; exact hBa)
  clear hn0
  go_loopw [5] (fun i wr => ∃ (k : Nat) (a : Value) (out : List (List Ins)), k ≤ us.length ∧ i = .int .i64 k ∧ Blk wr n0 #[.slice pi xs.length ci, .slice qt us.length dt] 25 ∧ Blk wr (w.heap.size + 1) #[.slice none 0 0, .slice none 0 0] 25 ∧ Blk wr (n0 + 1) #[.slice pi xs.length ci, a] 25 ∧
    Own (fun b => n0 + 2 ≤ b) ThrE wr (n0 + 2) 37 a out ∧ out ++ (us.drop k).map (relay lay1) = us.map (relay lay1) ∧ out.length = k ∧ Below n0 w0 wr) (fun i _ => us.length - (intOf i).toNat)
  case atStart => exact ⟨0, _, [], Nat.zero_le _, rfl, hBt0, hBr0, hBu0, Own.nil, by simp, rfl, hBa⟩
  case round =>
    obtain ⟨k, a, out, hk, rfl, hBt, hBr, hBu, hO, hS, hlen, hB⟩ := hrel
    clear hBt0 hBr0 hBu0 hBa hc0 hf0
    have HS : Hid _ := hS
    have HLen : Hid _ := hlen
    clear hS hlen
    obtain ⟨pa, ca, rfl⟩ := hO.len
    have ht0 := hBt.cell 0
    have ht1 := hBt.cell 1
    have hu0 := hBu.cell 0
    have hu1 := hBu.cell 1
    have hur := hBu.frozen 1
    have hul' := hBu.lt
    have hs2 : SlA (fun b => b < n0) ThrE wr (.slice qt us.length dt) us := (SlA.mono (fun b hb => by rw [← HN0.out]; exact hb.2) s2.lt).agree (Below.agreeAt hB (fun b hb => hb))
    have hBw : Below w.heap.size w wr := hB0.trans (hB.mono (by omega))
    by_cases hlt : k < us.length
    · obtain ⟨tb, to, rfl, v, hv, hV⟩ := (thr_at hs2).2 k hlt
      generalize hl : us[k] = l at hV
      have HL : Hid (us.drop k = l :: us.drop (k + 1)) := by rw [← hl]; exact drop_at hlt
      have hNl := HN.out l (by rw [← hl]; exact List.getElem_mem hlt)
      have hl8 := hNl.1
      have HIn : Hid _ := hNl.2
      clear hl hNl
      obtain ⟨pv, cv, rfl⟩ := hV.len
      simp at hu0 hu1 ht0 ht1
      obtain ⟨w1, rfl⟩ : ∃ x : World, x = wr := ⟨_, rfl⟩
      go_wp2
      go_loopw [7, 8] (fun a i w2 => ∃ (j : Nat) (ol : List Ins), j ≤ l.length ∧ i = .int .i64 j ∧ Own (fun _ => False) InsE w2 w1.heap.size 40 a ol ∧ ol.length ≤ 2 * j ∧ ol ++ relay lay1 (l.drop j) = relay lay1 l ∧ inside (l.drop j) = true ∧ Below w1.heap.size w1 w2) (fun _ i _ => l.length - (intOf i).toNat)
      case atStart => exact ⟨0, [], Nat.zero_le _, rfl, Own.nil, by simp, by simp, HIn.out, by go_grown⟩
      case round =>
        obtain ⟨j, ol, hj, rfl, hP, hPl, hS2, hI, hB2⟩ := hrel
        have HS2 : Hid _ := hS2
        clear hS2
        obtain ⟨pb, cb, rfl⟩ := hP.len
        obtain ⟨w2, rfl⟩ : ∃ x : World, x = wr := ⟨_, rfl⟩
        by_cases hjl : j < l.length
        · obtain ⟨ub, uo, rfl, e0, e1, e2, e3, e4, e5⟩ := (ins_at (hV.keep hB2)).2 j hjl
          generalize hx : l[j] = x at e0 e1 e2 e3 e4 e5
          have HX : Hid (l.drop j = x :: l.drop (j + 1)) := by rw [← hx]; exact drop_at hjl
          have HXX : Hid _ := hx
          clear hx
          rw [HX.out] at hI
          obtain ⟨hI2, hI3⟩ := inside_cons hI
          have HI2 : Hid _ := hI2
          clear hI hI2
          have hz : ub < w2.heap.size := cell_lt e0
          cases hbr : brB x.op
          · have b13 : (x.op == 13) = false := by unfold brB at hbr; cases h : (x.op == 13); rfl; rw [h] at hbr; cases hbr
            have b14 : (x.op == 14) = false := by unfold brB at hbr; cases h : (x.op == 14); rfl; rw [h] at hbr; simp at hbr
            have HBR : Hid _ := hbr
            clear hbr hI3
            by_cases hk0 : kindZ x.op = 0
            · have HK : Hid _ := hk0
              clear hk0
              by_cases hxi : 0 < x.i
              all_goals
                go_wp2
                go_loopw [9, 10] (fun n i w4 => n = .int .i64 x.i ∧ i = .int .i64 0 ∧ w4 = w2) (fun _ _ _ => 0)
                case atStart => exact ⟨rfl, rfl, rfl⟩
                case round =>
                  obtain ⟨rfl, rfl, rfl⟩ := hrel
                  go_wp2_with (first | (go_at_call 21; refine (refKind_any _ _ _ _ _ _ _).mono ?_; rintro e w8 ⟨rfl, hb8⟩; rw [HK.out]; have hB8 := hB2.trans (hb8.mono hB2.size); obtain ⟨hc8, hf8⟩ := bcell hb8) | (go_at_call 36; refine (skips_any x _ _).mono ?_; rintro e w5 ⟨rfl, hb5⟩; have hB5 := hB8.trans (hb5.mono hB8.size))  | (at_builtin; refine wpList_app (R := InsE) (A := fun _ => False) (B := fun _ => True) (xs := ol) (ys := [(skipZ x x.i)]) (by rfl) (.tmp 85) (.tmp 92) 37 40 i1 z1 48 (by rfl) Tryd.underlying37 L1.out L2.out L4.out L5.out L3.out w1.heap.size (.slice pb ol.length cb) (.slice (some ⟨w5.heap.size, 0, none⟩) 1 1) (by rfl) (by rfl) (hP.keep ((hb8.trans (hb5.mono hb8.size)).alloc (by have := hb8.size; have := hb5.size; omega) _)) (ins_one (skipZ x x.i) trivial ⟨by simp, by simp, by simp, by simp, by simp, by simp⟩) (fun _ _ _ h => h) (by simp; omega) (by decide) (by have := hB5.size; simp; omega) ?_; intro p6 c6 w6 hO6 hg6 _))
                  go_roundw
                  case rel => exact ⟨j + 1, ol ++ [skipZ x x.i], by omega, by go_num, by simpa using hO6, by simp; omega, by have := HS2.out; rw [HX.out, relay_cons, lay1_plain HK.out, skip_no HBR.out] at this; rw [skip_no HBR.out, List.append_assoc]; exact this, HI2.out, (hB5.alloc hB5.size _).grown hg6 (by have := hB5.size; simp; omega) (fun q hq => (hP.lt q hq).1)⟩
                  case measure => simp [intOf]; omega
            · obtain ⟨hk1, hk2⟩ := kind_pos hk0
              have HK : Hid _ := hk0
              clear hk0
              by_cases hxi : 0 < x.i
              all_goals
                go_wp2
                go_loopw [9, 10] (fun n i w4 => n = .int .i64 x.i ∧ i = .int .i64 0 ∧ w4 = w2) (fun _ _ _ => 0)
                case atStart => exact ⟨rfl, rfl, rfl⟩
                case round =>
                  obtain ⟨rfl, rfl, rfl⟩ := hrel
                  go_wp2_with fail
                  refine (refKind_any _ _ _ _ _ _ _).mono ?_
                  rintro e w8 ⟨rfl, hb8⟩
                  have hB8 := hB2.trans (hb8.mono hB2.size)
                  obtain ⟨hc8, hf8⟩ := bcell hb8
                  go_wp2_with (at_builtin; refine wpList_app (R := InsE) (A := fun _ => False) (B := fun _ => True) (xs := ol) (ys := [dmb]) (by rfl) (.tmp 81) (.tmp 83) 37 40 i1 z1 48 (by rfl) Tryd.underlying37 L1.out L2.out L4.out L5.out L3.out w1.heap.size (.slice pb ol.length cb) (.slice (some ⟨w8.heap.size, 0, none⟩) 1 1) (by rfl) (by rfl) (hP.keep (hb8.alloc hb8.size _)) (ins_one dmb trivial ⟨by simp [dmb], by simp [dmb], by simp [dmb], by simp [dmb], by simp [dmb], by simp [dmb]⟩) (fun _ _ _ h => h) (by simp; omega) (by decide) (by have := hB8.size; simp; omega) ?_; intro p9 c9 w9 hO9 hg9 _; have hB9 := (hB8.alloc hB8.size (.cells #[.int .i64 11, .int .i64 0, .int .i64 0, .int .i64 0, .int .i64 0, .int .i64 0] 40)).grown hg9 (by have := hB8.size; simp; omega) (fun q hq => (hP.lt q hq).1); obtain ⟨ub2, uo2, he2, f0, f1, f2, f3, f4, f5⟩ := (ins_at (hV.keep hB9)).2 j hjl; simp only [Option.some.injEq, Addr.mk.injEq, and_true] at he2; obtain ⟨rfl, rfl⟩ := he2; rw [HXX.out] at f0 f1 f2 f3 f4 f5)
                  refine (skips_any x _ _).mono ?_
                  rintro e w5 ⟨rfl, hb5⟩
                  have hB5 := hB9.trans (hb5.mono hB9.size)
                  have hO9' : Own (fun _ => False) InsE w9 w1.heap.size 40 (.slice p9 (ol.length + 1) c9) (ol ++ [dmb]) := by simpa using hO9
                  go_wp2_with (at_builtin; refine wpList_app (R := InsE) (A := fun _ => False) (B := fun _ => True) (xs := ol ++ [dmb]) (ys := [skipZ x x.i]) (by rfl) (.tmp 85) (.tmp 92) 37 40 i1 z1 48 (by rfl) Tryd.underlying37 L1.out L2.out L4.out L5.out L3.out w1.heap.size (.slice p9 (ol.length + 1) c9) (.slice (some ⟨w5.heap.size, 0, none⟩) 1 1) (by rfl) (by rfl) (hO9'.keep (hb5.alloc hb5.size _)) (ins_one (skipZ x x.i) trivial ⟨by simp, by simp, by simp, by simp, by simp, by simp⟩) (fun _ _ _ h => h) (by simp; omega) (by decide) (by have := hB5.size; simp; omega) ?_; intro p6 c6 w6 hO6 hg6 _)
                  go_roundw
                  case rel => exact ⟨j + 1, ol ++ [dmb] ++ [skipZ x x.i], by omega, by go_num, by simpa using hO6, by simp; omega, by have := HS2.out; rw [HX.out, relay_cons, lay1_mem HK.out] at this; rw [skip_no HBR.out, List.append_assoc, List.append_assoc]; exact this, HI2.out, (hB5.alloc hB5.size _).grown hg6 (by have := hB5.size; simp; omega) (fun q hq => (hO9'.lt q hq).1)⟩
                  case measure => simp [intOf]; omega
          · obtain ⟨m, hm⟩ : ∃ m : Nat, x.i = m := ⟨x.i.toNat, by have := hI3 hbr; omega⟩
            have hm1 := hI3 hbr
            rw [hm, List.length_drop] at hm1
            have HM : Hid _ := hm
            rw [hm] at e5
            clear hm hI3
            have b14 : (x.op == 13) = true ∨ ((x.op == 13) = false ∧ (x.op == 14) = true) := by
              unfold brB at hbr
              cases h : (x.op == 13)
              · rw [h] at hbr; exact .inr ⟨rfl, by simpa using hbr⟩
              · exact .inl rfl
            have HK : Hid _ := (fn_br hbr).2
            have HBR : Hid _ := hbr
            clear hbr
            rcases b14 with b13 | ⟨b13, b14⟩
            all_goals
              go_wp2
              go_loopw [9, 10] (fun n i w4 => ∃ q : Nat, q ≤ m ∧ i = .int .i64 q ∧ n = .int .i64 ((m : Int) - q + laid lay1 ((l.drop (j + 1)).take q)) ∧ Below w2.heap.size w2 w4) (fun _ i _ => m - (intOf i).toNat)
              case atStart => exact ⟨0, Nat.zero_le _, rfl, by simp [laid], by go_grown⟩
              case round =>
                obtain ⟨q, hq, rfl, rfl, hB4⟩ := hrel
                have hB4' := hB2.trans (hB4.mono hB2.size)
                obtain ⟨w4, rfl⟩ : ∃ x : World, x = wr := ⟨_, rfl⟩
                have f0 := cell_keep e0 hB4
                have f1 := cell_keep e1 hB4
                have f2 := cell_keep e2 hB4
                have f3 := cell_keep e3 hB4
                have f4 := cell_keep e4 hB4
                have f5 := cell_keep e5 hB4
                have hn1 := laid_nonneg (lay := lay1) (xs := (l.drop (j + 1)).take q)
                have hn2 := laid_le lay1_len ((l.drop (j + 1)).take q)
                rw [List.length_take, List.length_drop] at hn2
                by_cases hqm : q < m
                · obtain ⟨ub2, uo2, he2, g0, g1, g2, g3, g4, g5⟩ := (ins_at (hV.keep hB4')).2 (j + 1 + q) (by omega)
                  simp only [Option.some.injEq, Addr.mk.injEq, and_true] at he2
                  obtain ⟨rfl, rfl⟩ := he2
                  have hst := laid1_step (l := l) (k := j + 1) (j := q) (by omega) rfl
                  generalize hy : l[j + 1 + q] = y at g0 g1 g2 g3 g4 g5 hst
                  have HST : Hid _ := hst
                  clear hy hst
                  generalize hnn : laid lay1 ((l.drop (j + 1)).take q) = nn at hn1 hn2
                  have HNN : Hid _ := hnn
                  clear hnn
                  by_cases hyk : kindZ y.op = 0
                  · have HYF : Hid _ := hyk
                    clear hyk
                    go_wp2_with (go_at_call 21; refine (refKind_any _ _ _ _ _ _ _).mono ?_; rintro e w7 ⟨rfl, hb7⟩; rw [HYF.out])
                    go_roundw
                    case rel => exact ⟨q + 1, by omega, by go_num, by rw [HST.out, HNN.out, if_pos HYF.out]; congr 1; omega, hB4.trans (hb7.mono hB4.size)⟩
                    case measure => simp [intOf]; omega
                  · obtain ⟨hy1, hy2⟩ := kind_pos hyk
                    have HYF : Hid _ := hyk
                    clear hyk
                    go_wp2_with (go_at_call 21; refine (refKind_any _ _ _ _ _ _ _).mono ?_; rintro e w7 ⟨rfl, hb7⟩)
                    go_roundw
                    case rel => exact ⟨q + 1, by omega, by go_num, by rw [HST.out, HNN.out, if_neg HYF.out]; congr 1; omega, hB4.trans (hb7.mono hB4.size)⟩
                    case measure => simp [intOf]; omega
                · have hqe : q = m := by omega
                  subst hqe
                  rw [show (q : Int) - q + laid lay1 ((l.drop (j + 1)).take q) = laid lay1 ((l.drop (j + 1)).take q) by omega]
                  generalize hnn : laid lay1 ((l.drop (j + 1)).take q) = nn at hn1 hn2
                  have HNN : Hid _ := hnn
                  clear hnn
                  go_wp2_with fail
                  refine (refKind_any _ _ _ _ _ _ _).mono ?_
                  rintro e w8 ⟨rfl, hb8⟩
                  rw [HK.out]
                  have hB8 := hB4'.trans (hb8.mono hB4'.size)
                  obtain ⟨hc8, hf8⟩ := bcell hb8
                  have hz4 : ub < w4.heap.size := cell_lt f0
                  go_wp2_with fail
                  refine (skips_any { x with i := q } _ _).mono ?_
                  rintro e w5 ⟨rfl, hb5⟩
                  have hB5 := hB8.trans (hb5.mono hB8.size)
                  have hk5 : Below w2.heap.size w2 w5 := (hB4.trans (hb8.mono hB4.size)).trans (hb5.mono (hB4.trans (hb8.mono hB4.size)).size)
                  go_wp2_with (at_builtin; refine wpList_app (R := InsE) (A := fun _ => False) (B := fun _ => True) (xs := ol) (ys := [skipZ { x with i := q } nn]) (by rfl) (.tmp 85) (.tmp 92) 37 40 i1 z1 48 (by rfl) Tryd.underlying37 L1.out L2.out L4.out L5.out L3.out w1.heap.size (.slice pb ol.length cb) (.slice (some ⟨w5.heap.size, 0, none⟩) 1 1) (by rfl) (by rfl) (hP.keep (hk5.alloc hk5.size _)) (ins_one (skipZ { x with i := q } nn) trivial ⟨by simp, by simp, by simp, by simp, by simp, by simp⟩) (fun _ _ _ h => h) (by simp; omega) (by decide) (by have := hB5.size; simp; omega) ?_; intro p6 c6 w6 hO6 hg6 _)
                  go_roundw
                  case rel => exact ⟨j + 1, ol ++ [skipZ { x with i := q } nn], by omega, by go_num, by simpa using hO6, by simp; omega, by
                    have := HS2.out
                    rw [HX.out, relay_cons, lay1_plain HK.out, HM.out, Int.toNat_natCast, HNN.out, skip_yes HBR.out] at this
                    rw [skip_yes (by exact HBR.out), List.append_assoc]
                    exact this, HI2.out, (hB5.alloc hB5.size _).grown hg6 (by have := hB5.size; simp; omega) (fun q hq => (hP.lt q hq).1)⟩
                  case measure => simp [intOf]; omega
        · have e : ol = relay lay1 l := by have := HS2.out; rw [List.drop_of_length_le (by omega)] at this; simpa [relay] using this
          generalize hRL : relay lay1 l = rl at e
          have HRL : Hid _ := hRL
          clear hRL
          subst e
          have hcu := (hBu.keep hB2).cell 1
          have hcr := (hBu.keep hB2).frozen 1
          simp at hcu hcr
          have hown := fun q (hq : (Value.slice pa out.length ca).ownBlock = some q) => (hO.lt q hq)
          have hOl : out.length ≤ 1000000 := by have := HLen.out; omega
          have hsrc : SlA (fun b => w1.heap.size ≤ b) ThrE (w2.alloc (.cells #[.slice pb ol.length cb] 37)) (.slice (some ⟨w2.heap.size, 0, none⟩) 1 1) [ol] :=
            sl_one hB2.size (by simp) (hP.sl'.keep ((Below.refl _ _).alloc (Nat.le_refl _) _)) (Nat.le_refl _)
          have hB5 := hB2.alloc hB2.size (.cells #[.slice pb ol.length cb] 37)
          go_wp2_with (at_builtin; refine wpList_app (R := ThrE) (A := fun b => n0 + 2 ≤ b) (xs := out) (ys := [ol]) (by rfl) (.tmp 95) (.tmp 97) 23 37 i0 z0 24 (by rfl) Tryd.underlying23 J1.out J2.out J4.out J5.out J3.out (n0 + 2) (.slice pa out.length ca) (.slice (some ⟨w2.heap.size, 0, none⟩) 1 1) (by rfl) (by rfl) (hO.keep hB5) hsrc (fun y _ c hc => ThrE.mono (fun b hb => ⟨by omega, fun e => by have := hown b e.symm; omega⟩) hc) (by simp; omega) (by decide) (by have := hB5.size; omega) ?_; intro p6 c6 w6 hO6 hg6 hat6; have hB6u : Blk w6 (n0 + 1) #[.slice pi xs.length ci, .slice pa out.length ca] 25 := (hBu.keep hB5).grown hg6 (fun e => by have := hown _ e.symm; omega); have hu61 := hB6u.cell 1; have hu6r := hB6u.frozen 1; simp at hu61 hu6r)
          have hB6r : Blk w6 (w.heap.size + 1) #[.slice none 0 0, .slice none 0 0] 25 := (hBr.keep hB5).grown hg6 (fun e => by have := hown _ e.symm; omega)
          have hB6t : Blk w6 n0 #[.slice pi xs.length ci, .slice (some ⟨tb, to, none⟩) us.length dt] 25 := (hBt.keep hB5).grown hg6 (fun e => by have := hown _ e.symm; omega)
          go_roundw
          case rel => exact ⟨k + 1, .slice p6 (out ++ [ol]).length c6, out ++ [ol], by omega, by go_num, hB6t.grown (grownBy_set _ _ _) (by simp), hB6r.grown (grownBy_set _ _ _) (by simp; omega), by simpa using hB6u.set (i := 1) (.slice p6 (out ++ [ol]).length c6),
            by simpa using hO6.agree (grownBy_set _ ⟨n0 + 1, 1, none⟩ (.slice p6 (out ++ [ol]).length c6)) (fun q hq => by simp at hq; subst hq; exact ⟨by omega, fun e => by have := (hO6.lt _ e).1; omega⟩), by rw [HL.out] at HS; rw [List.append_assoc, ← HRL.out]; exact HS.out, by simp [HLen.out],
            ((hB.trans (hB5.mono (by omega))).grown hg6 (by have := hB5.size; omega) (fun q hq => by have := (hown q hq).1; omega)).setCell (by simp) _⟩
          case measure => simp [intOf]; omega
    · have hr0 := hBr.cell 0
      have hr1 := hBr.cell 1
      have hrf0 := hBr.frozen 0
      have hrf1 := hBr.frozen 1
      have hrl := hBr.lt
      simp at hu0 hu1 hr0 hr1 ht0 ht1
      have e : out = us.map (relay lay1) := by have := HS.out; rw [List.drop_of_length_le (by omega)] at this; simpa using this
      have HE : Hid _ := e
      clear e
      go_wp2
      have hBf := ((hBw.setCell (p := ⟨w.heap.size + 1, 0, none⟩) (by simp) (.slice pi xs.length ci)).setCell (p := ⟨w.heap.size + 1, 1, none⟩) (by simp) (.slice pa out.length ca))
      have g1 := grownBy_set wr ⟨w.heap.size + 1, 0, none⟩ (.slice pi xs.length ci)
      have g2 := grownBy_set (wr.setCell ⟨w.heap.size + 1, 0, none⟩ (.slice pi xs.length ci)) ⟨w.heap.size + 1, 1, none⟩ (.slice pa out.length ca)
      have hOf := (hO.agree g1 (fun q hq => by simp at hq; subst hq; exact ⟨by omega, fun e => by have := (hO.lt _ e).1; omega⟩))
      have hOg := (hOf.agree g2 (fun q hq => by simp at hq; subst hq; exact ⟨by omega, fun e => by have := (hO.lt _ e).1; omega⟩))
      have hOs := SlA.mono (B := fun b => w.heap.size ≤ b) (fun b hb => by rcases hb with hb | hb <;> omega) hOg.sl
      have hBb := (hBr.set (i := 0) (.slice pi xs.length ci)).set (i := 1) (.slice pa out.length ca)
      have hb0 := hBb.cell 0
      have hb1 := hBb.cell 1
      simp at hb0 hb1
      clear hr0 hr1 hu0 hu1
      generalize hwf : (wr.setCell ⟨w.heap.size + 1, 0, none⟩ (.slice pi xs.length ci)).setCell ⟨w.heap.size + 1, 1, none⟩ (.slice pa out.length ca) = wf at *
      have hel : out.length = (us.map (relay lay1)).length := by rw [HE.out]
      rw [HE.out] at hOs
      exact bodyPost_ret (v := .agg #[.slice pi xs.length ci, .slice pa out.length ca]) (by simp [results, Tryd.results19, go_sem, hb0, hb1]) rfl ⟨pa, ca, by rw [hel], hOs, hBf⟩
end Go.Proofs.YtpmecgagbjphdaaDoor
