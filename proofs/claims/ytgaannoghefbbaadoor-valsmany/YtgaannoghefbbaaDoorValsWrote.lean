/- Contract of vals.Wrote. -/
import Derived.Test.YtgaannoghefbbaaDoorValsRise
import Derived.Test.YtgaannoghefbbaaDoorValsTold
namespace Go.Proofs.YtgaannoghefbbaaDoor
open Go.RowKit
attribute [local go_sem] Ext.cell Ext.frozen

theorem wroteP_next {l : List Ev} {k : Nat} {e : Ev} {r : List Ev} (h : l.drop k = e :: r) (a : List Int) : a ++ (((l.drop k).filter fun e => e.kd == 2)).map Ev.vl = (if e.kd = 2 then a ++ [e.vl] else a) ++ ((r.filter fun e => e.kd == 2)).map Ev.vl := by
  rw [h, List.filter_cons]
  by_cases hk : e.kd = 2
  · rw [if_pos (by simpa using hk), if_pos hk, List.map_cons, List.append_assoc]; rfl
  · rw [if_neg (by simpa using hk), if_neg hk]

set_option maxRecDepth 20000 in
set_option maxHeartbeats 4000000 in
theorem Wrote_new (p : Option Addr) (c : Nat) (l : List St) (w : World) (hl : Sl TrE w (.slice p l.length c) l) (hs : ∀ s ∈ l, s.evs.length ≤ 8) (hn : l.length * 8 ≤ 1000000) (hz : ∀ x ∈ wroteT l, InZ x) :
    Calls Tryd.prog 11 #[.slice p l.length c] w fun e w' => ∃ v, e = .returned v ∧ SlA (fun k => w.heap.size ≤ k) IntE w' v (putsN [] (wroteT l)) ∧ Below w.heap.size w w' := by
  have hwl := wroteT_len hs
  have HS : Hid _ := hs
  have HZ : Hid _ := hz
  have HWL : Hid _ := hwl
  clear hs hz hwl
  obtain ⟨ii, j1, j2, j3, j4⟩ := info_i64z
  have J1 : Hid _ := j1
  have J2 : Hid _ := j2
  have J3 : Hid _ := j3
  have J4 : Hid _ := j4
  clear j1 j2 j3 j4
  go_enter Tryd.func11, Tryd.ntmps11
  go_wp2
  go_loopw [3, 10] (fun a i wr => ∃ (k : Nat) (u : List Int), k ≤ l.length ∧ i = .int .i64 k ∧ Own F0 IntE wr w.heap.size 2 a u ∧ u.length ≤ k * 8 ∧ u ++ wroteT (l.drop k) = wroteT l ∧ Below w.heap.size w wr) (fun _ i _ => l.length - (intOf i).toNat)
  case atStart => exact ⟨0, [], Nat.zero_le _, rfl, Own.nil, Nat.zero_le _, rfl, Below.refl _ _⟩
  case round =>
    obtain ⟨k, u, hk, rfl, hO, hul, hF, hbr⟩ := hrel
    have HF : Hid _ := hF
    clear hF
    obtain ⟨po, co, rfl⟩ := hO.len
    by_cases hlt : k < l.length
    · obtain ⟨b, oo, r, rfl, -, hZ0, hA0⟩ := (tr_at hl).2 k hlt
      have h8 := HS.out _ (List.getElem_mem hlt)
      generalize hy : l[k] = y at hZ0 hA0 h8
      have HY : Hid (l.drop k = y :: l.drop (k + 1)) := by rw [← hy]; exact drop_at hlt
      clear hy
      have hZ := hZ0.keep hbr
      obtain ⟨a0, a1, a2, a3, a4, a5, a6, a7, a8, a9, aa, ab, ac, ad, ae, af⟩ := hA0.keep hbr
      have la := cell_lt a0
      obtain ⟨pe, ce, he⟩ := hZ.e0.len
      have hE0 := hZ0.e0
      rw [he] at hE0
      have HE : Hid _ := he
      clear he hA0 hZ0
      have hlt' : (k : Int) < (l.length : Int) := by omega
      have F1 := trivial
      go_wp2_with (clear F1; refine wpList_toldP (w := wr) (by kernel_rfl) (by rfl) (.tmp 5) (.tmp 13) (by rfl) hZ (by rfl) (by rfl) ?_; intro w4 kL B24; simp only [Act.put]; have x0 := kL.rows.1; rw [HE.out] at x0; have lL := kL.lt)
      have B4 := Below.thru hbr B24 (Nat.le_refl _)
      have hO4 := hO.keep B24
      clear hZ a0 a1 a2 a3 a4 a5 a6 a7 a8 a9 aa ab ac ad ae af la kL x0 lL HE
      go_loopw [3, 17] (fun a i wr => ∃ (j : Nat) (v : List Int), j ≤ y.evs.length ∧ i = .int .i64 j ∧ Own F0 IntE wr w.heap.size 2 a v ∧ v.length ≤ u.length + j ∧ v ++ (((y.evs.drop j).filter fun e => e.kd == 2)).map Ev.vl = u ++ wroteS y ∧ Below w.heap.size w wr) (fun _ i _ => y.evs.length - (intOf i).toNat)
      case atStart => exact ⟨0, u, Nat.zero_le _, rfl, hO4, Nat.le_refl _, rfl, B4⟩
      case round =>
        clear hO4 B4 B24 hO hbr
        obtain ⟨j, v, hj, rfl, hV, hvl, hG, hbr⟩ := hrel
        have HG : Hid _ := hG
        clear hG
        obtain ⟨pv, cv, rfl⟩ := hV.len
        by_cases hjl : j < y.evs.length
        · obtain ⟨eb, eo, rfl, g0, g1, g2, g3, g4, g5, g6⟩ := (ev_at (hE0.keep hbr)).2 j hjl
          generalize hx : y.evs[j] = x at g0 g1 g2 g3 g4 g5 g6
          have HX : Hid (y.evs.drop j = x :: y.evs.drop (j + 1)) := by rw [← hx]; exact drop_at hjl
          clear hx
          have lt1 := cell_lt g1
          have hvl6 : v.length ≤ 1000000 := by omega
          have hj6 : j ≤ 100000 := by omega
          obtain ⟨wE, hwE⟩ : ∃ x : World, x = wr := ⟨_, rfl⟩
          by_cases hk2 : x.kd = 2
          · have hkb : (x.kd == 2) = true := by simp [hk2]
            have HK2 : Hid _ := hk2
            clear hk2
            have F2 := trivial
            go_wp2_with (first
              | (clear F2; refine wpList_toldE (w := wr) (by rfl) (.tmp 7) (.tmp 20) (by rfl) x (by rfl) (by rfl) ?_; intro w5 kE b5; simp only [Act.put]; have e1 : w5.cell? ⟨wr.heap.size, 1, none⟩ = some (.int .i64 x.kd) := kE.cell 1; have e3 : w5.cell? ⟨wr.heap.size, 3, none⟩ = some (.int .i64 x.vl) := kE.cell 3; have lE := kE.lt; have F3 := trivial)
              | (at_builtin; clear F3; refine wpList_push (R := IntE) (xs := v) (x := x.vl) (by rfl) (.tmp 24) (.tmp 27) 23 2 ii (.int .i64 0) 8 (by rfl) Tryd.underlying23 J1.out J2.out J3.out J4.out (by rfl) w.heap.size (.slice pv v.length cv) w5.heap.size (by rfl) (by rfl) ((hV.keep b5).keep (below_new _ _)) [.int .i64 x.vl] (fun _ _ => rfl) (fun _ _ _ _ _ h => h) (fun j u hu => by rw [Blk.cell Blk.new]; simpa using hu) hvl6 (by decide) (by have := hbr.size; have := b5.size; simp; omega) ?_; intro pb cb wb hOb hgb _; have bb : Below w.heap.size w wb := ((Below.thru hbr b5 (Nat.le_refl _)).alloc (by have := hbr.size; have := b5.size; omega) _).grown hgb (by have := hbr.size; have := b5.size; simp; omega) (fun k hk => (hV.lt k hk).1); have F4 := trivial))
            go_roundw
            case rel => exact ⟨j + 1, v ++ [x.vl], by omega, by go_num, hOb, by rw [List.length_append, List.length_singleton]; omega, by rw [← HG.out, wroteP_next HX.out, if_pos HK2.out], bb⟩
            case measure => simp [intOf]; omega
          · have hkb : (x.kd == 2) = false := by simp [hk2]
            have HK2 : Hid _ := hk2
            clear hk2
            have F2 := trivial
            go_wp2_with (first
              | (clear F2; refine wpList_toldE (w := wr) (by rfl) (.tmp 7) (.tmp 20) (by rfl) x (by rfl) (by rfl) ?_; intro w5 kE b5; simp only [Act.put]; have e1 : w5.cell? ⟨wr.heap.size, 1, none⟩ = some (.int .i64 x.kd) := kE.cell 1; have lE := kE.lt; have F3 := trivial))
            go_roundw
            case rel => exact ⟨j + 1, v, by omega, by go_num, hV.keep b5, by omega, by rw [← HG.out, wroteP_next HX.out, if_neg HK2.out], Below.thru hbr b5 (Nat.le_refl _)⟩
            case measure => simp [intOf]; omega
        · have e : v = u ++ wroteS y := by have h := HG.out; rw [List.drop_of_length_le (by omega)] at h; simpa using h
          have HE : Hid _ := e
          clear e
          go_wp2
          go_roundw
          case rel => exact ⟨k + 1, v, by omega, by go_num, hV, by omega, by rw [← HF.out, HY.out, HE.out, List.append_assoc]; rfl, hbr⟩
          case measure => simp [intOf]; omega
    · have hlt' : ¬ (k : Int) < (l.length : Int) := by omega
      have e : u = wroteT l := by have h := HF.out; rw [List.drop_of_length_le (by omega)] at h; simpa [wroteT] using h
      have hul6 : u.length ≤ 1000000 := by omega
      have hzu : ∀ x ∈ u, InZ x := by rw [e]; exact HZ.out
      have HE : Hid _ := e
      have HZU : Hid _ := hzu
      clear e hzu
      have hb3 := below_new wr (.cells #[.slice po u.length co] 23)
      have hR : Sl (SlE IntE) (wr.alloc (.cells #[.slice po u.length co] 23)) (.slice (some ⟨wr.heap.size, 0, none⟩) 1 1) [u] := sl_one trivial (by rw [Blk.cell Blk.new]; rfl) (hO.sl.any.keep hb3) (Nat.le_refl _)
      go_wp2_with (go_at_call 22; refine (rising_one _ _ u _ hR HZU.out hul6).mono ?_; rintro e w3 ⟨v, rfl, hV, hb4⟩)
      go_ret
      refine ⟨v, rfl, ?_, Below.thru hbr (Below.thru hb3 hb4 (Nat.le_refl _)) (Nat.le_refl _)⟩
      rw [← HE.out]
      exact hV.mono (fun q hq => by have := hbr.size; simp at hq; omega)
end Go.Proofs.YtgaannoghefbbaaDoor
