/- Contract of source.begin. -/
import Derived.Test.YtgffeihfcmbobaaSrcRep
namespace Go.Proofs.Ytgffeihfcmbobaa
open Go.RowKit
attribute [local go_sem] Ext.cell Ext.frozen

theorem rep_rowZ {w : World} {g n : Nat} {y : Int} (h : Blk w g (repV y n n).toArray 3) : RowZ w g (List.replicate n y) := by
  unfold RowZ
  have e : (List.replicate n y).map (Value.int .i64) = repV y n n := by simp [repV]
  rw [e]
  exact h

set_option maxRecDepth 20000 in
set_option maxHeartbeats 8000000 in
theorem begin_any (v : Value) (r : Nat → Value) (q pi : Option Addr) (c ci : Nat) (l : List Ev) (init : List Int) (w : World) (hv : v = .slice q l.length c) (hl : Sl EvE w (.slice q l.length c) l) (hi : Sl IntE w (.slice pi init.length ci) init) (hn : l.length ≤ 1000) :
    Calls Try.prog 26 #[exV v r, .slice pi init.length ci] w fun e w' => Below w.heap.size w w' ∧
      ((∃ g u, e = .returned (.tuple #[.slice (some ⟨g, 0, none⟩) l.length l.length, u, .bool true]) ∧ w.heap.size ≤ g ∧ RowZ w' g (headsL (choZ l init)) ∧ SlA (fun b => g < b) ChoE w' u (opensZ (choZ l init) 0) ∧ (∀ c ∈ choZ l init, 0 < c.length) ∧ prodN (choZ l init) ≤ 20000) ∨
       (e = .returned (.tuple #[.slice none 0 0, .slice none 0 0, .bool false]) ∧ srcZ l init = [])) := by
  obtain ⟨w1, hw1⟩ : ∃ w1, w.alloc (.cells #[.slice q l.length c, r 1, r 2, r 3, r 4, r 5, r 6] 30) = w1 := ⟨_, rfl⟩
  have k1 : Blk w1 w.heap.size #[.slice q l.length c, r 1, r 2, r 3, r 4, r 5, r 6] 30 := by rw [← hw1]; exact Blk.new
  have b1 : Below w.heap.size w w1 := by rw [← hw1]; exact below_new _ _
  have b2 := below_new w1 (.cells #[.int .i64 (-2)] 3)
  have kN : Blk (w1.alloc (.cells #[.int .i64 (-2)] 3)) w1.heap.size #[.int .i64 (-2)] 3 := Blk.new
  have hRp := Repeat_any (-2) w1.heap.size l.length _ kN hn
  have k2 := k1.keep b2
  have B2 : Below w.heap.size w _ := Below.thru b1 b2 (Nat.le_refl _)
  have c0 := (ex_cells k2).1
  generalize hw2 : w1.alloc (.cells #[.int .i64 (-2)] 3) = w2 at *
  have HRP : Hid (Calls _ _ _ _ _) := hRp
  clear hRp kN
  unfold exV at *
  subst hv
  have lc := k2.lt
  have F1 := trivial
  go_enter Try.func26, Try.ntmps26
  go_wp2_with (go_at_call 37; clear F1; refine HRP.out.mono ?_; rintro e w3 ⟨g, rfl, hG, hge, hb3⟩; have k3 := k2.keep hb3; have c3 := (ex_cells k3).1; have l3 := k3.lt; have F2 := trivial)
  have Hg0 : RowZ w3 g (wayZ l init 0) := by rw [wayZ_zero]; exact rep_rowZ hG
  have hgw := Hg0.lt
  have hsg : w.heap.size ≤ g := Nat.le_trans B2.size hge
  have hxg : w.heap.size < w2.heap.size := k2.lt
  clear hG HRP k1 b1 b2 hw1 lc c0 c3 l3
  obtain ⟨i0, z0, j1, j2, j3, j4, j5⟩ := cl_get (show ((Try.prog.info? 68).map fun i => (i.zero.map (·.cells.size), i.size, i.bytes)) = some (some 2, 2, 32) by kernel_rfl)
  have J1 : Hid _ := j1
  have J2 : Hid _ := j2
  have J3 : Hid _ := j3
  have J4 : Hid _ := j4
  have J5 : Hid _ := j5
  clear j1 j2 j3 j4 j5
  go_loopw [4, 5, 7, 19] (fun y o m i wr => ∃ k : Nat, k ≤ l.length ∧ y = .slice (some ⟨g, 0, none⟩) l.length l.length ∧ i = .int .i64 k ∧ m = .int .i64 (prodN ((choZ l init).take k) : Nat) ∧ 0 < prodN ((choZ l init).take k) ∧ prodN ((choZ l init).take k) ≤ 20000 ∧ RowZ wr g (wayZ l init k) ∧ Own (fun b => g < b) ChoE wr (g + 1) 68 o (opensZ ((choZ l init).take k) 0) ∧ Below w2.heap.size w2 wr) (fun _ _ _ i _ => l.length - (Go.RowKit.intOf i).toNat)
  case atStart => exact ⟨0, Nat.zero_le _, rfl, rfl, rfl, Nat.one_pos, by rw [List.take_zero]; decide, Hg0, Own.nil, hb3⟩
  case round =>
    obtain ⟨k, hk, rfl, rfl, rfl, hp0, hp1, hG, hO, hbr⟩ := hrel
    have Br : Below w.heap.size w wr := Below.thru B2 hbr (Nat.le_refl _)
    have k4 := k2.keep hbr
    obtain ⟨c0, c1, c2, c3, c4, c5, c6⟩ := ex_cells k4
    have l4 := k4.lt
    have hgr := hG.lt
    have hol := opensZ_len ((choZ l init).take k) 0
    rw [List.length_take, choZ_len] at hol
    by_cases hlt : k < l.length
    · have hlt' : (k : Int) < (l.length : Int) := by omega
      have hnx := prodN_next (choZ_at (init := init) (List.getElem?_eq_getElem hlt))
      have hox := opensZ_next (choZ_at (init := init) (List.getElem?_eq_getElem hlt))
      have hwx := wayZ_next (init := init) (List.getElem?_eq_getElem hlt)
      have hws := wayZ_skip (init := init) (List.getElem?_eq_getElem hlt)
      have hml := mayE_len l init l[k]
      have hmz := mayZ_at (init := init) (List.getElem?_eq_getElem hlt)
      obtain ⟨eb, eo, rfl, g0, g1, g2, g3, g4, g5, g6⟩ := (ev_at (hl.keep Br)).2 k hlt
      have hMay := fun W (hB : Below w.heap.size w W) => May_any (.slice (some ⟨eb, eo, none⟩) l.length c) r (some ⟨eb, eo, none⟩) pi c ci l init (k : Int) W rfl (hl.keep hB) (hi.keep hB) hn
      rw [hmz] at hMay
      unfold exV at hMay
      generalize l[k] = x at *
      have lg := cell_lt g0
      by_cases hx : x.kd = 1
      · have hx1 : (x.kd == 1) = true := by simp [hx]
        have hx2 : (x.kd != 1) = false := by simp [hx]
        have hce : choE l init x = mayE l init x := by unfold choE; rw [if_pos hx1]
        rw [if_pos hx1] at hMay
        rw [hce] at hnx hox hwx
        clear hx hws hce
        generalize mayE l init x = may at *
        obtain ⟨M, hM⟩ : ∃ M, prodN ((choZ l init).take k) * may.length = M := ⟨_, rfl⟩
        generalize hF : prodN ((choZ l init).take k) = F at *
        have hMI : (F : Int) * (may.length : Int) = (M : Int) := by rw [← hM]; simp
        have hMb : M ≤ 20020000 := by
          have h1 : F * may.length ≤ 20000 * 1001 := Nat.mul_le_mul hp1 (by omega)
          omega
        rw [hM] at hnx
        have HNX : Hid _ := hnx
        have HOX : Hid _ := hox
        have HWX : Hid _ := hwx
        have HMAY : Hid _ := hMay
        have HM : Hid _ := hM
        have hOl : (opensZ ((choZ l init).take k) 0).length ≤ 1000 := by omega
        generalize opensZ ((choZ l init).take k) 0 = O at *
        obtain ⟨po, co, rfl⟩ := hO.len
        clear hnx hox hwx hMay hM hF hmz hol
        by_cases hm0 : M = 0
        · have hm0' : ((M : Int) == 0) = true := by simp [hm0]
          have F1 := trivial
          go_wp2_with (first
            | (clear F1; refine wpList_toldE (w := wr) (by rfl) (.tmp 9) (.tmp 23) (by rfl) x (by rfl) (by rfl) ?_; intro w5 kE b5; simp only [Act.put]; obtain ⟨s0, s1, s2, s3, s4, s5, s6⟩ := ev_cells kE; have lE := kE.lt; have q0 := cell_keep c0 b5; have q1 := cell_keep c1 b5; have q2 := cell_keep c2 b5; have q3 := cell_keep c3 b5; have q4 := cell_keep c4 b5; have q5 := cell_keep c5 b5; have q6 := cell_keep c6 b5; have lq := cell_lt q0; have B5 := Below.thru Br b5 (Nat.le_refl _); have hz5 := b5.size; have F2 := trivial)
            | (go_at_call 13; clear F2; refine (HMAY.out _ B5).mono ?_; rintro e w6 ⟨vm, rfl, hV, hb6⟩; obtain ⟨pm, cm, rfl⟩ := hV.len; have b46 := Below.thru b5 hb6 (Nat.le_refl _); have B6 := Below.thru Br b46 (Nat.le_refl _); have F3 := trivial))
          go_ret3
          exact ⟨B6, .inr ⟨rfl, src_zero (HNX.out.trans hm0)⟩⟩
        · have hm0' : ((M : Int) == 0) = false := by simp [hm0]
          by_cases hm2 : 20000 < M
          · have hm2' : decide ((20000 : Int) < (M : Int)) = true := decide_eq_true (by omega)
            have F1 := trivial
            go_wp2_with (first
              | (clear F1; refine wpList_toldE (w := wr) (by rfl) (.tmp 9) (.tmp 23) (by rfl) x (by rfl) (by rfl) ?_; intro w5 kE b5; simp only [Act.put]; obtain ⟨s0, s1, s2, s3, s4, s5, s6⟩ := ev_cells kE; have lE := kE.lt; have q0 := cell_keep c0 b5; have q1 := cell_keep c1 b5; have q2 := cell_keep c2 b5; have q3 := cell_keep c3 b5; have q4 := cell_keep c4 b5; have q5 := cell_keep c5 b5; have q6 := cell_keep c6 b5; have lq := cell_lt q0; have B5 := Below.thru Br b5 (Nat.le_refl _); have hz5 := b5.size; have F2 := trivial)
              | (go_at_call 13; clear F2; refine (HMAY.out _ B5).mono ?_; rintro e w6 ⟨vm, rfl, hV, hb6⟩; obtain ⟨pm, cm, rfl⟩ := hV.len; have b46 := Below.thru b5 hb6 (Nat.le_refl _); have B6 := Below.thru Br b46 (Nat.le_refl _); have F3 := trivial))
            go_ret3
            exact ⟨B6, .inr ⟨rfl, srcZ_many (by rw [HNX.out]; exact hm2)⟩⟩
          · have hm2' : decide ((20000 : Int) < (M : Int)) = false := decide_eq_false (by omega)
            have hml0 : 0 < may.length := by
              rcases Nat.eq_zero_or_pos may.length with h | h
              · have h1 := HM.out
                rw [h, Nat.mul_zero] at h1
                omega
              · exact h
            obtain ⟨y, hy0⟩ : ∃ y, may.headD 0 = y := ⟨_, rfl⟩
            have hy : may[0] = y := by
              rw [← hy0]
              cases may with
              | nil => simp at hml0
              | cons a b => rfl
            rw [hy0] at HWX
            clear hy0
            by_cases h1 : 1 < may.length
            · have h1' : decide ((1 : Int) < (may.length : Int)) = true := decide_eq_true (by omega)
              have hOo := fun b hb => (hO.lt b hb).2
              have F1 := trivial
              go_wp2_with (first
                | (clear F1; refine wpList_toldE (w := wr) (by rfl) (.tmp 9) (.tmp 23) (by rfl) x (by rfl) (by rfl) ?_; intro w5 kE b5; simp only [Act.put]; obtain ⟨s0, s1, s2, s3, s4, s5, s6⟩ := ev_cells kE; have lE := kE.lt; have q0 := cell_keep c0 b5; have q1 := cell_keep c1 b5; have q2 := cell_keep c2 b5; have q3 := cell_keep c3 b5; have q4 := cell_keep c4 b5; have q5 := cell_keep c5 b5; have q6 := cell_keep c6 b5; have lq := cell_lt q0; have B5 := Below.thru Br b5 (Nat.le_refl _); have hz5 := b5.size; have F2 := trivial)
                | (go_at_call 13; clear F2; refine (HMAY.out _ B5).mono ?_; rintro e w6 ⟨vm, rfl, hV, hb6⟩; obtain ⟨pm, cm, rfl⟩ := hV.len; have b46 := Below.thru b5 hb6 (Nat.le_refl _); have B6 := Below.thru Br b46 (Nat.le_refl _); obtain ⟨mb, mo, rfl, hmc⟩ := (ints_at hV).2 0 hml0; rw [Nat.add_zero, hy] at hmc; have lmc := cell_lt hmc; have hG6 := hG.keep b46; have hgc := hG6.cell (i := k) (by rw [wayZ_len l init (by omega)]; exact hlt); have hgf := hG6.frozen k; have hgl := hG6.lt; have hO6 := hO.keep b46; have hz6 := b46.size; have hz56 := hb6.size; have F3 := trivial)
                | (at_builtin; clear F3; have e7 : (w6.setCell ⟨g, k, none⟩ (.int .i64 y)).heap.size = w6.heap.size := (by simp); have hG7 := hG6.set k y; have oS := setCell_only w6 g k (.int .i64 y); have hO7 := hO6.only oS (fun b hb e => by have := (hO6.lt b hb).1; omega) (fun b hb e => by omega); have hV7 := SlA.agree (A := fun b => w5.heap.size ≤ b) hV (oS.agree (fun b hb e => by omega)); have B7 := oS.below (n := w2.heap.size) (by have := hbr.size; omega) (fun b hb => by rw [hb]; exact hge); have hz7 := oS.size; have hzr := hbr.size; have B17 : Below w2.heap.size w2 (w6.setCell ⟨g, k, none⟩ (.int .i64 y)) := (hbr.trans (b46.mono hbr.size)).trans B7; generalize w6.setCell ⟨g, k, none⟩ (.int .i64 y) = w7 at *; have b8 := below_new w7 (.cells #[.int .i64 (k : Int), .slice (some ⟨mb, mo, none⟩) may.length cm] 68); have kN : Blk (w7.alloc (.cells #[.int .i64 (k : Int), .slice (some ⟨mb, mo, none⟩) may.length cm] 68)) w6.heap.size #[.int .i64 (k : Int), .slice (some ⟨mb, mo, none⟩) may.length cm] 68 := Blk.newAt e7; have hO8 := hO7.keep b8; have hG8 := hG7.keep b8; have hz8 := b8.size; refine wpList_app (R := ChoE) (A := fun b => g < b) (B := fun b => w5.heap.size ≤ b) (xs := O) (ys := [(k, may)]) (by rfl) (.tmp 50) (.tmp 54) 62 68 i0 z0 32 (by rfl) Try.underlying62 J1.out J2.out J4.out J5.out J3.out (g + 1) (.slice po O.length co) (.slice (some ⟨w6.heap.size, 0, none⟩) 1 1) (by rfl) (by rfl) hO8 (sl_single (by omega) ⟨_, rfl, hV7.keep b8⟩ (fun j u hj => (kN.cell j).trans (by simpa using hj)) (Nat.le_refl _)) (fun _ _ _ h => ChoE.mono (fun b hb => ⟨by omega, fun e => by have h2 := hOo b e.symm; omega⟩) h) (by simp only [List.length_cons, List.length_nil]; omega) (by decide) (by omega) ?_; intro p9 c9 w9 hO9 hg9 hv9; have F4 := trivial))
              have B9 : Below w2.heap.size w2 w9 := (B17.trans (b8.mono (by omega))).grown hg9 (by omega) (fun b hb => by have := (hO8.lt b hb).1; omega)
              have hG9 : RowZ w9 g ((wayZ l init k).set k y) := hG8.grown hg9 (fun e => by have := (hO8.lt g e.symm).1; omega)
              go_roundw
              case rel => exact ⟨k + 1, by omega, rfl, by go_num, by rw [HNX.out], by rw [HNX.out]; omega, by rw [HNX.out]; omega, by rw [HWX.out]; exact hG9, by rw [HOX.out, if_pos h1]; rw [show (O ++ [(k, may)]).length = O.length + 1 by simp] at hO9; exact hO9, B9⟩
              case measure => simp [Go.RowKit.intOf]; omega
            · have h1' : decide ((1 : Int) < (may.length : Int)) = false := decide_eq_false (by omega)
              have F1 := trivial
              go_wp2_with (first
                | (clear F1; refine wpList_toldE (w := wr) (by rfl) (.tmp 9) (.tmp 23) (by rfl) x (by rfl) (by rfl) ?_; intro w5 kE b5; simp only [Act.put]; obtain ⟨s0, s1, s2, s3, s4, s5, s6⟩ := ev_cells kE; have lE := kE.lt; have q0 := cell_keep c0 b5; have q1 := cell_keep c1 b5; have q2 := cell_keep c2 b5; have q3 := cell_keep c3 b5; have q4 := cell_keep c4 b5; have q5 := cell_keep c5 b5; have q6 := cell_keep c6 b5; have lq := cell_lt q0; have B5 := Below.thru Br b5 (Nat.le_refl _); have hz5 := b5.size; have F2 := trivial)
                | (go_at_call 13; clear F2; refine (HMAY.out _ B5).mono ?_; rintro e w6 ⟨vm, rfl, hV, hb6⟩; obtain ⟨pm, cm, rfl⟩ := hV.len; have b46 := Below.thru b5 hb6 (Nat.le_refl _); have B6 := Below.thru Br b46 (Nat.le_refl _); obtain ⟨mb, mo, rfl, hmc⟩ := (ints_at hV).2 0 hml0; rw [Nat.add_zero, hy] at hmc; have lmc := cell_lt hmc; have hG6 := hG.keep b46; have hgc := hG6.cell (i := k) (by rw [wayZ_len l init (by omega)]; exact hlt); have hgf := hG6.frozen k; have hgl := hG6.lt; have hO6 := hO.keep b46; have hz6 := b46.size; have hz56 := hb6.size; have F3 := trivial))
              have hG7 := hG6.set k y
              have oS := setCell_only w6 g k (.int .i64 y)
              have hO7 := hO6.only oS (fun b hb e => by have := (hO6.lt b hb).1; omega) (fun b hb e => by omega)
              have B7 : Below w2.heap.size w2 (w6.setCell ⟨g, k, none⟩ (.int .i64 y)) := (hbr.trans (b46.mono hbr.size)).trans (oS.below (by have := hbr.size; omega) (fun b hb => by rw [hb]; exact hge))
              go_roundw
              case rel => exact ⟨k + 1, by omega, rfl, by go_num, by rw [HNX.out], by rw [HNX.out]; omega, by rw [HNX.out]; omega, by rw [HWX.out]; exact hG7, by rw [HOX.out, if_neg h1, List.append_nil]; exact hO7, B7⟩
              case measure => simp [Go.RowKit.intOf]; omega
      · have hx1 : (x.kd == 1) = false := by simp [hx]
        have hx2 : (x.kd != 1) = true := by simp [hx]
        have hce : choE l init x = [-2] := by unfold choE; rw [if_neg (by simp [hx])]
        rw [hce] at hnx hox
        rw [← hws hx] at hG
        have HNX : Hid _ := hnx
        have HOX : Hid _ := hox
        clear hx hws hce hwx hmz hMay hnx hox
        go_wp2_with (refine wpList_toldE (w := wr) (by rfl) (.tmp 9) (.tmp 23) (by rfl) x (by rfl) (by rfl) ?_; intro w5 kE b5; simp only [Act.put]; obtain ⟨s0, s1, s2, s3, s4, s5, s6⟩ := ev_cells kE; have lE := kE.lt)
        go_roundw
        case rel => exact ⟨k + 1, by omega, rfl, by go_num, by rw [HNX.out]; simp, by rw [HNX.out]; simpa using hp0, by rw [HNX.out]; simpa using hp1, hG.keep b5, by rw [HOX.out]; simpa using hO.keep b5, hbr.trans (b5.mono hbr.size)⟩
        case measure => simp [Go.RowKit.intOf]; omega
    · have hlt' : ¬ (k : Int) < (l.length : Int) := by omega
      have e : k = l.length := by omega
      subst e
      rw [wayZ_all] at hG
      have ec : (choZ l init).take l.length = choZ l init := by rw [← choZ_len l init, List.take_length]
      rw [ec] at hp0 hp1 hO
      rw [ec]
      obtain ⟨po, co, rfl⟩ := hO.len
      go_wp2
      go_ret3
      clear hl hi
      have hS : SlA (fun b => g < b) ChoE wr (.slice po (opensZ (choZ l init) 0).length co) (opensZ (choZ l init) 0) := SlA.mono (A := fun b => g + 1 ≤ b ∨ g < b) (fun b hb => by rcases hb with h | h <;> omega) hO.sl
      refine ⟨Br, .inl ⟨g, _, rfl, hsg, hG, hS, prodN_pos hp0⟩⟩
end Go.Proofs.Ytgffeihfcmbobaa
