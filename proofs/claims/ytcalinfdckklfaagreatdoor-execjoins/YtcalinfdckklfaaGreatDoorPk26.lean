/- ValsWrote: ValsSort, ValsRise, ValsWrote, in one text. -/
import Derived.Test.YtcalinfdckklfaaGreatDoorPk25
import Derived.Test.YtcalinfdckklfaaGreatDoorPk12
import Derived.Shelf.SortM.Plain
import Derived.Shelf.SortM.SortNone
namespace Go.Proofs.YtcalinfdckklfaaGreatDoor
open Go.RowKit Go.Maps Go.Sort Go.Shelf

theorem sorts64 (m : Nat) : AnyZI.SortsIn Tryz.prog Tryz.sortedA_ren Fence.wide m :=
  ⟨fun blk off cap ss W hH hblk hsz => callsIn_wide.2 (AnyM.slices_Sort_int Tryz.sortA blk off cap ss W hH hblk hsz),
   fun p cap W => callsIn_wide.2 (AnyM.slices_Sort_int_none Tryz.sortA p cap W)⟩

theorem Keys_any (mb : Option Nat) (w : World) : Calls Tryz.prog 82 #[.map mb] w fun e w' =>
    e = .returned (.func (.func 92) #[] #[.pointer (some ⟨w.heap.size, 0, none⟩)]) ∧ w' = w.alloc (.cells #[.map mb] 133) :=
  (callsIn_wide (n := 5)).1 (AnyZI.keys_in Tryz.keysA Fence.wide 5 trivial rfl mb w)

set_option maxHeartbeats 1000000 in
theorem Sorted_any (Bm b n : Nat) (l : List Int) (w : World) (hm : w.cell? ⟨Bm, 0, none⟩ = some (.map (some b))) (hs : SetAt w b n l) (hn : n ≤ 1000000) :
    Calls Tryz.prog 81 #[.func (.func 92) #[] #[.pointer (some ⟨Bm, 0, none⟩)]] w fun e w' =>
      ∃ v, e = .returned v ∧ SlA (fun k => w.heap.size ≤ k) IntE w' v (putsN [] l) ∧ Below w.heap.size w w' := by
  obtain ⟨D, h1, h2⟩ := hs
  have hsz := h1.size_le
  have hseq : SeqGives Fence.wide 2 Tryz.prog 92 #[.pointer (some ⟨Bm, 0, none⟩)] encZ (fun ss => ss.Perm (intKeys D)) (Maps.size D) w :=
    AnyZI.keys_gives (ρ := Tryz.keysA_ren) { Tryz.keysA with } Fence.wide _ trivial rfl (by omega) Bm b n D w (cell_lt hm) hm h1
  have cS := AnyZI.sorted_in Tryz.sortedA Fence.wide 5 trivial trivial trivial trivial rfl (by omega) (sorts64 _) (enters_of Tryz.func91 (by kernel_rfl) rfl) 92 #[.pointer (some ⟨Bm, 0, none⟩)] trivial (enters_of Tryz.func92 (by kernel_rfl) rfl) _ (Maps.size D) (by unfold maxLen; omega) (by omega) w hseq
  refine ((callsIn_wide (n := 5)).1 cS).mono ?_
  rintro e w' ⟨v, ss, rfl, hS, hrow, hnil, hb⟩
  have hsort : ss.mergeSort leI = putsN [] l := SetAt.sorted h1 h2 hS
  have hlen : ss.length = (putsN [] l).length := by rw [← hsort, List.length_mergeSort]
  have hrow' : w'.ownsRow w.heap.size 2 1 v (putsN [] l).length ((putsN [] l).map encZ) := by
    rw [← hlen, ← hsort]; exact hrow
  exact ⟨v, rfl, (own_ints hrow').sl.mono (fun k hk => hk.elim id False.elim), hb⟩
end Go.Proofs.YtcalinfdckklfaaGreatDoor

namespace Go.Proofs.YtcalinfdckklfaaGreatDoor
open Go.RowKit Go.Maps
attribute [local go_sem] Ext.cell Ext.frozen

set_option maxRecDepth 20000 in
set_option maxHeartbeats 4000000 in
theorem rising_any (p : Option Addr) (c : Nat) (ls : List (List Int)) (w : World) (hl : Sl (SlE IntE) w (.slice p ls.length c) ls) (hz : ∀ x ∈ ls.flatten, InZ x) (hn : ls.flatten.length ≤ 1000000) (hk : ls.length ≤ 1000000) :
    Calls Tryz.prog 63 #[.slice p ls.length c] w fun e w' => ∃ v, e = .returned v ∧ SlA (fun k => w.heap.size ≤ k) IntE w' v (putsN [] ls.flatten) ∧ Below w.heap.size w w' := by
  have hmm := @run_makeMap Tryz.prog
  have s0 := SetAt.made w
  have HZ : Hid _ := hz
  have HN : Hid _ := hn
  clear hz hn
  have b0 : Below w.heap.size w (w.alloc (.map #[] 0)) := below_new _ _
  have hsz : (w.alloc (.map #[] 0)).heap.size = w.heap.size + 1 := by simp
  go_enter Tryz.func63, Tryz.ntmps63
  go_wp2
  clear hmm
  generalize w.alloc (.map #[] 0) = w1 at *
  go_loopw [11] (fun i wr => ∃ (k n : Nat) (a : List Int), k ≤ ls.length ∧ i = .int .i64 k ∧ a ++ (ls.drop k).flatten = ls.flatten ∧ n = a.length ∧ SetAt wr w.heap.size n a ∧ Below w.heap.size w wr) (fun i _ => ls.length - (intOf i).toNat)
  case atStart => exact ⟨0, 0, [], Nat.zero_le _, rfl, rfl, rfl, s0, b0⟩
  case round =>
    obtain ⟨k, n, a, hk', rfl, hF, rfl, hS, hbr⟩ := hrel
    have HF : Hid _ := hF
    clear hF
    by_cases hlt : k < ls.length
    · obtain ⟨b, o, rfl, v, g0, hv⟩ := (sl_at hl).2 k hlt
      have hv1 := hv.any
      generalize hy : ls[k] = y at hv1
      have HY : Hid (ls.drop k = y :: ls.drop (k + 1)) := by rw [← hy]; exact drop_at hlt
      clear hy hv
      obtain ⟨pv, cv, rfl⟩ := hv1.len
      have hyl : y.length ≤ 1000000 := by
        have h2 := congrArg List.length HF.out
        have h3 := congrArg (fun q => (List.flatten q).length) HY.out
        have h4 := HN.out
        simp only [List.length_append, List.flatten_cons] at h2 h3
        omega
      have g1 := cell_keep g0 hbr
      have lg := cell_lt g1
      have hlt' : (k : Int) < (ls.length : Int) := by omega
      go_wp2
      clear g1 lg
      go_loopw [17] (fun i wr => ∃ (j n : Nat) (u : List Int), j ≤ y.length ∧ i = .int .i64 j ∧ u ++ y.drop j = a ++ y ∧ n = u.length ∧ SetAt wr w.heap.size n u ∧ Below w.heap.size w wr) (fun i _ => y.length - (intOf i).toNat)
      case atStart => exact ⟨0, _, a, Nat.zero_le _, rfl, rfl, rfl, hS, hbr⟩
      case round =>
        clear hS hbr
        obtain ⟨j, n, u, hj, rfl, hG, rfl, hS, hbr⟩ := hrel
        have HG : Hid _ := hG
        clear hG
        by_cases hjl : j < y.length
        · obtain ⟨b2, o2, rfl, g2⟩ := (ints_at (hv1.keep hbr)).2 j hjl
          have hin : InZ y[j] := HZ.out _ (List.mem_flatten.2 ⟨y, List.mem_of_mem_drop (i := k) (by rw [HY.out]; simp), List.getElem_mem hjl⟩)
          have hul : u.length ≤ 1000000 := by
            have h1 := congrArg List.length HG.out
            have h2 := congrArg List.length HF.out
            have h3 := congrArg (fun q => (List.flatten q).length) HY.out
            have h4 := HN.out
            simp only [List.length_append, List.flatten_cons] at h1 h2 h3
            omega
          generalize hx : y[j] = x at g2 hin
          have HX : Hid (y.drop j = x :: y.drop (j + 1)) := by rw [← hx]; exact drop_at hjl
          clear hx
          have lg := cell_lt g2
          obtain ⟨w5, r5, S5, G5⟩ := hS.put hul hin (.agg #[])
          go_wp2
          go_roundw
          case rel => exact ⟨j + 1, _, u ++ [x], by omega, by go_num, by rw [← HG.out, HX.out, List.append_assoc]; rfl, by simp, S5, hbr.grown G5 hbr.size (fun q hq => by cases hq; exact Nat.le_refl _)⟩
          case measure => simp [intOf]; omega
        · go_wp2
          go_roundw
          case rel => exact ⟨k + 1, _, u, by omega, by go_num, by
            have h := HG.out
            rw [List.drop_of_length_le (by omega), List.append_nil] at h
            rw [h, ← HF.out, HY.out, List.flatten_cons, List.append_assoc], rfl, hS, hbr⟩
          case measure => simp [intOf]; omega
    · have e : a = ls.flatten := by have h := HF.out; rw [List.drop_of_length_le (by omega)] at h; simpa using h
      have HE : Hid _ := e
      have hal : a.length ≤ 1000000 := by rw [e]; exact HN.out
      have hlt' : ¬ (k : Int) < (ls.length : Int) := by omega
      clear e
      have hb3 := below_new wr (.cells #[.map (some w.heap.size)] 133)
      have hS3 := hS.keep hb3
      have hm : (wr.alloc (.cells #[.map (some w.heap.size)] 133)).cell? ⟨wr.heap.size, 0, none⟩ = some (.map (some w.heap.size)) := by rw [Blk.cell Blk.new]; rfl
      have C1 := fun W hm hs => Sorted_any wr.heap.size w.heap.size a.length a W hm hs hal
      have HC : Hid _ := C1
      clear C1
      go_wp2_with (first
        | (go_at_call 82; refine (Keys_any _ _).mono ?_; rintro e w3 ⟨rfl, rfl⟩)
        | (go_at_call 81; refine (HC.out _ hm hS3).mono ?_; rintro e w4 ⟨v, rfl, hV, hb4⟩))
      go_ret
      exact ⟨v, rfl, by rw [← HE.out]; exact hV.mono (fun q hq => by have := hbr.size; simp at hq; omega), Below.thru hbr (Below.thru hb3 hb4 (Nat.le_refl _)) (Nat.le_refl _)⟩
theorem rising_one (b c : Nat) (u : List Int) (w : World) (hl : Sl (SlE IntE) w (.slice (some ⟨b, 0, none⟩) 1 c) [u]) (hz : ∀ x ∈ u, InZ x) (hn : u.length ≤ 1000000) :
    Calls Tryz.prog 63 #[.slice (some ⟨b, 0, none⟩) 1 c] w fun e w' => ∃ v, e = .returned v ∧ SlA (fun k => w.heap.size ≤ k) IntE w' v (putsN [] u) ∧ Below w.heap.size w w' := by
  have hf : [u].flatten = u := by simp
  have h := rising_any (some ⟨b, 0, none⟩) c [u] w hl (by rw [hf]; exact hz) (by rw [hf]; exact hn) (by simp)
  rw [hf] at h
  exact h
end Go.Proofs.YtcalinfdckklfaaGreatDoor

namespace Go.Proofs.YtcalinfdckklfaaGreatDoor
open Go.RowKit
attribute [local go_sem] Ext.cell Ext.frozen

theorem wroteP_next {l : List Ev} {k : Nat} {e : Ev} {r : List Ev} (h : l.drop k = e :: r) (a : List Int) : a ++ (((l.drop k).filter fun e => e.kd == 2)).map Ev.vl = (if e.kd = 2 then a ++ [e.vl] else a) ++ ((r.filter fun e => e.kd == 2)).map Ev.vl := by
  rw [h, List.filter_cons]
  by_cases hk : e.kd = 2
  · rw [if_pos (by simpa using hk), if_pos hk, List.map_cons, List.append_assoc]; rfl
  · rw [if_neg (by simpa using hk), if_neg hk]

set_option maxRecDepth 20000 in
set_option maxHeartbeats 4000000 in
theorem Wrote_new (p : Option Addr) (c : Nat) (l : List St) (w : World) (hl : Sl TrE w (.slice p l.length c) l) (hs : ∀ s ∈ l, s.evs.length ≤ 8) (hn : l.length * 8 ≤ 1000000) (hz : ∀ x ∈ wroteT l, InZ x) :
    Calls Tryz.prog 83 #[.slice p l.length c] w fun e w' => ∃ v, e = .returned v ∧ SlA (fun k => w.heap.size ≤ k) IntE w' v (putsN [] (wroteT l)) ∧ Below w.heap.size w w' := by
  have hwl := wroteT_len hs
  have HS : Hid _ := hs
  have HZ : Hid _ := hz
  have HWL : Hid _ := hwl
  clear hs hz hwl
  obtain ⟨ii, j1, j2, j3, j4⟩ := info_i64z
  have J1 : Hid _ := j1
  have J2 : Hid _ := j2
  have J3 : Hid _ := j3
  have J4 : Hid _ := j4
  clear j1 j2 j3 j4
  go_enter Tryz.func83, Tryz.ntmps83
  go_wp2
  go_loopw [3, 10] (fun a i wr => ∃ (k : Nat) (u : List Int), k ≤ l.length ∧ i = .int .i64 k ∧ Own F0 IntE wr w.heap.size 2 a u ∧ u.length ≤ k * 8 ∧ u ++ wroteT (l.drop k) = wroteT l ∧ Below w.heap.size w wr) (fun _ i _ => l.length - (intOf i).toNat)
  case atStart => exact ⟨0, [], Nat.zero_le _, rfl, Own.nil, Nat.zero_le _, rfl, Below.refl _ _⟩
  case round =>
    obtain ⟨k, u, hk, rfl, hO, hul, hF, hbr⟩ := hrel
    have HF : Hid _ := hF
    clear hF
    obtain ⟨po, co, rfl⟩ := hO.len
    by_cases hlt : k < l.length
    · obtain ⟨b, oo, r, rfl, -, hZ0, hA0⟩ := (tr_at hl).2 k hlt
      have h8 := HS.out _ (List.getElem_mem hlt)
      generalize hy : l[k] = y at hZ0 hA0 h8
      have HY : Hid (l.drop k = y :: l.drop (k + 1)) := by rw [← hy]; exact drop_at hlt
      clear hy
      have hZ := hZ0.keep hbr
      obtain ⟨a0, a1, a2, a3, a4, a5, a6, a7, a8, a9, aa, ab, ac, ad, ae, af⟩ := hA0.keep hbr
      have la := cell_lt a0
      obtain ⟨pe, ce, he⟩ := hZ.e0.len
      have hE0 := hZ0.e0
      rw [he] at hE0
      have HE : Hid _ := he
      clear he hA0 hZ0
      have hlt' : (k : Int) < (l.length : Int) := by omega
      have F1 := trivial
      go_wp2_with (clear F1; refine wpList_toldP (w := wr) (by kernel_rfl) (by rfl) (.tmp 5) (.tmp 13) (by rfl) hZ (by rfl) (by rfl) ?_; intro w4 kL B24; simp only [Act.put]; have x0 := kL.rows.1; rw [HE.out] at x0; have lL := kL.lt)
      have B4 := Below.thru hbr B24 (Nat.le_refl _)
      have hO4 := hO.keep B24
      clear hZ a0 a1 a2 a3 a4 a5 a6 a7 a8 a9 aa ab ac ad ae af la kL x0 lL HE
      go_loopw [3, 17] (fun a i wr => ∃ (j : Nat) (v : List Int), j ≤ y.evs.length ∧ i = .int .i64 j ∧ Own F0 IntE wr w.heap.size 2 a v ∧ v.length ≤ u.length + j ∧ v ++ (((y.evs.drop j).filter fun e => e.kd == 2)).map Ev.vl = u ++ wroteS y ∧ Below w.heap.size w wr) (fun _ i _ => y.evs.length - (intOf i).toNat)
      case atStart => exact ⟨0, u, Nat.zero_le _, rfl, hO4, Nat.le_refl _, rfl, B4⟩
      case round =>
        clear hO4 B4 B24 hO hbr
        obtain ⟨j, v, hj, rfl, hV, hvl, hG, hbr⟩ := hrel
        have HG : Hid _ := hG
        clear hG
        obtain ⟨pv, cv, rfl⟩ := hV.len
        by_cases hjl : j < y.evs.length
        · obtain ⟨eb, eo, rfl, g0, g1, g2, g3, g4, g5, g6⟩ := (ev_at (hE0.keep hbr)).2 j hjl
          generalize hx : y.evs[j] = x at g0 g1 g2 g3 g4 g5 g6
          have HX : Hid (y.evs.drop j = x :: y.evs.drop (j + 1)) := by rw [← hx]; exact drop_at hjl
          clear hx
          have lt1 := cell_lt g1
          have hvl6 : v.length ≤ 1000000 := by omega
          have hj6 : j ≤ 100000 := by omega
          obtain ⟨wE, hwE⟩ : ∃ x : World, x = wr := ⟨_, rfl⟩
          by_cases hk2 : x.kd = 2
          · have hkb : (x.kd == 2) = true := by simp [hk2]
            have HK2 : Hid _ := hk2
            clear hk2
            have F2 := trivial
            go_wp2_with (first
              | (clear F2; refine wpList_toldE (w := wr) (by rfl) (.tmp 7) (.tmp 20) (by rfl) x (by rfl) (by rfl) ?_; intro w5 kE b5; simp only [Act.put]; have e1 : w5.cell? ⟨wr.heap.size, 1, none⟩ = some (.int .i64 x.kd) := kE.cell 1; have e3 : w5.cell? ⟨wr.heap.size, 3, none⟩ = some (.int .i64 x.vl) := kE.cell 3; have lE := kE.lt; have F3 := trivial)
              | (at_builtin; clear F3; refine wpList_push (R := IntE) (xs := v) (x := x.vl) (by rfl) (.tmp 24) (.tmp 27) 60 2 ii (.int .i64 0) 8 (by rfl) Tryz.underlying60 J1.out J2.out J3.out J4.out (by rfl) w.heap.size (.slice pv v.length cv) w5.heap.size (by rfl) (by rfl) ((hV.keep b5).keep (below_new _ _)) [.int .i64 x.vl] (fun _ _ => rfl) (fun _ _ _ _ _ h => h) (fun j u hu => by rw [Blk.cell Blk.new]; simpa using hu) hvl6 (by decide) (by have := hbr.size; have := b5.size; simp; omega) ?_; intro pb cb wb hOb hgb _; have bb : Below w.heap.size w wb := ((Below.thru hbr b5 (Nat.le_refl _)).alloc (by have := hbr.size; have := b5.size; omega) _).grown hgb (by have := hbr.size; have := b5.size; simp; omega) (fun k hk => (hV.lt k hk).1); have F4 := trivial))
            go_roundw
            case rel => exact ⟨j + 1, v ++ [x.vl], by omega, by go_num, hOb, by rw [List.length_append, List.length_singleton]; omega, by rw [← HG.out, wroteP_next HX.out, if_pos HK2.out], bb⟩
            case measure => simp [intOf]; omega
          · have hkb : (x.kd == 2) = false := by simp [hk2]
            have HK2 : Hid _ := hk2
            clear hk2
            have F2 := trivial
            go_wp2_with (first
              | (clear F2; refine wpList_toldE (w := wr) (by rfl) (.tmp 7) (.tmp 20) (by rfl) x (by rfl) (by rfl) ?_; intro w5 kE b5; simp only [Act.put]; have e1 : w5.cell? ⟨wr.heap.size, 1, none⟩ = some (.int .i64 x.kd) := kE.cell 1; have lE := kE.lt; have F3 := trivial))
            go_roundw
            case rel => exact ⟨j + 1, v, by omega, by go_num, hV.keep b5, by omega, by rw [← HG.out, wroteP_next HX.out, if_neg HK2.out], Below.thru hbr b5 (Nat.le_refl _)⟩
            case measure => simp [intOf]; omega
        · have e : v = u ++ wroteS y := by have h := HG.out; rw [List.drop_of_length_le (by omega)] at h; simpa using h
          have HE : Hid _ := e
          clear e
          go_wp2
          go_roundw
          case rel => exact ⟨k + 1, v, by omega, by go_num, hV, by omega, by rw [← HF.out, HY.out, HE.out, List.append_assoc]; rfl, hbr⟩
          case measure => simp [intOf]; omega
    · have hlt' : ¬ (k : Int) < (l.length : Int) := by omega
      have e : u = wroteT l := by have h := HF.out; rw [List.drop_of_length_le (by omega)] at h; simpa [wroteT] using h
      have hul6 : u.length ≤ 1000000 := by omega
      have hzu : ∀ x ∈ u, InZ x := by rw [e]; exact HZ.out
      have HE : Hid _ := e
      have HZU : Hid _ := hzu
      clear e hzu
      have hb3 := below_new wr (.cells #[.slice po u.length co] 60)
      have hR : Sl (SlE IntE) (wr.alloc (.cells #[.slice po u.length co] 60)) (.slice (some ⟨wr.heap.size, 0, none⟩) 1 1) [u] := sl_one trivial (by rw [Blk.cell Blk.new]; rfl) (hO.sl.any.keep hb3) (Nat.le_refl _)
      go_wp2_with (go_at_call 63; refine (rising_one _ _ u _ hR HZU.out hul6).mono ?_; rintro e w3 ⟨v, rfl, hV, hb4⟩)
      go_ret
      refine ⟨v, rfl, ?_, Below.thru hbr (Below.thru hb3 hb4 (Nat.le_refl _)) (Nat.le_refl _)⟩
      rw [← HE.out]
      exact hV.mono (fun q hq => by have := hbr.size; simp at hq; omega)
end Go.Proofs.YtcalinfdckklfaaGreatDoor
