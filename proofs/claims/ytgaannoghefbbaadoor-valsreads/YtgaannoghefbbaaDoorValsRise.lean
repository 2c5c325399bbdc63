/- Contract of vals.rising: values of lists, each once, rising. -/
import Derived.Test.YtgaannoghefbbaaDoorValsSort
namespace Go.Proofs.YtgaannoghefbbaaDoor
open Go.RowKit Go.Maps
attribute [local go_sem] Ext.cell Ext.frozen

set_option maxRecDepth 20000 in
set_option maxHeartbeats 4000000 in
theorem rising_any (p : Option Addr) (c : Nat) (ls : List (List Int)) (w : World) (hl : Sl (SlE IntE) w (.slice p ls.length c) ls) (hz : ∀ x ∈ ls.flatten, InZ x) (hn : ls.flatten.length ≤ 1000000) (hk : ls.length ≤ 1000000) :
    Calls Tryd.prog 22 #[.slice p ls.length c] w fun e w' => ∃ v, e = .returned v ∧ SlA (fun k => w.heap.size ≤ k) IntE w' v (putsN [] ls.flatten) ∧ Below w.heap.size w w' := by
  have hmm := @run_makeMap Tryd.prog
  have s0 := SetAt.made w
  have HZ : Hid _ := hz
  have HN : Hid _ := hn
  clear hz hn
  have b0 : Below w.heap.size w (w.alloc (.map #[] 0)) := below_new _ _
  have hsz : (w.alloc (.map #[] 0)).heap.size = w.heap.size + 1 := by simp
  go_enter Tryd.func22, Tryd.ntmps22
  go_wp2
  clear hmm
  generalize w.alloc (.map #[] 0) = w1 at *
  go_loopw [11] (fun i wr => ∃ (k n : Nat) (a : List Int), k ≤ ls.length ∧ i = .int .i64 k ∧ a ++ (ls.drop k).flatten = ls.flatten ∧ n = a.length ∧ SetAt wr w.heap.size n a ∧ Below w.heap.size w wr) (fun i _ => ls.length - (intOf i).toNat)
  case atStart => exact ⟨0, 0, [], Nat.zero_le _, rfl, rfl, rfl, s0, b0⟩
  case round =>
    obtain ⟨k, n, a, hk', rfl, hF, rfl, hS, hbr⟩ := hrel
    have HF : Hid _ := hF
    clear hF
    by_cases hlt : k < ls.length
    · obtain ⟨b, o, rfl, v, g0, hv⟩ := (sl_at hl).2 k hlt
      have hv1 := hv.any
      generalize hy : ls[k] = y at hv1
      have HY : Hid (ls.drop k = y :: ls.drop (k + 1)) := by rw [← hy]; exact drop_at hlt
      clear hy hv
      obtain ⟨pv, cv, rfl⟩ := hv1.len
      have hyl : y.length ≤ 1000000 := by
        have h2 := congrArg List.length HF.out
        have h3 := congrArg (fun q => (List.flatten q).length) HY.out
        have h4 := HN.out
        simp only [List.length_append, List.flatten_cons] at h2 h3
        omega
      have g1 := cell_keep g0 hbr
      have lg := cell_lt g1
      have hlt' : (k : Int) < (ls.length : Int) := by omega
      go_wp2
      clear g1 lg
      go_loopw [17] (fun i wr => ∃ (j n : Nat) (u : List Int), j ≤ y.length ∧ i = .int .i64 j ∧ u ++ y.drop j = a ++ y ∧ n = u.length ∧ SetAt wr w.heap.size n u ∧ Below w.heap.size w wr) (fun i _ => y.length - (intOf i).toNat)
      case atStart => exact ⟨0, _, a, Nat.zero_le _, rfl, rfl, rfl, hS, hbr⟩
      case round =>
        clear hS hbr
        obtain ⟨j, n, u, hj, rfl, hG, rfl, hS, hbr⟩ := hrel
        have HG : Hid _ := hG
        clear hG
        by_cases hjl : j < y.length
        · obtain ⟨b2, o2, rfl, g2⟩ := (ints_at (hv1.keep hbr)).2 j hjl
          have hin : InZ y[j] := HZ.out _ (List.mem_flatten.2 ⟨y, List.mem_of_mem_drop (i := k) (by rw [HY.out]; simp), List.getElem_mem hjl⟩)
          have hul : u.length ≤ 1000000 := by
            have h1 := congrArg List.length HG.out
            have h2 := congrArg List.length HF.out
            have h3 := congrArg (fun q => (List.flatten q).length) HY.out
            have h4 := HN.out
            simp only [List.length_append, List.flatten_cons] at h1 h2 h3
            omega
          generalize hx : y[j] = x at g2 hin
          have HX : Hid (y.drop j = x :: y.drop (j + 1)) := by rw [← hx]; exact drop_at hjl
          clear hx
          have lg := cell_lt g2
          obtain ⟨w5, r5, S5, G5⟩ := hS.put hul hin (.agg #[])
          go_wp2
          go_roundw
          case rel => exact ⟨j + 1, _, u ++ [x], by omega, by go_num, by rw [← HG.out, HX.out, List.append_assoc]; rfl, by simp, S5, hbr.grown G5 hbr.size (fun q hq => by cases hq; exact Nat.le_refl _)⟩
          case measure => simp [intOf]; omega
        · go_wp2
          go_roundw
          case rel => exact ⟨k + 1, _, u, by omega, by go_num, by
            have h := HG.out
            rw [List.drop_of_length_le (by omega), List.append_nil] at h
            rw [h, ← HF.out, HY.out, List.flatten_cons, List.append_assoc], rfl, hS, hbr⟩
          case measure => simp [intOf]; omega
    · have e : a = ls.flatten := by have h := HF.out; rw [List.drop_of_length_le (by omega)] at h; simpa using h
      have HE : Hid _ := e
      have hal : a.length ≤ 1000000 := by rw [e]; exact HN.out
      have hlt' : ¬ (k : Int) < (ls.length : Int) := by omega
      clear e
      have hb3 := below_new wr (.cells #[.map (some w.heap.size)] 77)
      have hS3 := hS.keep hb3
      have hm : (wr.alloc (.cells #[.map (some w.heap.size)] 77)).cell? ⟨wr.heap.size, 0, none⟩ = some (.map (some w.heap.size)) := by rw [Blk.cell Blk.new]; rfl
      have C1 := fun W hm hs => Sorted_any wr.heap.size w.heap.size a.length a W hm hs hal
      have HC : Hid _ := C1
      clear C1
      go_wp2_with (first
        | (go_at_call 35; refine (Keys_any _ _).mono ?_; rintro e w3 ⟨rfl, rfl⟩)
        | (go_at_call 34; refine (HC.out _ hm hS3).mono ?_; rintro e w4 ⟨v, rfl, hV, hb4⟩))
      go_ret
      exact ⟨v, rfl, by rw [← HE.out]; exact hV.mono (fun q hq => by have := hbr.size; simp at hq; omega), Below.thru hbr (Below.thru hb3 hb4 (Nat.le_refl _)) (Nat.le_refl _)⟩
theorem rising_one (b c : Nat) (u : List Int) (w : World) (hl : Sl (SlE IntE) w (.slice (some ⟨b, 0, none⟩) 1 c) [u]) (hz : ∀ x ∈ u, InZ x) (hn : u.length ≤ 1000000) :
    Calls Tryd.prog 22 #[.slice (some ⟨b, 0, none⟩) 1 c] w fun e w' => ∃ v, e = .returned v ∧ SlA (fun k => w.heap.size ≤ k) IntE w' v (putsN [] u) ∧ Below w.heap.size w w' := by
  have hf : [u].flatten = u := by simp
  have h := rising_any (some ⟨b, 0, none⟩) c [u] w hl (by rw [hf]; exact hz) (by rw [hf]; exact hn) (by simp)
  rw [hf] at h
  exact h
end Go.Proofs.YtgaannoghefbbaaDoor
