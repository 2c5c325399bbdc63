/- Contracts of cupolaref02.Nums and Same: whether two tests are the same. -/
import Derived.Test.YtpmecgagbjphdaaDoorTestPlain
import Derived.Test.YtpmecgagbjphdaaDoorProg
import Derived.Laws.StructEq
namespace Go.Proofs.YtpmecgagbjphdaaDoor
open Go.RowKit Classical

theorem same_step {α : Type} [DecidableEq α] {x y : α} {xs ys : List α} (h : x = y) : decide (x :: xs = y :: ys) = decide (xs = ys) := by subst h; simp
theorem same_no {α : Type} [DecidableEq α] {x y : α} {xs ys : List α} (h : x ≠ y) : decide (x :: xs = y :: ys) = false := by simp [h]

set_option maxHeartbeats 1000000 in
theorem Nums_any (p q : Option Addr) (c d : Nat) (xs ys : List Int) (w : World) (hx : Sl IntE w (.slice p xs.length c) xs) (hy : Sl IntE w (.slice q ys.length d) ys) (hL : xs.length ≤ 1000000) :
    Calls Tryd.prog 34 #[.slice p xs.length c, .slice q ys.length d] w fun e w' => e = .returned (.bool (decide (xs = ys))) ∧ ∃ n, w' = w.drewN n := by
  by_cases hl : xs.length = ys.length
  · have HL : Hid _ := hl
    have hl' : ((xs.length : Int) != (ys.length : Int)) = false := by simp; omega
    have hl2 : xs.length ≤ ys.length := by omega
    clear hl
    go_enter Tryd.func34, Tryd.ntmps34
    go_wp2
    go_loopw [5] (fun i wr => ∃ k : Nat, k ≤ xs.length ∧ i = .int .i64 k ∧ decide (xs.drop k = ys.drop k) = decide (xs = ys) ∧ ∃ n, wr = w.drewN n) (fun i _ => xs.length - (intOf i).toNat)
    case atStart => exact ⟨0, Nat.zero_le _, rfl, rfl, 0, rfl⟩
    case round =>
      obtain ⟨k, hk, rfl, hF, nn, rfl⟩ := hrel
      have HF : Hid _ := hF
      clear hF
      by_cases hlt : k < xs.length
      · obtain ⟨b1, o1, rfl, hu⟩ := (ints_at hx).2 k hlt
        obtain ⟨b2, o2, rfl, hv⟩ := (ints_at hy).2 k (by rw [← HL.out]; exact hlt)
        generalize h1 : xs[k] = x at hu
        generalize h2 : ys[k]'(by rw [← HL.out]; exact hlt) = y at hv
        have H1 : Hid (xs.drop k = x :: xs.drop (k + 1)) := by rw [← h1]; exact drop_at hlt
        have H2 : Hid (ys.drop k = y :: ys.drop (k + 1)) := by rw [← h2]; exact drop_at (by rw [← HL.out]; exact hlt)
        clear h1 h2
        have hlt' : (k : Int) < (xs.length : Int) := by omega
        have hlt2 : (k : Int) < (ys.length : Int) := by omega
        go_wp2
        go_quiet (fail)
        by_cases hxy : x = y
        · have hxy' : (x != y) = false := by simpa using hxy
          have HXY : Hid _ := hxy
          clear hxy
          go_wp2
          go_roundw
          case rel => exact ⟨k + 1, by omega, by go_num, by have := HF.out; rw [H1.out, H2.out, same_step HXY.out] at this; exact this, nn + nq, by simp⟩
          case measure => simp [intOf]; omega
        · have hxy' : (x != y) = true := by simpa using hxy
          go_wp2
          go_ret
          exact ⟨by have := HF.out; rw [H1.out, H2.out, same_no hxy] at this; rw [← this]; rfl, nn + nq, by rw [World.drewN_drewN]⟩
      · go_wp2
        go_ret
        exact ⟨by have := HF.out; rw [List.drop_of_length_le (by omega), List.drop_of_length_le (by rw [← HL.out]; omega)] at this; rw [← this]; rfl, nn, rfl⟩
  · have hl' : ((xs.length : Int) != (ys.length : Int)) = true := by simp; omega
    have E : Hid (decide (xs = ys) = false) := decide_eq_false (fun e => hl (by rw [e]))
    go_enter Tryd.func34, Tryd.ntmps34
    go_wp2
    go_ret
    exact ⟨by rw [E.out]; rfl, 0, rfl⟩

theorem ins_ne {m n : Ins} (h : m ≠ n) : (m.op ≠ n.op) ∨ (m.op = n.op ∧ m.d ≠ n.d) ∨ (m.op = n.op ∧ m.d = n.d ∧ m.a ≠ n.a) ∨ (m.op = n.op ∧ m.d = n.d ∧ m.a = n.a ∧ m.b ≠ n.b) ∨
    (m.op = n.op ∧ m.d = n.d ∧ m.a = n.a ∧ m.b = n.b ∧ m.l ≠ n.l) ∨ (m.op = n.op ∧ m.d = n.d ∧ m.a = n.a ∧ m.b = n.b ∧ m.l = n.l ∧ m.i ≠ n.i) := by
  obtain ⟨x0, x1, x2, x3, x4, x5⟩ := m
  obtain ⟨y0, y1, y2, y3, y4, y5⟩ := n
  simp only [ne_eq, Ins.mk.injEq] at *
  by_cases h0 : x0 = y0
  · by_cases h1 : x1 = y1
    · by_cases h2 : x2 = y2
      · by_cases h3 : x3 = y3
        · by_cases h4 : x4 = y4
          · simp_all
          · simp_all
        · simp_all
      · simp_all
    · simp_all
  · simp_all

set_option maxHeartbeats 2000000 in
theorem Same_any (pi pt qi qt : Option Addr) (ci ct di dt : Nat) (xs ys : List Int) (ts us : List (List Ins)) (w : World)
    (hx : Sl IntE w (.slice pi xs.length ci) xs) (hy : Sl IntE w (.slice qi ys.length di) ys) (ht : Sl ThrE w (.slice pt ts.length ct) ts) (hu : Sl ThrE w (.slice qt us.length dt) us)
    (hL : xs.length ≤ 1000000) (hM : ts.length ≤ 1000000) (hN : ∀ l ∈ ts, l.length ≤ 1000000) :
    Calls Tryd.prog 17 #[.agg #[.slice pi xs.length ci, .slice pt ts.length ct], .agg #[.slice qi ys.length di, .slice qt us.length dt]] w fun e w' => e = .returned (.bool (decide (xs = ys) && decide (ts = us))) ∧ Below w.heap.size w w' := by
  have hb1 := (((Below.refl w.heap.size w).alloc (Nat.le_refl _) (.cells #[.slice pi xs.length ci, .slice pt ts.length ct] 25)).alloc (by simp) (.cells #[.slice qi ys.length di, .slice qt us.length dt] 25))
  have hx1 := hx.keep hb1
  have hy1 := hy.keep hb1
  have ht1 := ht.keep hb1
  have hu1 := hu.keep hb1
  cases hxy : decide (xs = ys)
  · have HXY : Hid _ := hxy
    clear hxy
    go_enter Tryd.func17, Tryd.ntmps17
    go_wp2_with (go_at_call 34; refine (Nums_any _ _ _ _ _ _ _ hx1 hy1 hL).mono ?_; rintro e w3 ⟨rfl, nn, rfl⟩; rw [HXY.out])
    go_ret
    exact ⟨rfl, below_drewN _ hb1⟩
  · have HXY : Hid _ := hxy
    clear hxy
    by_cases hl : ts.length = us.length
    · have HL : Hid _ := hl
      have hl' : ((ts.length : Int) != (us.length : Int)) = false := by simp; omega
      have hl2 : ts.length ≤ us.length := by omega
      clear hl
      go_enter Tryd.func17, Tryd.ntmps17
      go_wp2_with (go_at_call 34; refine (Nums_any _ _ _ _ _ _ _ hx1 hy1 hL).mono ?_; rintro e w3 ⟨rfl, nn, rfl⟩; rw [HXY.out])
      go_loopw [5] (fun i wr => ∃ k : Nat, k ≤ ts.length ∧ i = .int .i64 k ∧ decide (ts.drop k = us.drop k) = decide (ts = us) ∧ ∃ n, wr = ((w.alloc (.cells #[.slice pi xs.length ci, .slice pt ts.length ct] 25)).alloc (.cells #[.slice qi ys.length di, .slice qt us.length dt] 25)).drewN n) (fun i _ => ts.length - (intOf i).toNat)
      case atStart => exact ⟨0, Nat.zero_le _, rfl, rfl, _, rfl⟩
      case round =>
        obtain ⟨k, hk, rfl, hF, nn, rfl⟩ := hrel
        have HF : Hid _ := hF
        clear hF
        by_cases hlt : k < ts.length
        · obtain ⟨b1, o1, rfl, u, hu0, hU⟩ := (thr_at ht1).2 k hlt
          obtain ⟨b2, o2, rfl, v, hv0, hV⟩ := (thr_at hu1).2 k (by rw [← HL.out]; exact hlt)
          generalize h1 : ts[k] = x at hU
          generalize h2 : us[k]'(by rw [← HL.out]; exact hlt) = y at hV
          have hxl : x.length ≤ 1000000 := hN _ (by rw [← h1]; exact List.getElem_mem hlt)
          have H1 : Hid (ts.drop k = x :: ts.drop (k + 1)) := by rw [← h1]; exact drop_at hlt
          have H2 : Hid (us.drop k = y :: us.drop (k + 1)) := by rw [← h2]; exact drop_at (by rw [← HL.out]; exact hlt)
          clear h1 h2
          have hlt' : (k : Int) < (ts.length : Int) := by omega
          have hlt2 : (k : Int) < (us.length : Int) := by omega
          obtain ⟨pu, cu, rfl⟩ := hU.len
          obtain ⟨pv, cv, rfl⟩ := hV.len
          by_cases hll : x.length = y.length
          · have HLL : Hid _ := hll
            have hll' : ((x.length : Int) != (y.length : Int)) = false := by simp; omega
            have hll2 : x.length ≤ y.length := by omega
            clear hll
            go_wp2
            go_quiet (fail)
            go_wp2
            go_loopw [6] (fun i wr => ∃ j : Nat, j ≤ x.length ∧ i = .int .i64 j ∧ decide (x.drop j = y.drop j) = decide (x = y) ∧ ∃ n, wr = ((w.alloc (.cells #[.slice pi xs.length ci, .slice (some ⟨b1, o1, none⟩) ts.length ct] 25)).alloc (.cells #[.slice qi ys.length di, .slice (some ⟨b2, o2, none⟩) us.length dt] 25)).drewN n) (fun i _ => x.length - (intOf i).toNat)
            case atStart => exact ⟨0, Nat.zero_le _, rfl, rfl, nn + nq, by simp [World.drewN_drewN]⟩
            case round =>
              obtain ⟨j, hj, rfl, hF2, mm, rfl⟩ := hrel
              have HF2 : Hid _ := hF2
              clear hF2
              by_cases hjl : j < x.length
              · obtain ⟨b3, o3, rfl, e0, e1, e2, e3, e4, e5⟩ := (ins_at hU).2 j hjl
                obtain ⟨b4, o4, rfl, f0, f1, f2, f3, f4, f5⟩ := (ins_at hV).2 j (by rw [← HLL.out]; exact hjl)
                generalize h1 : x[j] = m at e0 e1 e2 e3 e4 e5
                generalize h2 : y[j]'(by rw [← HLL.out]; exact hjl) = n at f0 f1 f2 f3 f4 f5
                have H3 : Hid (x.drop j = m :: x.drop (j + 1)) := by rw [← h1]; exact drop_at hjl
                have H4 : Hid (y.drop j = n :: y.drop (j + 1)) := by rw [← h2]; exact drop_at (by rw [← HLL.out]; exact hjl)
                clear h1 h2
                have hjl' : (j : Int) < (x.length : Int) := by omega
                have hjl2 : (j : Int) < (y.length : Int) := by omega
                by_cases hxy : m = n
                · subst hxy
                  go_wp2
                  go_quiet (fail)
                  go_wp2
                  go_roundw
                  case rel => exact ⟨j + 1, by omega, by go_num, by have := HF2.out; rw [H3.out, H4.out, same_step rfl] at this; exact this, mm + nq, by simp⟩
                  case measure => simp [intOf]; omega
                · have hne : x ≠ y := fun e => by
                    have h2 := HF2.out
                    rw [H3.out, H4.out, same_no hxy, decide_eq_true e] at h2
                    cases h2
                  have HNE : Hid _ := hne
                  have hcs := ins_ne hxy
                  clear hne hxy
                  rcases hcs with q0 | ⟨q0, q1⟩ | ⟨q0, q1, q2⟩ | ⟨q0, q1, q2, q3⟩ | ⟨q0, q1, q2, q3, q4⟩ | ⟨q0, q1, q2, q3, q4, q5⟩
                  all_goals
                    go_wp2
                    go_quiet (fail)
                    go_wp2
                    go_ret
                    exact ⟨by have := HF.out; rw [H1.out, H2.out, same_no HNE.out] at this; rw [← this]; rfl, below_drewN _ (below_drewN _ hb1)⟩
              · go_wp2
                go_roundw
                case rel => exact ⟨k + 1, by omega, by go_num, by
                  have h2 := HF2.out
                  rw [List.drop_of_length_le (by omega), List.drop_of_length_le (by rw [← HLL.out]; omega)] at h2
                  have := HF.out
                  rw [H1.out, H2.out, same_step (of_decide_eq_true h2.symm)] at this
                  exact this, mm, rfl⟩
                case measure => simp [intOf]; omega
          · have hll' : ((x.length : Int) != (y.length : Int)) = true := by simp; omega
            go_wp2
            go_quiet (fail)
            go_wp2
            go_ret
            exact ⟨by have := HF.out; rw [H1.out, H2.out, same_no (fun e => hll (by rw [e]))] at this; rw [← this]; rfl, below_drewN _ (below_drewN _ hb1)⟩
        · go_wp2
          go_ret
          exact ⟨by have := HF.out; rw [List.drop_of_length_le (by omega), List.drop_of_length_le (by rw [← HL.out]; omega)] at this; rw [← this]; rfl, below_drewN _ hb1⟩
    · have hl' : ((ts.length : Int) != (us.length : Int)) = true := by simp; omega
      have E : Hid (decide (ts = us) = false) := decide_eq_false (fun e => hl (by rw [e]))
      go_enter Tryd.func17, Tryd.ntmps17
      go_wp2_with (go_at_call 34; refine (Nums_any _ _ _ _ _ _ _ hx1 hy1 hL).mono ?_; rintro e w3 ⟨rfl, nn, rfl⟩; rw [HXY.out])
      go_ret
      exact ⟨by rw [E.out]; rfl, below_drewN _ hb1⟩
end Go.Proofs.YtpmecgagbjphdaaDoor
