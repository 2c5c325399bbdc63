/- Lists of numbers in memory: the same, among them, and lists of lists. -/
import Derived.Test.YtgffeihfcmbobaaIntsP
namespace Go.Proofs.Ytgffeihfcmbobaa
open Go.RowKit
attribute [local go_sem] Ext.cell Ext.frozen

theorem sl_intsl {A : Nat → Prop} {w : World} {v : Value} {xs : List Int} (h : SlA A IntE w v xs) : ∃ p c, v = .slice p xs.length c ∧ (xs ≠ [] → ∃ b o, p = some ⟨b, o, none⟩ ∧ ∀ i, i < xs.length → w.cell? ⟨b, o + i, none⟩ = some (.int .i64 (xs.getD i 0))) := by
  obtain ⟨p, c, rfl⟩ := h.len
  refine ⟨p, c, rfl, fun hne => ?_⟩
  obtain ⟨_, hat⟩ := ints_at h
  cases xs with
  | nil => exact absurd rfl hne
  | cons x xs =>
    obtain ⟨b, o, rfl, _⟩ := hat 0 (by simp)
    refine ⟨b, o, rfl, fun i hi => ?_⟩
    obtain ⟨b2, o2, e2, h4⟩ := hat i hi
    cases e2
    rw [h4, List.getD_eq_getElem?_getD, List.getElem?_eq_getElem hi]
    rfl
theorem Ints_int {A B : Nat → Prop} (p q : Option Addr) (c d : Nat) (xs ys : List Int) (w : World) (hx : SlA A IntE w (.slice p xs.length c) xs) (hy : SlA B IntE w (.slice q ys.length d) ys) (hn : xs.length ≤ 1000000) :
    Calls Try.prog 12 #[.slice p xs.length c, .slice q ys.length d] w fun e w' => e = .returned (.bool (decide (xs = ys))) ∧ Below w.heap.size w w' := by
  by_cases hl : xs.length = ys.length
  · by_cases hne : xs = []
    · subst hne
      have hy0 : ys = [] := List.length_eq_zero_iff.1 hl.symm
      subst hy0
      refine (Ints_nil p q c d w).mono ?_
      rintro e w' ⟨rfl, rfl⟩
      exact ⟨rfl, Below.refl _ _⟩
    · obtain ⟨p1, c1, e1, h1⟩ := sl_intsl hx
      obtain ⟨p2, c2, e2, h2⟩ := sl_intsl hy
      simp only [Value.slice.injEq] at e1 e2
      obtain ⟨rfl, -, rfl⟩ := e1
      obtain ⟨rfl, -, rfl⟩ := e2
      obtain ⟨b1, o1, rfl, g1⟩ := h1 hne
      obtain ⟨b2, o2, rfl, g2⟩ := h2 (fun e => hne (List.length_eq_zero_iff.1 (by rw [hl, e]; rfl)))
      have hc := Ints_same b1 o1 b2 o2 c d xs ys w hn hl.symm g1 (fun i hi => g2 i (by omega))
      rw [← hl]
      refine hc.mono ?_
      rintro e w' ⟨rfl, n, rfl⟩
      exact ⟨rfl, below_drewN n (Below.refl _ _)⟩
  · refine (Ints_len p q xs.length ys.length c d w hl).mono ?_
    rintro e w' ⟨rfl, rfl⟩
    refine ⟨?_, Below.refl _ _⟩
    have : xs ≠ ys := fun e => hl (by rw [e])
    simp [this]

set_option maxHeartbeats 1000000 in
theorem In_int (p : Option Addr) (c : Nat) (xs : List Int) (z : Int) (w : World) (hx : Sl IntE w (.slice p xs.length c) xs) (hn : xs.length ≤ 1000000) :
    Calls Try.prog 30 #[.slice p xs.length c, .int .i64 z] w fun e w' => e = .returned (.bool (xs.contains z)) ∧ Below w.heap.size w w' := by
  go_enter Try.func30, Try.ntmps30
  go_wp2
  go_loopw [5] (fun i wr => ∃ k : Nat, k ≤ xs.length ∧ i = .int .i64 k ∧ (xs.drop k).contains z = xs.contains z ∧ Below w.heap.size w wr) (fun i _ => xs.length - (Go.RowKit.intOf i).toNat)
  case atStart => exact ⟨0, Nat.zero_le _, rfl, by simp, Below.refl _ _⟩
  case round =>
    obtain ⟨k, hk, rfl, hc, hB⟩ := hrel
    have HC : Hid _ := hc
    clear hc
    by_cases hlt : k < xs.length
    · have hlt' : (k : Int) < (xs.length : Int) := by omega
      obtain ⟨b, o, rfl, hcell⟩ := (ints_at (hx.keep hB)).2 k hlt
      have HD : Hid _ := (show xs.drop k = xs[k] :: xs.drop (k + 1) from drop_at hlt)
      generalize xs[k] = y at *
      by_cases hyz : y = z
      · subst hyz
        have HR : Hid _ := (show xs.contains y = true by rw [← HC.out, HD.out]; simp)
        go_wp2
        go_ret
        exact ⟨by rw [HR.out]; rfl, hB⟩
      · have hyz' : (y == z) = false := by rw [beq_eq_false_iff_ne]; exact hyz
        have HR : Hid _ := (show (xs.drop (k + 1)).contains z = xs.contains z by
          rw [← HC.out, HD.out, List.contains_cons]
          have : (z == y) = false := by rw [beq_eq_false_iff_ne]; exact fun e => hyz e.symm
          rw [this, Bool.false_or])
        clear hyz
        go_wp2
        go_roundw
        case rel => exact ⟨k + 1, by omega, by go_num, HR.out, hB⟩
        case measure => simp [Go.RowKit.intOf]; omega
    · have ek : k = xs.length := by omega
      have HR : Hid _ := (show xs.contains z = false by rw [← HC.out, ek]; simp)
      clear ek
      go_wp2
      go_ret
      exact ⟨by rw [HR.out]; rfl, hB⟩

set_option maxHeartbeats 1000000 in
theorem Lists_int {A B : Nat → Prop} (p q : Option Addr) (c d : Nat) (xs ys : List (List Int)) (w : World) (hx : SlA A (SlE IntE) w (.slice p xs.length c) xs) (hy : SlA B (SlE IntE) w (.slice q ys.length d) ys) (hn : xs.length ≤ 1000000) (hl : ∀ x ∈ xs, x.length ≤ 1000000) :
    Calls Try.prog 15 #[.slice p xs.length c, .slice q ys.length d] w fun e w' => e = .returned (.bool (decide (xs = ys))) ∧ Below w.heap.size w w' := by
  by_cases hlen : xs.length = ys.length
  · have t1 : ((xs.length : Int) != (ys.length : Int)) = false := by rw [hlen]; simp
    have HL : Hid _ := hlen
    clear hlen
    go_enter Try.func15, Try.ntmps15
    go_wp2
    go_loopw [5] (fun i wr => ∃ k : Nat, k ≤ xs.length ∧ i = .int .i64 k ∧ xs.take k = ys.take k ∧ Below w.heap.size w wr) (fun i _ => xs.length - (Go.RowKit.intOf i).toNat)
    case atStart => exact ⟨0, Nat.zero_le _, rfl, by simp, Below.refl _ _⟩
    case round =>
      obtain ⟨k, hk, rfl, htk, hB⟩ := hrel
      have HT : Hid _ := htk
      clear htk
      by_cases hlt : k < xs.length
      · have hlt' : (k : Int) < (xs.length : Int) := by omega
        have hltY : k < ys.length := by rw [← HL.out]; exact hlt
        have hltY' : (k : Int) < (ys.length : Int) := by omega
        obtain ⟨b, o, rfl, v, hcv, hv⟩ := (sl_at (hx.keep hB)).2 k hlt
        obtain ⟨b2, o2, rfl, v2, hcv2, hv2⟩ := (sl_at (hy.keep hB)).2 k hltY
        obtain ⟨pv, kv, rfl⟩ := hv.len
        obtain ⟨pv2, kv2, rfl⟩ := hv2.len
        have hxl := hl _ (List.getElem_mem hlt)
        have l1 := cell_lt hcv
        have l2 := cell_lt hcv2
        have hne : ∀ w, Nonempty (Ext w) := ext_some
        have ht1 : xs.take (k + 1) = xs.take k ++ [xs[k]] := List.take_succ_eq_append_getElem hlt
        have ht2 : ys.take (k + 1) = ys.take k ++ [ys[k]] := List.take_succ_eq_append_getElem hltY
        have CC : ∀ q : Ext wr, Calls Try.prog 12 #[.slice pv xs[k].length kv, .slice pv2 ys[k].length kv2] q.wd fun e w'' => e = .returned (.bool (decide (xs[k] = ys[k]))) ∧ ∃ q' : Ext wr, w'' = q'.wd := fun q => calls_ext (Ints_int pv pv2 kv kv2 xs[k] ys[k] q.wd (hv.keep q.ok) (hv2.keep q.ok) hxl)
        have hne2 : xs[k] ≠ ys[k] → xs ≠ ys := fun h e => h (by subst e; rfl)
        have hT2 : xs[k] = ys[k] → xs.take (k + 1) = ys.take (k + 1) := fun h => by rw [ht1, ht2, HT.out, h]
        have HN : Hid _ := hne2
        have HT2 : Hid _ := hT2
        clear ht1 ht2 hne2 hT2 hv hv2 hxl
        generalize xs[k] = x at *
        generalize ys[k] = y at *
        have HCC : Hid _ := CC
        clear CC
        by_cases hxy : x = y
        · have hd : decide (x = y) = true := decide_eq_true hxy
          have HXY : Hid _ := hxy
          clear hxy
          go_wp2
          refine wp_region_ext (by kernel_rfl) (by kernel_rfl) ?_
          repeat (go_big_quiet_step (first | (with_reducible exact HCC.out _)))
          refine wpQuiet_nil ?_
          rintro _ ⟨rr, rfl⟩
          go_wp2
          go_roundw
          case rel => exact ⟨k + 1, by omega, by go_num, HT2.out HXY.out, Below.thru hB rr.ok (Nat.le_refl _)⟩
          case measure => simp [Go.RowKit.intOf]; omega
        · have hd : decide (x = y) = false := decide_eq_false hxy
          have HXY : Hid _ := hxy
          clear hxy
          go_wp2
          refine wp_region_ext (by kernel_rfl) (by kernel_rfl) ?_
          repeat (go_big_quiet_step (first | (with_reducible exact HCC.out _)))
          refine wpQuiet_nil ?_
          rintro _ ⟨rr, rfl⟩
          go_wp2
          go_ret
          exact ⟨by rw [decide_eq_false (HN.out HXY.out)]; rfl, Below.thru hB rr.ok (Nat.le_refl _)⟩
      · have HE : Hid _ := (show xs = ys by
          have h := HT.out
          have h1 := HL.out
          rw [List.take_of_length_le (by omega), List.take_of_length_le (by omega)] at h
          exact h)
        go_wp2
        go_ret
        exact ⟨by rw [decide_eq_true HE.out]; rfl, hB⟩
  · have t1 : ((xs.length : Int) != (ys.length : Int)) = true := by rw [bne_iff_ne]; omega
    have HL : Hid _ := (show xs ≠ ys from fun e => hlen (by rw [e]))
    clear hlen
    go_enter Try.func15, Try.ntmps15
    go_wp2
    go_ret
    exact ⟨by rw [decide_eq_false HL.out]; rfl, Below.refl _ _⟩
end Go.Proofs.Ytgffeihfcmbobaa
