/- What follows, plainly: bare again, fenced again; which bare tests may be. -/
import Derived.Test.YtpmecgagbjphdaaDoorTestMath3
namespace Go.Proofs.YtpmecgagbjphdaaDoor

theorem inside_parts {x : Ins} {xs : List Ins} (h : inside (x :: xs) = true) : inside xs = true ∧ (brB x.op = true → 0 ≤ x.i ∧ x.i ≤ xs.length) := by
  unfold inside at h
  simp only [Bool.and_eq_true] at h
  refine ⟨h.2, fun hb => ?_⟩
  rw [hb] at h
  simpa using h.1
theorem laid0_plain {l : List Ins} (h : ∀ x ∈ l, fnB x.op = false) : laid lay0 l = l.length := by
  induction l with
  | nil => rfl
  | cons x xs ih =>
    rw [laid_cons', ih (fun y hy => h y (by simp [hy])), List.length_cons]
    unfold lay0
    rw [h x (by simp)]
    simp
    omega
theorem skip_same {x : Ins} {n : Int} (h : brB x.op = true → n = x.i) : skipZ x n = x := by
  unfold skipZ
  cases hb : brB x.op
  · rfl
  · rw [h hb]; rfl
theorem lay0_one {x : Ins} (h : fnB x.op = false) : lay0 x = [x] := by unfold lay0; rw [h]; rfl
theorem lay0_none {x : Ins} (h : fnB x.op = true) : lay0 x = [] := by unfold lay0; rw [h]; rfl
theorem relay0_plain {l : List Ins} (h : ∀ x ∈ l, fnB x.op = false) (hi : inside l = true) : relay lay0 l = l := by
  induction l with
  | nil => rfl
  | cons x xs ih =>
    obtain ⟨h1, h2⟩ := inside_parts hi
    rw [relay, ih (fun y hy => h y (by simp [hy])) h1]
    have hx : skipZ x (laid lay0 (xs.take x.i.toNat)) = x := skip_same fun hb => by
      have := h2 hb
      rw [laid0_plain (fun y hy => h y (by simp [List.mem_of_mem_take hy])), List.length_take]
      omega
    rw [hx, lay0_one (h x (by simp))]
    rfl
theorem bare_again (l : List Ins) : bareL (bareL l) = bareL l := relay0_plain (bare_nofence l) (inside_bare l)

theorem lay1_cases (x : Ins) (n : Int) : (kindZ x.op = 0 ∧ lay1 (skipZ x n) = [skipZ x n]) ∨ (kindZ x.op ≠ 0 ∧ lay1 (skipZ x n) = [dmb, x]) := by
  by_cases h : kindZ x.op = 0
  · left; exact ⟨h, by unfold lay1; rw [skip_op, if_pos h]⟩
  · right; exact ⟨h, by unfold lay1; rw [skip_op, if_neg h, skip_mem h]⟩
theorem laid0_lay1 {x : Ins} {n : Int} (h : fnB x.op = false) : laid lay0 (lay1 (skipZ x n)) = 1 := by
  rcases lay1_cases x n with ⟨_, e⟩ | ⟨_, e⟩
  · rw [e, laid_cons', laid_nil, lay0_one (by rw [skip_op]; exact h)]; rfl
  · rw [e, laid_cons', laid_cons', laid_nil, lay0_one h, lay0_none (by decide)]; rfl
theorem laid_relay1 : ∀ (xs : List Ins) (n : Nat), (∀ x ∈ xs, fnB x.op = false) → n ≤ xs.length → laid lay0 ((relay lay1 xs).take (laid lay1 (xs.take n)).toNat) = n
  | xs, 0, _, _ => by simp [laid]
  | [], n + 1, _, h => by simp at h
  | x :: xs, n + 1, h, hn => by
    have hl := lay1_skip x (laid lay1 (xs.take x.i.toNat))
    have h0 := laid_nonneg (lay := lay1) (xs := xs.take n)
    rw [List.take_succ_cons, laid_cons', relay]
    rw [show (((lay1 x).length : Int) + laid lay1 (xs.take n)).toNat = (lay1 (skipZ x (laid lay1 (xs.take x.i.toNat)))).length + (laid lay1 (xs.take n)).toNat by omega]
    rw [List.take_length_add_append, laid_append, laid0_lay1 (h x (by simp)), laid_relay1 xs n (fun y hy => h y (by simp [hy])) (by simpa using hn)]
    omega
theorem relay0_relay1 {m : List Ins} (h : ∀ x ∈ m, fnB x.op = false) (hi : inside m = true) : relay lay0 (relay lay1 m) = m := by
  induction m with
  | nil => rfl
  | cons x xs ih =>
    obtain ⟨h1, h2⟩ := inside_parts hi
    have hx := h x (by simp)
    have hxs : ∀ y ∈ xs, fnB y.op = false := fun y hy => h y (by simp [hy])
    have ih' := ih hxs h1
    rw [relay]
    rcases lay1_cases x (laid lay1 (xs.take x.i.toNat)) with ⟨hk, e⟩ | ⟨hk, e⟩
    · rw [e, List.cons_append, List.nil_append, relay, ih', skip_skip]
      have hs : skipZ x (laid lay0 ((relay lay1 xs).take (skipZ x (laid lay1 (xs.take x.i.toNat))).i.toNat)) = x := skip_same fun hb => by
        have := h2 hb
        have e2 : (skipZ x (laid lay1 (xs.take x.i.toNat))).i = laid lay1 (xs.take x.i.toNat) := by unfold skipZ; rw [hb]; rfl
        rw [e2, laid_relay1 xs x.i.toNat hxs (by omega)]
        omega
      rw [hs, lay0_one hx]; rfl
    · rw [e, List.cons_append, List.cons_append, List.nil_append, relay, relay, ih', lay0_none (by rw [skip_op]; decide), skip_mem hk, lay0_one hx]; rfl
theorem fenced_again (l : List Ins) : fencedL (fencedL l) = fencedL l := by
  unfold fencedL
  rw [show bareL (relay lay1 (bareL l)) = bareL l from relay0_relay1 (bare_nofence l) (inside_bare l)]

theorem cnt_acc (l : List Ins) : ∀ a b : Int, cntT (accL l) a b = cntT l a b := by
  induction l with
  | nil => intro a b; rfl
  | cons x xs ih =>
    intro a b
    simp only [accL]
    split
    · rename_i hk
      rw [ih, cntT, hk]; simp
    · simp only [cntT]
      split
      · exact ih _ _
      · split
        · exact ih _ _
        · exact ih _ _
theorem cR_bare (l : List Ins) : cR (bareL l) = cR l ∧ cW (bareL l) = cW l := by
  unfold cR cW
  rw [← cnt_acc (bareL l), acc_bare, cnt_acc]
  exact ⟨rfl, rfl⟩
theorem cRs_bare (ts : List (List Ins)) : cRs (ts.map bareL) = cRs ts ∧ cWs (ts.map bareL) = cWs ts := by
  induction ts with
  | nil => exact ⟨rfl, rfl⟩
  | cons l ls ih => simp only [List.map_cons, cRs, cWs]; rw [(cR_bare l).1, (cR_bare l).2, ih.1, ih.2]; exact ⟨rfl, rfl⟩

theorem may_behind {op d a b l i x x' y : Int} (h : brB op = false) (hm : mayB op d a b l i x y = true) : mayB op d a b l i x' y = true := by
  obtain ⟨h0, h1, h2, h3, h4, h5⟩ := may_parts hm
  have : m5B op i x' = true := by
    unfold m5B at *
    cases hI : hasIB op
    · rw [hI] at h5; exact h5
    · rw [hI] at h5
      simp only [cond_true] at *
      unfold immB at *
      split at h5
      · rename_i hc; rw [if_pos hc]; exact h5
      · rename_i hc; rw [if_neg hc]
        split at h5
        · rename_i hc2; rw [if_pos hc2]; exact h5
        · rename_i hc2
          exfalso
          unfold hasIB at hI
          unfold brB at h
          simp at hI h
          omega
  unfold mayB
  rw [decide_eq_true h0, h1, h2, h3, h4, this]; rfl
theorem may_branch {op d a b l i n x x' y : Int} (h : brB op = true) (hm : mayB op d a b l i x y = true) (h0 : 0 ≤ n) (h1 : n ≤ x') : mayB op d a b l n x' y = true := by
  obtain ⟨g0, g1, g2, g3, g4, _⟩ := may_parts hm
  have : m5B op n x' = true := by
    unfold brB at h
    simp only [Bool.or_eq_true, beq_iff_eq] at h
    unfold m5B immB
    rw [show hasIB op = true by rcases h with h | h <;> rw [h] <;> decide, if_neg (by omega), if_neg (by omega)]
    simp; omega
  unfold mayB
  rw [decide_eq_true g0, g1, g2, g3, g4, this]; rfl
theorem bad_bare {locs : Int} : ∀ {l : List Ins} {k k' : Nat}, badAt locs l k = none → badAt locs (bareL l) k' = none
  | [], _, _, _ => rfl
  | x :: xs, k, k', h => by
    rw [badAt] at h
    cases hm : mayI x xs.length locs
    · rw [hm] at h; cases h
    · rw [hm] at h
      unfold bareL
      rw [relay]
      cases hf : fnB x.op
      · rw [lay0_one (by rw [skip_op]; exact hf), List.cons_append, List.nil_append, badAt]
        have hmay : mayI (skipZ x (laid lay0 (xs.take x.i.toNat))) (relay lay0 xs).length locs = true := by
          unfold mayI at *
          cases hb : brB x.op
          · rw [show skipZ x (laid lay0 (xs.take x.i.toNat)) = x by unfold skipZ; rw [hb]; rfl]
            exact may_behind hb hm
          · rw [show skipZ x (laid lay0 (xs.take x.i.toNat)) = { x with i := laid lay0 (xs.take x.i.toNat) } by unfold skipZ; rw [hb]; rfl]
            refine may_branch hb hm laid_nonneg ?_
            rw [relay_length lay0_skip]
            exact laid_take_le _ _
        rw [hmay]
        exact bad_bare (l := xs) (k := k + 1) h
      · rw [lay0_none (by rw [skip_op]; exact hf), List.nil_append]
        exact bad_bare (l := xs) (k := k + 1) h
def emptyB (ts : List (List Ins)) : Bool := ts.any fun l => decide (l.length = 0)
theorem check_bare {xs : List Int} {ts : List (List Ins)} (h : (checkZ xs ts).2.2 = 0) : ((checkZ xs (ts.map bareL)).2.2 == 0) = !emptyB (ts.map bareL) := by
  obtain ⟨h0, h1, h2, h3, h4, h5⟩ := check_parts h
  cases he : emptyB (ts.map bareL)
  · rw [cntTs_add] at h4 h5
    rw [check_make h0 (by simpa using h1) (by simpa using h2) (thrs_none fun l hl => ?_) (by rw [cntTs_add, (cRs_bare ts).1, (cRs_bare ts).2]; exact h4) (by rw [cntTs_add, (cRs_bare ts).1]; exact h5)]
    · rfl
    · have hne : ¬ l.length = 0 := fun hl0 => by
        have : emptyB (ts.map bareL) = true := by unfold emptyB; rw [List.any_eq_true]; exact ⟨l, hl, by simp [hl0]⟩
        rw [he] at this; cases this
      obtain ⟨l', hl', rfl⟩ := List.mem_map.1 hl
      obtain ⟨g1, g2, g3⟩ := thrs_ok h3 l' hl'
      have := bareL_len l'
      unfold thrE
      rw [if_neg (by omega), bad_bare g3]
  · have : (checkZ xs (ts.map bareL)).2.2 ≠ 0 := fun hc => by
      obtain ⟨_, _, _, g3, _⟩ := check_parts hc
      unfold emptyB at he
      rw [List.any_eq_true] at he
      obtain ⟨l, hl, hl0⟩ := he
      have := thrs_ok g3 l hl
      simp at hl0
      rw [hl0] at this
      simp at this
    simpa using this
end Go.Proofs.YtpmecgagbjphdaaDoor
