/- FlowM: FlowMath3, FlowMath2, in one text. -/
import Derived.Test.YtpmaifmokhnboaaGreatDoorFlowP
/- What a run makes of fewer guesses, and of threads without branches. -/
namespace Go.Proofs.YtpmaifmokhnboaaGreatDoor
open Go.RowKit

/-- A step adds events alone, and takes more, or as much. -/
theorem step_grows (locs : Int) (vals : List Int) (lucks : List Bool) (x : Ins) (s : St) : s.evs <+: (s.step locs vals lucks x).evs ∧ s.vals ≤ (s.step locs vals lucks x).vals ∧ s.lucks ≤ (s.step locs vals lucks x).lucks := by
  unfold St.step
  repeat' split
  all_goals first
    | exact ⟨List.prefix_rfl, Nat.le_refl _, Nat.le_refl _⟩
    | exact ⟨List.prefix_rfl, Nat.le_refl _, Nat.le_succ _⟩
    | exact ⟨List.prefix_append _ _, Nat.le_refl _, Nat.le_refl _⟩
    | exact ⟨List.prefix_append _ _, Nat.le_refl _, Nat.le_succ _⟩
    | (unfold St.load; simp only []; split <;> exact ⟨List.prefix_append _ _, Nat.le_succ _, Nat.le_refl _⟩)
theorem run_grows (th : List Ins) (locs : Int) (vals : List Int) (lucks : List Bool) : ∀ (n : Nat) (s : St), s.evs <+: (St.run th locs vals lucks n s).evs ∧ s.vals ≤ (St.run th locs vals lucks n s).vals ∧ s.lucks ≤ (St.run th locs vals lucks n s).lucks
  | 0, s => ⟨List.prefix_rfl, Nat.le_refl _, Nat.le_refl _⟩
  | n + 1, s => by
    unfold St.run
    split
    · split
      · rename_i x _
        obtain ⟨a, b, c⟩ := run_grows th locs vals lucks n (s.inc.step locs vals lucks x)
        obtain ⟨a', b', c'⟩ := step_grows locs vals lucks x s.inc
        exact ⟨List.IsPrefix.trans a' a, Nat.le_trans b' b, Nat.le_trans c' c⟩
      · exact ⟨List.prefix_rfl, Nat.le_refl _, Nat.le_refl _⟩
    · exact ⟨List.prefix_rfl, Nat.le_refl _, Nat.le_refl _⟩
theorem run_doneN {th : List Ins} {locs : Int} {vals : List Int} {lucks : List Bool} {s : St} (h : s.more ≠ 0) : ∀ n, St.run th locs vals lucks n s = s
  | 0 => rfl
  | n + 1 => by unfold St.run; rw [if_neg h]

/-- One step on fewer values. -/
theorem step_cut {locs : Int} {vals : List Int} {lucks : List Bool} {x : Ins} {s : St} {k : Nat} (hk : k ≤ vals.length) (hs : s.vals ≤ k) :
    (s.step locs (vals.take k) lucks x = s.step locs vals lucks x ∧ (s.step locs vals lucks x).vals ≤ k) ∨
    ((s.step locs (vals.take k) lucks x).more = 1 ∧ (s.step locs (vals.take k) lucks x).vals = k ∧ (s.step locs (vals.take k) lucks x).evs = s.evs) := by
  by_cases hl : x.op = 5 ∨ x.op = 7 ∨ x.op = 9
  · have hlen : (vals.take k).length = k := by rw [List.length_take]; omega
    by_cases he : s.vals = k
    · refine .inr ?_
      have e : s.step locs (vals.take k) lucks x = { s with more := 1 } := by
        unfold St.step; rw [if_pos hl, if_pos (by rw [hlen]; exact he)]
      rw [e]
      exact ⟨rfl, he, rfl⟩
    · refine .inl ?_
      have e1 : s.step locs (vals.take k) lucks x = s.load locs ((vals.take k).getD s.vals 0) x := by
        unfold St.step; rw [if_pos hl, if_neg (by rw [hlen]; exact he)]
      have e2 : s.step locs vals lucks x = s.load locs (vals.getD s.vals 0) x := by
        unfold St.step; rw [if_pos hl, if_neg (by omega)]
      have e3 : (vals.take k).getD s.vals 0 = vals.getD s.vals 0 := by
        rw [List.getD_eq_getElem?_getD, List.getD_eq_getElem?_getD, List.getElem?_take, if_pos (by omega)]
      refine ⟨by rw [e1, e2, e3], ?_⟩
      rw [e2]
      unfold St.load
      simp only []
      split <;> (show s.vals + 1 ≤ k; omega)
  · refine .inl ?_
    have e : s.step locs (vals.take k) lucks x = s.step locs vals lucks x := by
      unfold St.step; rw [if_neg hl, if_neg hl]
    refine ⟨e, ?_⟩
    unfold St.step
    rw [if_neg hl]
    repeat' split
    all_goals exact hs
/-- A run on fewer values: the same, or it ends where they do. -/
theorem run_cut {th : List Ins} {locs : Int} {vals : List Int} {lucks : List Bool} {k : Nat} (hk : k ≤ vals.length) : ∀ (n : Nat) (s : St), s.vals ≤ k →
    (St.run th locs (vals.take k) lucks n s = St.run th locs vals lucks n s ∧ (St.run th locs vals lucks n s).vals ≤ k) ∨
    ((St.run th locs (vals.take k) lucks n s).more = 1 ∧ (St.run th locs (vals.take k) lucks n s).vals = k ∧ (St.run th locs (vals.take k) lucks n s).evs <+: (St.run th locs vals lucks n s).evs)
  | 0, s, hs => .inl ⟨rfl, hs⟩
  | n + 1, s, hs => by
    have hgr := run_grows th locs vals lucks (n + 1) s
    by_cases hm : s.more = 0
    · cases hx : th[s.next]? with
      | none =>
        have e : ∀ vs, St.run th locs vs lucks (n + 1) s = s := fun vs => by unfold St.run; rw [if_pos hm, hx]
        rw [e, e]
        exact .inl ⟨rfl, hs⟩
      | some x =>
        have e : ∀ vs, St.run th locs vs lucks (n + 1) s = St.run th locs vs lucks n (s.inc.step locs vs lucks x) := fun vs => by
          rw [St.run, if_pos hm, hx]
        rw [e] at hgr
        rw [e, e]
        rcases step_cut (x := x) (s := s.inc) (locs := locs) (lucks := lucks) hk hs with ⟨a, b⟩ | ⟨a, b, c⟩
        · rw [a]
          exact run_cut hk n _ b
        · refine .inr ?_
          rw [run_doneN (by rw [a]; decide)]
          exact ⟨a, b, by rw [c]; exact hgr.1⟩
    · rw [run_doneN hm, run_doneN hm]
      exact .inl ⟨rfl, hs⟩

/-- One step on what it takes, if it goes on. -/
theorem step_enough {locs : Int} {vals : List Int} {lucks : List Bool} {x : Ins} {s : St} {k m : Nat} (_hz : s.more = 0) (hm : (s.step locs vals lucks x).more = 0) (hk : k ≤ vals.length) (hl : m ≤ lucks.length) (_hs : s.vals ≤ vals.length) (_hs' : s.lucks ≤ lucks.length)
    (h1 : (s.step locs vals lucks x).vals ≤ k) (h2 : (s.step locs vals lucks x).lucks ≤ m) : s.step locs (vals.take k) (lucks.take m) x = s.step locs vals lucks x := by
  have hlen : (vals.take k).length = k := by rw [List.length_take]; omega
  have hlen' : (lucks.take m).length = m := by rw [List.length_take]; omega
  by_cases hld : x.op = 5 ∨ x.op = 7 ∨ x.op = 9
  · by_cases hv : s.vals = vals.length
    · have e2 : s.step locs vals lucks x = { s with more := 1 } := by unfold St.step; rw [if_pos hld, if_pos hv]
      rw [e2] at hm
      exact absurd (show (1 : Int) = 0 from hm) (by decide)
    · have e2 : s.step locs vals lucks x = s.load locs (vals.getD s.vals 0) x := by unfold St.step; rw [if_pos hld, if_neg hv]
      have e4 : (s.load locs (vals.getD s.vals 0) x).vals = s.vals + 1 := by unfold St.load; simp only []; split <;> rfl
      rw [e2, e4] at h1
      have e1 : s.step locs (vals.take k) (lucks.take m) x = s.load locs ((vals.take k).getD s.vals 0) x := by unfold St.step; rw [if_pos hld, if_neg (by omega)]
      rw [e1, e2, List.getD_eq_getElem?_getD, List.getD_eq_getElem?_getD, List.getElem?_take, if_pos (by omega)]
  · by_cases hst : x.op = 6 ∨ x.op = 8
    · unfold St.step; rw [if_neg hld, if_neg hld, if_pos hst, if_pos hst]
    · by_cases h10 : x.op = 10
      · by_cases hr : s.reach locs x = true
        · by_cases hv : s.lucks = lucks.length
          · have e2 : s.step locs vals lucks x = { s with opn := -1, more := 2 } := by unfold St.step; rw [if_neg hld, if_neg hst, if_pos h10, if_pos hr, if_pos hv]
            rw [e2] at hm
            exact absurd (show (2 : Int) = 0 from hm) (by decide)
          · have e2 : s.step locs vals lucks x = if lucks.getD s.lucks false = true then s.stx locs x else ({ s with lucks := s.lucks + 1 } : St).fail x := by unfold St.step; rw [if_neg hld, if_neg hst, if_pos h10, if_pos hr, if_neg hv]
            have e4 : (if lucks.getD s.lucks false = true then s.stx locs x else ({ s with lucks := s.lucks + 1 } : St).fail x).lucks = s.lucks + 1 := by split <;> rfl
            rw [e2, e4] at h2
            have e1 : s.step locs (vals.take k) (lucks.take m) x = if (lucks.take m).getD s.lucks false = true then s.stx locs x else ({ s with lucks := s.lucks + 1 } : St).fail x := by unfold St.step; rw [if_neg hld, if_neg hst, if_pos h10, if_pos hr, if_neg (by omega)]
            have e5 : (lucks.take m).getD s.lucks false = lucks.getD s.lucks false := by rw [List.getD_eq_getElem?_getD, List.getD_eq_getElem?_getD, List.getElem?_take, if_pos (by omega)]
            rw [e1, e2, e5]
        · unfold St.step; rw [if_neg hld, if_neg hld, if_neg hst, if_neg hst, if_pos h10, if_pos h10, if_neg hr, if_neg hr]
      · unfold St.step; rw [if_neg hld, if_neg hld, if_neg hst, if_neg hst, if_neg h10, if_neg h10]
/-- A run that is done, on what it took. -/
theorem run_enough {th : List Ins} {locs : Int} {vals : List Int} {lucks : List Bool} (hmay : mayF locs th = true) {k m : Nat} (hk : k ≤ vals.length) (hl : m ≤ lucks.length) : ∀ (n : Nat) (s : St), StOk th.length vals lucks s → (St.run th locs vals lucks n s).more = 0 → (St.run th locs vals lucks n s).vals ≤ k → (St.run th locs vals lucks n s).lucks ≤ m →
    St.run th locs (vals.take k) (lucks.take m) n s = St.run th locs vals lucks n s
  | 0, s, _, _, _, _ => rfl
  | n + 1, s, hok, h0, h1, h2 => by
    by_cases hm : s.more = 0
    · cases hx : th[s.next]? with
      | none =>
        have e : ∀ vs ls, St.run th locs vs ls (n + 1) s = s := fun vs ls => by unfold St.run; rw [if_pos hm, hx]
        rw [e, e]
      | some x =>
        have e : ∀ vs ls, St.run th locs vs ls (n + 1) s = St.run th locs vs ls n (s.inc.step locs vs ls x) := fun vs ls => by rw [St.run, if_pos hm, hx]
        rw [e] at h0 h1 h2
        have hgr := run_grows th locs vals lucks n (s.inc.step locs vals lucks x)
        have hlt : s.next < th.length := (List.getElem?_eq_some_iff.1 hx).1
        have hi := mayF_at hmay _ _ hx
        have hok' : StOk th.length vals lucks (s.inc.step locs vals lucks x) := (hok.inc hlt).step (by
          rw [show th.length - s.inc.next = th.length - 1 - s.next by simp only [St.inc]; omega]; exact hi)
        have hz : (s.inc.step locs vals lucks x).more = 0 := by
          by_cases hz : (s.inc.step locs vals lucks x).more = 0
          · exact hz
          · rw [run_doneN hz] at h0; exact absurd h0 hz
        rw [e, e, step_enough (s := s.inc) hm hz hk hl hok.vs hok.ls (Nat.le_trans hgr.2.1 h1) (Nat.le_trans hgr.2.2 h2)]
        exact run_enough hmay hk hl n _ hok' h0 h1 h2
    · rw [run_doneN hm, run_doneN hm]

/-- A run of a thread on what it took is the same, if it was done. -/
theorem runT_enough {th : List Ins} {locs : Int} {vals : List Int} {lucks : List Bool} (hv : (runT th locs vals lucks).vals ≤ vals.length) (hl : (runT th locs vals lucks).lucks ≤ lucks.length) (h0 : (runT th locs vals lucks).more = 0) :
    runT th locs (vals.take (runT th locs vals lucks).vals) (lucks.take (runT th locs vals lucks).lucks) = runT th locs vals lucks := by
  by_cases hm : mayT th locs = true
  · have e : ∀ vs ls, runT th locs vs ls = St.run th locs vs ls th.length .zero := fun vs ls => by unfold runT; rw [if_pos hm]
    rw [e] at hv hl h0
    rw [e, e]
    have hm' := hm
    unfold mayT at hm'
    simp only [Bool.and_eq_true, decide_eq_true_eq] at hm'
    exact run_enough hm'.2 hv hl _ _ (stOk_zero _ _ _) h0 (Nat.le_refl _) (Nat.le_refl _)
  · have e : ∀ vs ls, runT th locs vs ls = .zero := fun vs ls => by unfold runT; rw [if_neg hm]
    rw [e, e]
/-- On the first values alone. -/
theorem runT_cut {th : List Ins} {locs : Int} {vals : List Int} {lucks : List Bool} {k : Nat} (hk : k ≤ (runT th locs vals lucks).vals) (hv : (runT th locs vals lucks).vals ≤ vals.length) :
    (runT th locs (vals.take k) lucks).evs <+: (runT th locs vals lucks).evs ∧ (runT th locs (vals.take k) lucks).vals ≤ k ∧ (k = (runT th locs vals lucks).vals ∨ (runT th locs (vals.take k) lucks).more = 1 ∧ (runT th locs (vals.take k) lucks).vals = k) := by
  by_cases hm : mayT th locs = true
  · have e : ∀ vs ls, runT th locs vs ls = St.run th locs vs ls th.length .zero := fun vs ls => by unfold runT; rw [if_pos hm]
    rw [e] at hk hv
    rw [e, e]
    rcases run_cut (th := th) (locs := locs) (lucks := lucks) (Nat.le_trans hk hv) th.length .zero (Nat.zero_le _) with ⟨a, b⟩ | ⟨a, b, c⟩
    · rw [a]
      exact ⟨List.prefix_rfl, b, .inl (Nat.le_antisymm hk b)⟩
    · exact ⟨c, Nat.le_of_eq b, .inr ⟨a, b⟩⟩
  · have e : ∀ vs ls, runT th locs vs ls = .zero := fun vs ls => by unfold runT; rw [if_neg hm]
    rw [e] at hk
    rw [e, e]
    exact ⟨List.prefix_rfl, Nat.zero_le _, .inl (Nat.le_antisymm hk (Nat.zero_le _))⟩

/-- No branch. -/
def nobB (x : Ins) : Bool := !(x.op == 13) && !(x.op == 14)
theorem nob_is {x : Ins} (h : nobB x = true) : x.op ≠ 13 ∧ x.op ≠ 14 := by
  unfold nobB at h
  simp only [Bool.and_eq_true, Bool.not_eq_true', beq_eq_false_iff_ne, ne_eq] at h
  exact h
theorem step_nextN {locs : Int} {vals : List Int} {lucks : List Bool} {x : Ins} {s : St} (h : nobB x = true) : (s.step locs vals lucks x).next = s.next := by
  obtain ⟨h1, h2⟩ := nob_is h
  unfold St.step
  rw [if_neg (show ¬(x.op = 13 ∨ x.op = 14) by omega)]
  repeat' split
  all_goals first
    | rfl
    | (unfold St.load; simp only []; split <;> rfl)
/-- One instruction behind the other. -/
def St.fold (locs : Int) (vals : List Int) (lucks : List Bool) : List Ins → St → St
  | [], s => s
  | x :: l, s => if s.more = 0 then St.fold locs vals lucks l (s.inc.step locs vals lucks x) else s
theorem run_fold {th : List Ins} {locs : Int} {vals : List Int} {lucks : List Bool} (hb : th.all nobB = true) : ∀ (n : Nat) (s : St), th.length - s.next ≤ n → St.run th locs vals lucks n s = St.fold locs vals lucks (th.drop s.next) s
  | 0, s, h => by
    rw [List.drop_eq_nil_of_le (by omega)]
    rfl
  | n + 1, s, h => by
    by_cases hn : s.next < th.length
    · rw [List.drop_eq_getElem_cons hn, St.run, St.fold]
      split
      · rw [List.getElem?_eq_getElem hn]
        simp only []
        have hx : nobB th[s.next] = true := List.all_eq_true.1 hb _ (List.getElem_mem hn)
        have e : (s.inc.step locs vals lucks th[s.next]).next = s.next + 1 := step_nextN hx
        rw [run_fold hb n _ (by omega), e]
      · rfl
    · rw [List.drop_eq_nil_of_le (by omega), St.run, St.fold]
      split
      · rw [List.getElem?_eq_none (by omega)]
      · rfl
theorem runT_fold {th : List Ins} {locs : Int} {vals : List Int} {lucks : List Bool} (hb : th.all nobB = true) (hm : mayT th locs = true) : runT th locs vals lucks = St.fold locs vals lucks th .zero := by
  unfold runT
  rw [if_pos hm, run_fold hb _ _ (Nat.sub_le _ _)]
  rfl
theorem fold_done {locs : Int} {vals : List Int} {lucks : List Bool} {s : St} (h : s.more ≠ 0) : ∀ l, St.fold locs vals lucks l s = s
  | [] => rfl
  | x :: l => by unfold St.fold; rw [if_neg h]
theorem fold_app {locs : Int} {vals : List Int} {lucks : List Bool} {m : List Ins} : ∀ (l : List Ins) (s : St), St.fold locs vals lucks (l ++ m) s = St.fold locs vals lucks m (St.fold locs vals lucks l s)
  | [], s => rfl
  | x :: l, s => by
    rw [List.cons_append, St.fold, St.fold]
    split
    · exact fold_app l _
    · rename_i h
      rw [fold_done h]
theorem fold_grows {locs : Int} {vals : List Int} {lucks : List Bool} : ∀ (l : List Ins) (s : St), s.evs <+: (St.fold locs vals lucks l s).evs ∧ s.vals ≤ (St.fold locs vals lucks l s).vals ∧ s.lucks ≤ (St.fold locs vals lucks l s).lucks
  | [], s => ⟨List.prefix_rfl, Nat.le_refl _, Nat.le_refl _⟩
  | x :: l, s => by
    rw [St.fold]
    split
    · obtain ⟨a, b, c⟩ := fold_grows (locs := locs) (vals := vals) (lucks := lucks) l (s.inc.step locs vals lucks x)
      obtain ⟨a', b', c'⟩ := step_grows locs vals lucks x s.inc
      exact ⟨List.IsPrefix.trans a' a, Nat.le_trans b' b, Nat.le_trans c' c⟩
    · exact ⟨List.prefix_rfl, Nat.le_refl _, Nat.le_refl _⟩

/-- Without branches it doesn't matter how many are behind. -/
theorem may_nob {x : Ins} {locs n m : Int} (h : nobB x = true) : mayB x.op x.d x.a x.b x.l x.i n locs = mayB x.op x.d x.a x.b x.l x.i m locs := by
  obtain ⟨h1, h2⟩ := nob_is h
  unfold mayB
  congr 5
  unfold m5B immB
  by_cases e1 : x.op = 1
  · rw [if_pos e1, if_pos e1]
  · by_cases e2 : x.op = 11
    · rw [if_neg e1, if_neg e1, if_pos e2, if_pos e2]
    · have : hasIB x.op = false := by unfold hasIB; simp; omega
      rw [this]
      rfl
theorem mayF_sub {locs : Int} : ∀ {l m : List Ins}, l.Sublist m → m.all nobB = true → mayF locs m = true → mayF locs l = true
  | _, _, .slnil, _, h => h
  | _, _, .cons x s, hb, h => by
    simp only [List.all_cons, Bool.and_eq_true] at hb
    simp only [mayF, Bool.and_eq_true] at h
    exact mayF_sub s hb.2 h.2
  | _, _, .cons_cons x s, hb, h => by
    simp only [List.all_cons, Bool.and_eq_true] at hb
    simp only [mayF, Bool.and_eq_true] at h ⊢
    exact ⟨(may_nob hb.1).trans h.1, mayF_sub s hb.2 h.2⟩
theorem mayT_sub {locs : Int} {l m : List Ins} (s : l.Sublist m) (hb : m.all nobB = true) (h : mayT m locs = true) : mayT l locs = true := by
  unfold mayT at h ⊢
  simp only [Bool.and_eq_true, decide_eq_true_eq] at h ⊢
  exact ⟨⟨Nat.le_trans s.length_le h.1.1, h.1.2⟩, mayF_sub s hb h.2⟩
theorem all_sub {p : Ins → Bool} {l m : List Ins} (s : l.Sublist m) (hb : m.all p = true) : l.all p = true :=
  List.all_eq_true.2 fun x hx => List.all_eq_true.1 hb x (s.subset hx)
/-- A thread's run begins with that of its first instructions. -/
theorem runT_begins {th : List Ins} {locs : Int} {vals : List Int} {lucks : List Bool} (hb : th.all nobB = true) (hm : mayT th locs = true) (k : Nat) :
    (runT (th.take k) locs vals lucks).evs <+: (runT th locs vals lucks).evs ∧ (runT (th.take k) locs vals lucks).vals ≤ (runT th locs vals lucks).vals ∧ (runT (th.take k) locs vals lucks).lucks ≤ (runT th locs vals lucks).lucks ∧
    ((runT (th.take k) locs vals lucks).more = 0 ∨ (runT th locs vals lucks).more = (runT (th.take k) locs vals lucks).more) := by
  have s : (th.take k).Sublist th := List.take_sublist k th
  rw [runT_fold (all_sub s hb) (mayT_sub s hb hm), runT_fold hb hm]
  have e : St.fold locs vals lucks th .zero = St.fold locs vals lucks (th.drop k) (St.fold locs vals lucks (th.take k) .zero) := by rw [← fold_app, List.take_append_drop]
  rw [e]
  generalize St.fold locs vals lucks (th.take k) .zero = S
  obtain ⟨a, b, c⟩ := fold_grows (locs := locs) (vals := vals) (lucks := lucks) (th.drop k) S
  refine ⟨a, b, c, ?_⟩
  by_cases h : S.more = 0
  · exact .inl h
  · exact .inr (by rw [fold_done h])

/-- Reads and writes. -/
def rwB (e : Ev) : Bool := (e.kd == 1) || (e.kd == 2)
/-- No barrier. -/
def barB (x : Ins) : Bool := !(x.op == 11) && !(x.op == 12)
/-- Two runs that differ in barriers alone. -/
structure Sim (a b : St) : Prop where
  v : a.v = b.v
  vals : a.vals = b.vals
  lucks : a.lucks = b.lucks
  more : a.more = b.more
  evs : b.evs = a.evs.filter rwB
  opn : (a.opn = -1 ∧ b.opn = -1) ∨ (0 ≤ a.opn ∧ 0 ≤ b.opn ∧ a.opn.toNat < a.evs.length ∧ b.opn.toNat < b.evs.length ∧ a.lcAt a.opn = b.lcAt b.opn)
theorem Sim.bar {a b : St} (h : Sim a b) {e : Ev} (he : rwB e = false) (x y z : Int) : Sim (a.add e x y z) b := by
  refine ⟨h.v, h.vals, h.lucks, h.more, ?_, ?_⟩
  · show b.evs = (a.evs ++ [e]).filter rwB
    rw [List.filter_append, List.filter_cons_of_neg (by rw [he]; decide), List.filter_nil, List.append_nil]
    exact h.evs
  · rcases h.opn with h' | ⟨h1, h2, h3, h4, h5⟩
    · exact .inl h'
    · refine .inr ⟨h1, h2, ?_, h4, ?_⟩
      · show a.opn.toNat < (a.evs ++ [e]).length
        rw [List.length_append]; omega
      · rw [← h5]
        show (((a.evs ++ [e])[a.opn.toNat]?).map Ev.lc).getD 0 = ((a.evs[a.opn.toNat]?).map Ev.lc).getD 0
        rw [List.getElem?_append_left h3]
theorem Sim.add {a b : St} (h : Sim a b) {e : Ev} (he : rwB e = true) (x y z x' y' z' : Int) : Sim (a.add e x y z) (b.add e x' y' z') := by
  refine ⟨h.v, h.vals, h.lucks, h.more, ?_, ?_⟩
  · show b.evs ++ [e] = (a.evs ++ [e]).filter rwB
    rw [List.filter_append, List.filter_cons_of_pos he, List.filter_nil, h.evs]
  · rcases h.opn with h' | ⟨h1, h2, h3, h4, h5⟩
    · exact .inl h'
    · refine .inr ⟨h1, h2, ?_, ?_, ?_⟩
      · show a.opn.toNat < (a.evs ++ [e]).length
        rw [List.length_append]; omega
      · show b.opn.toNat < (b.evs ++ [e]).length
        rw [List.length_append]; omega
      · show (((a.evs ++ [e])[a.opn.toNat]?).map Ev.lc).getD 0 = (((b.evs ++ [e])[b.opn.toNat]?).map Ev.lc).getD 0
        rw [List.getElem?_append_left h3, List.getElem?_append_left h4]
        exact h5
theorem Sim.set {a b : St} (h : Sim a b) (n x y y' : Int) : Sim (a.set n x y) (b.set n x y') :=
  ⟨by show upd a.v n x = upd b.v n x; rw [h.v], h.vals, h.lucks, h.more, h.evs, h.opn⟩
theorem Sim.inc {a b : St} (h : Sim a b) : Sim a.inc b.inc := ⟨h.v, h.vals, h.lucks, h.more, h.evs, h.opn⟩
theorem Sim.incl {a b : St} (h : Sim a b) : Sim a.inc b := ⟨h.v, h.vals, h.lucks, h.more, h.evs, h.opn⟩
theorem Sim.reach {a b : St} (h : Sim a b) (locs : Int) (x : Ins) : a.reach locs x = b.reach locs x := by
  unfold St.reach
  rcases h.opn with ⟨h1, h2⟩ | ⟨h1, h2, h3, h4, h5⟩
  · rw [h1, h2]; rfl
  · rw [h5, h.v, show (a.opn == -1) = false by simp; omega, show (b.opn == -1) = false by simp; omega]
theorem Sim.shut {a b : St} (h : Sim a b) : Sim { a with opn := -1 } { b with opn := -1 } := ⟨h.v, h.vals, h.lucks, h.more, h.evs, .inl ⟨rfl, rfl⟩⟩
theorem Sim.step {a b : St} (h : Sim a b) {locs : Int} {vals : List Int} {lucks : List Bool} {x : Ins} (h1 : nobB x = true) (h2 : barB x = true) : Sim (a.step locs vals lucks x) (b.step locs vals lucks x) := by
  obtain ⟨n13, n14⟩ := nob_is h1
  unfold barB at h2
  simp only [Bool.and_eq_true, Bool.not_eq_true', beq_eq_false_iff_ne, ne_eq] at h2
  have er : a.reach locs x = b.reach locs x := h.reach locs x
  have ew : wrEv locs x a = wrEv locs x b := by unfold wrEv; rw [h.v]
  by_cases hld : x.op = 5 ∨ x.op = 7 ∨ x.op = 9
  · unfold St.step
    rw [if_pos hld, if_pos hld, h.vals]
    split
    · exact ⟨h.v, rfl, h.lucks, rfl, h.evs, h.opn⟩
    · have ee : rdEv locs (vals.getD b.vals 0) x a = rdEv locs (vals.getD b.vals 0) x b := by unfold rdEv; rw [h.v]
      have k1 : Sim { a with vals := a.vals + 1 } { b with vals := b.vals + 1 } := ⟨h.v, by show a.vals + 1 = b.vals + 1; rw [h.vals], h.lucks, h.more, h.evs, h.opn⟩
      have k2 := (k1.add (e := rdEv locs (vals.getD b.vals 0) x b) rfl (placeD a.d x.op x.a locs) 0 (-1) (placeD b.d x.op x.a locs) 0 (-1)).set x.d (vals.getD b.vals 0) (2 ^ a.evs.length) (2 ^ b.evs.length)
      unfold St.load
      simp only []
      rw [ee]
      split
      · refine ⟨k2.v, k2.vals, k2.lucks, k2.more, k2.evs, .inr ⟨by simp, by simp, ?_, ?_, ?_⟩⟩
        · simp [St.set, St.add]
        · simp [St.set, St.add]
        · simp [St.lcAt, St.set, St.add]
      · exact k2
  · by_cases hst : x.op = 6 ∨ x.op = 8
    · unfold St.step
      rw [if_neg hld, if_neg hld, if_pos hst, if_pos hst]
      unfold St.write
      rw [ew]
      exact h.add rfl _ _ _ _ _ _
    · by_cases h10 : x.op = 10
      · unfold St.step
        rw [if_neg hld, if_neg hld, if_neg hst, if_neg hst, if_pos h10, if_pos h10, er, h.lucks]
        split
        · split
          · exact ⟨h.v, h.vals, rfl, rfl, h.evs, .inl ⟨rfl, rfl⟩⟩
          · have k1 : Sim { a with opn := -1, lucks := b.lucks + 1 } { b with opn := -1, lucks := b.lucks + 1 } := ⟨h.v, h.vals, rfl, h.more, h.evs, .inl ⟨rfl, rfl⟩⟩
            split
            · have ew2 : wrEv locs x { a with opn := -1, lucks := b.lucks + 1 } = wrEv locs x { b with opn := -1, lucks := b.lucks + 1 } := ew
              unfold St.stx St.write
              rw [h.lucks, ew2]
              exact (k1.add rfl _ _ _ _ _ _).set _ _ _ _
            · unfold St.fail
              exact k1.set _ _ _ _
        · unfold St.fail
          exact h.shut.set _ _ _ _
      · unfold St.step
        rw [if_neg hld, if_neg hld, if_neg hst, if_neg hst, if_neg h10, if_neg h10, if_neg h2.1, if_neg h2.1, if_neg h2.2, if_neg h2.2, if_neg (by omega), if_neg (by omega)]
        exact ⟨by show doV a.v _ _ _ _ _ = doV b.v _ _ _ _ _; rw [h.v], h.vals, h.lucks, h.more, h.evs, h.opn⟩
theorem Sim.stepBar {a b : St} (h : Sim a b) {locs : Int} {vals : List Int} {lucks : List Bool} {x : Ins} (h2 : barB x = false) (hi : x.op = 11 → 0 ≤ x.i) : Sim (a.step locs vals lucks x) b := by
  have hc : x.op = 11 ∨ x.op = 12 := by
    unfold barB at h2
    by_cases e : x.op = 11
    · exact .inl e
    · by_cases e' : x.op = 12
      · exact .inr e'
      · simp [e, e'] at h2
  unfold St.step
  rw [if_neg (show ¬(x.op = 5 ∨ x.op = 7 ∨ x.op = 9) by omega), if_neg (show ¬(x.op = 6 ∨ x.op = 8) by omega), if_neg (show ¬x.op = 10 by omega)]
  rcases hc with e | e
  · rw [if_pos e]
    have := hi e
    exact h.bar (by simp [rwB, brEv]; omega) _ _ _
  · rw [if_neg (show ¬x.op = 11 by omega), if_pos e]
    exact h.bar rfl _ _ _
theorem Sim.fold {locs : Int} {vals : List Int} {lucks : List Bool} : ∀ (l : List Ins) (a b : St), Sim a b → l.all nobB = true → mayF locs l = true → Sim (St.fold locs vals lucks l a) (St.fold locs vals lucks (l.filter barB) b)
  | [], a, b, h, _, _ => h
  | x :: l, a, b, h, hb, hm => by
    simp only [List.all_cons, Bool.and_eq_true] at hb
    simp only [mayF, Bool.and_eq_true] at hm
    by_cases hx : barB x = true
    · rw [List.filter_cons_of_pos hx, St.fold, St.fold, h.more]
      split
      · exact Sim.fold l _ _ (h.inc.step hb.1 hx) hb.2 hm.2
      · exact h
    · rw [List.filter_cons_of_neg hx, St.fold]
      split
      · exact Sim.fold l _ _ (h.incl.stepBar (by simpa using hx) (fun e => ((insOk hm.1).dmb e).1)) hb.2 hm.2
      · rename_i h0
        rw [fold_done (by rw [← h.more]; exact h0)]
        exact h
theorem runT_bare {th : List Ins} {locs : Int} {vals : List Int} {lucks : List Bool} (hb : th.all nobB = true) (hm : mayT th locs = true) : Sim (runT th locs vals lucks) (runT (th.filter barB) locs vals lucks) := by
  have s : (th.filter barB).Sublist th := List.filter_sublist
  rw [runT_fold (all_sub s hb) (mayT_sub s hb hm), runT_fold hb hm]
  have hm' := hm
  unfold mayT at hm'
  simp only [Bool.and_eq_true, decide_eq_true_eq] at hm'
  exact Sim.fold th _ _ ⟨rfl, rfl, rfl, rfl, rfl, .inl ⟨rfl, rfl⟩⟩ hb hm'.2
/-- An invariant of steps holds of what Run tells. -/
theorem runT_ind {th : List Ins} {locs : Int} {vals : List Int} {lucks : List Bool} (P : St → Prop) (h0 : P .zero)
    (hs : ∀ s x, mayT th locs = true → th[s.next]? = some x → s.more = 0 → StOk th.length vals lucks s → InsOk locs (th.length - 1 - s.next) x → P s → P (s.inc.step locs vals lucks x)) : P (runT th locs vals lucks) := by
  unfold runT
  split
  · rename_i hm
    have hm' := hm
    unfold mayT at hm'
    simp only [Bool.and_eq_true, decide_eq_true_eq] at hm'
    have key : ∀ n s, StOk th.length vals lucks s → P s → P (St.run th locs vals lucks n s) := by
      intro n
      induction n with
      | zero => intro s _ h; exact h
      | succ n ih =>
        intro s hok h
        unfold St.run
        split
        · rename_i hz
          split
          · rename_i x hx
            have hlt : s.next < th.length := (List.getElem?_eq_some_iff.1 hx).1
            have hi := mayF_at hm'.2 _ _ hx
            refine ih _ ((hok.inc hlt).step ?_) (hs s x hm hx hz hok hi h)
            rw [show th.length - s.inc.next = th.length - 1 - s.next by simp only [St.inc]; omega]
            exact hi
          · exact h
        · exact h
    exact key _ _ (stOk_zero _ _ _) h0
  · exact h0
theorem runT_ok (th : List Ins) (locs : Int) (vals : List Int) (lucks : List Bool) : StOk th.length vals lucks (runT th locs vals lucks) ∧ (runT th locs vals lucks).evs.length ≤ 8 := by
  unfold runT
  split
  · rename_i hm
    unfold mayT at hm
    simp only [Bool.and_eq_true, decide_eq_true_eq] at hm
    have key : ∀ n s, StOk th.length vals lucks s → StOk th.length vals lucks (St.run th locs vals lucks n s) := by
      intro n
      induction n with
      | zero => intro s h; exact h
      | succ n ih =>
        intro s h
        unfold St.run
        split
        · split
          · rename_i x hx
            have hlt : s.next < th.length := (List.getElem?_eq_some_iff.1 hx).1
            refine ih _ ((h.inc hlt).step ?_)
            rw [show th.length - s.inc.next = th.length - 1 - s.next by simp only [St.inc]; omega]
            exact mayF_at hm.2 _ _ hx
          · exact h
        · exact h
    have h := key th.length _ (stOk_zero th.length vals lucks)
    exact ⟨h, by have := h.ev; have := h.nx; have := hm.1.1; omega⟩
  · exact ⟨stOk_zero _ _ _, by simp [St.zero]⟩
theorem runT_lens (th : List Ins) (locs : Int) (vals : List Int) (lucks : List Bool) : let s := runT th locs vals lucks; s.evs.length ≤ 1000000 ∧ s.ad.length ≤ 1000000 ∧ s.da.length ≤ 1000000 ∧ s.ct.length ≤ 1000000 ∧ s.pa.length ≤ 1000000 := by
  obtain ⟨h, h8⟩ := runT_ok th locs vals lucks
  have h3 := h.ad
  have h4 := h.da
  have h5 := h.ct
  have h6 := h.pa
  simp only
  omega
end Go.Proofs.YtpmaifmokhnboaaGreatDoor

/- What holds of runs, step by step: values of reads, and what is taken. -/
namespace Go.Proofs.YtpmaifmokhnboaaGreatDoor
open Go.RowKit

/-- The values of reads, in turn. -/
def readsL (l : List Ev) : List Int := (l.filter fun e => e.kd == 1).map Ev.vl
theorem readsL_app (l : List Ev) (e : Ev) : readsL (l ++ [e]) = readsL l ++ (if e.kd == 1 then [e.vl] else []) := by
  unfold readsL
  rw [List.filter_append, List.map_append]
  congr 1
  by_cases h : (e.kd == 1) = true
  · simp [h]
  · simp [h]
/-- How a step goes: what it makes of the events, the values and the lucks taken. -/
theorem step_cases (locs : Int) (vals : List Int) (lucks : List Bool) (x : Ins) (s : St) :
    (s.step locs vals lucks x).evs = s.evs ∧ (s.step locs vals lucks x).vals = s.vals ∨
    (∃ e, (s.step locs vals lucks x).evs = s.evs ++ [e] ∧ e.kd ≠ 1 ∧ (s.step locs vals lucks x).vals = s.vals) ∨
    (∃ e, (s.step locs vals lucks x).evs = s.evs ++ [e] ∧ e.kd = 1 ∧ e.vl = vals.getD s.vals 0 ∧ s.vals ≠ vals.length ∧ (s.step locs vals lucks x).vals = s.vals + 1) ∨ (x.op = 11 ∧ x.i < 0) := by
  unfold St.step
  split
  · split
    · exact .inl ⟨rfl, rfl⟩
    · rename_i hv
      refine .inr (.inr (.inl ⟨rdEv locs (vals.getD s.vals 0) x s, ?_, rfl, rfl, hv, ?_⟩))
      · unfold St.load; simp only []; split <;> rfl
      · unfold St.load; simp only []; split <;> rfl
  · split
    · exact .inr (.inl ⟨_, rfl, by simp [wrEv], rfl⟩)
    · split
      · split
        · split
          · exact .inl ⟨rfl, rfl⟩
          · split
            · exact .inr (.inl ⟨_, rfl, by simp [wrEv], rfl⟩)
            · exact .inl ⟨rfl, rfl⟩
        · exact .inl ⟨rfl, rfl⟩
      · split
        · rename_i h11
          by_cases hi : x.i < 0
          · exact .inr (.inr (.inr ⟨h11, hi⟩))
          · exact .inr (.inl ⟨_, rfl, by simp only [brEv]; omega, rfl⟩)
        · split
          · exact .inr (.inl ⟨_, rfl, by simp [brEv], rfl⟩)
          · split
            · exact .inl ⟨rfl, rfl⟩
            · exact .inl ⟨rfl, rfl⟩

/-- The values of reads are those that were taken. -/
theorem runT_reads (th : List Ins) (locs : Int) (vals : List Int) (lucks : List Bool) : readsL (runT th locs vals lucks).evs = vals.take (runT th locs vals lucks).vals := by
  refine runT_ind (fun s => readsL s.evs = vals.take s.vals) rfl ?_
  intro s x _ _ _ hok hi h
  have h' : readsL s.inc.evs = vals.take s.inc.vals := h
  rcases step_cases locs vals lucks x s.inc with ⟨a, b⟩ | ⟨e, a, k, b⟩ | ⟨e, a, k, v, n, b⟩ | ⟨a, b⟩
  · rw [a, b]; exact h'
  · rw [a, b, readsL_app, if_neg (by simpa using k), List.append_nil]; exact h'
  · rw [a, b, readsL_app, if_pos (by simpa using k), h', v]
    have hlt : s.inc.vals < vals.length := by have := hok.vs; have e : s.inc.vals = s.vals := rfl; omega
    rw [List.take_succ_eq_append_getElem hlt]
    simp [hlt]
  · have := (hi.dmb a).1
    omega

theorem step_more (locs : Int) (vals : List Int) (lucks : List Bool) (x : Ins) (s : St) : (s.step locs vals lucks x).more = s.more ∨ (s.step locs vals lucks x).more = 1 ∨ (s.step locs vals lucks x).more = 2 := by
  unfold St.step
  repeat' split
  all_goals first
    | exact .inl rfl
    | exact .inr (.inl rfl)
    | exact .inr (.inr rfl)
    | (unfold St.load; simp only []; split <;> exact .inl rfl)
theorem runT_more (th : List Ins) (locs : Int) (vals : List Int) (lucks : List Bool) : 0 ≤ (runT th locs vals lucks).more ∧ (runT th locs vals lucks).more ≤ 2 := by
  refine runT_ind (fun s => 0 ≤ s.more ∧ s.more ≤ 2) (by simp [St.zero]) ?_
  intro s x _ _ hz _ _ _
  have e : s.inc.more = 0 := hz
  rcases step_more locs vals lucks x s.inc with h | h | h <;> (rw [h]; omega)
/-- Neither a load nor an exclusive store. -/
def quietB (x : Ins) : Bool := !(x.op == 5) && (!(x.op == 7) && (!(x.op == 9) && !(x.op == 10)))
theorem step_quiet {locs : Int} {vals : List Int} {lucks : List Bool} {x : Ins} {s : St} (h : quietB x = true) : (s.step locs vals lucks x).vals = s.vals ∧ (s.step locs vals lucks x).lucks = s.lucks ∧ (s.step locs vals lucks x).more = s.more := by
  unfold quietB at h
  simp only [Bool.and_eq_true, Bool.not_eq_true', beq_eq_false_iff_ne, ne_eq] at h
  obtain ⟨h5, h7, h9, h10⟩ := h
  unfold St.step
  rw [if_neg (by omega)]
  split
  · exact ⟨rfl, rfl, rfl⟩
  repeat' split
  all_goals exact ⟨rfl, rfl, rfl⟩
theorem runT_quiet {th : List Ins} {locs : Int} {vals : List Int} {lucks : List Bool} (h : th.all quietB = true) : (runT th locs vals lucks).vals = 0 ∧ (runT th locs vals lucks).lucks = 0 ∧ (runT th locs vals lucks).more = 0 := by
  refine runT_ind (fun s => s.vals = 0 ∧ s.lucks = 0 ∧ s.more = 0) ⟨rfl, rfl, rfl⟩ ?_
  intro s x _ hx _ _ _ ⟨a, b, c⟩
  have hq : quietB x = true := List.all_eq_true.1 h x (List.mem_of_getElem? hx)
  obtain ⟨h1, h2, h3⟩ := step_quiet (locs := locs) (vals := vals) (lucks := lucks) (s := s.inc) hq
  exact ⟨h1.trans a, h2.trans b, h3.trans c⟩
end Go.Proofs.YtpmaifmokhnboaaGreatDoor
