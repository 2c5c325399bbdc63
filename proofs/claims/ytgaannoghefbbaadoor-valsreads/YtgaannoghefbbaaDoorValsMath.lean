/- All that a thread may do: guesses, one behind the other (plain data). -/
import Derived.Test.YtgaannoghefbbaaDoorFlowMath2
namespace Go.Proofs.YtgaannoghefbbaaDoor
open Go.RowKit

/-- A step on more guesses: the same, or it ended for want of one, and takes that. -/
theorem step_ext {locs : Int} {v v' : List Int} {b b' : List Bool} {x : Ins} {s : St} (hs : s.vals ≤ v.length) (hl : s.lucks ≤ b.length) (hz : s.more = 0) :
    (s.step locs (v ++ v') (b ++ b') x = s.step locs v b x ∧ (s.step locs v b x).more = 0) ∨
    ((s.step locs v b x).more = 1 ∧ s.vals = v.length ∧ (s.step locs v b x).vals = s.vals ∧ (s.step locs v b x).lucks = s.lucks ∧ ∀ y t, v' = y :: t → s.step locs (v ++ v') (b ++ b') x = s.load locs y x) ∨
    ((s.step locs v b x).more = 2 ∧ s.lucks = b.length ∧ (s.step locs v b x).vals = s.vals ∧ (s.step locs v b x).lucks = s.lucks ∧ ∀ y t, b' = y :: t → s.step locs (v ++ v') (b ++ b') x = if y = true then s.stx locs x else ({ s with lucks := s.lucks + 1 } : St).fail x) := by
  by_cases hld : x.op = 5 ∨ x.op = 7 ∨ x.op = 9
  · have e : ∀ vs ls, s.step locs vs ls x = if s.vals = vs.length then { s with more := 1 } else s.load locs (vs.getD s.vals 0) x := fun vs ls => by unfold St.step; rw [if_pos hld]
    by_cases hv : s.vals = v.length
    · refine .inr (.inl ?_)
      rw [e v b, if_pos hv]
      refine ⟨rfl, hv, rfl, rfl, fun y t ht => ?_⟩
      subst ht
      rw [e, if_neg (by rw [List.length_append, List.length_cons]; omega), hv]
      simp
    · refine .inl ?_
      have hlt : s.vals < v.length := by omega
      rw [e, e, if_neg hv, if_neg (by rw [List.length_append]; omega)]
      refine ⟨?_, ?_⟩
      · rw [List.getD_eq_getElem?_getD, List.getD_eq_getElem?_getD, List.getElem?_append_left hlt]
      · unfold St.load; simp only []; split <;> exact hz
  · by_cases hst : x.op = 6 ∨ x.op = 8
    · refine .inl ?_
      have e : ∀ vs ls, s.step locs vs ls x = s.write locs x (-1) := fun vs ls => by unfold St.step; rw [if_neg hld, if_pos hst]
      rw [e, e]
      exact ⟨rfl, hz⟩
    · by_cases h10 : x.op = 10
      · by_cases hr : s.reach locs x = true
        · have e : ∀ vs ls, s.step locs vs ls x = if s.lucks = ls.length then { s with opn := -1, more := 2 } else if ls.getD s.lucks false = true then s.stx locs x else ({ s with lucks := s.lucks + 1 } : St).fail x := fun vs ls => by
            unfold St.step; rw [if_neg hld, if_neg hst, if_pos h10, if_pos hr]
          by_cases hv : s.lucks = b.length
          · refine .inr (.inr ?_)
            rw [e v b, if_pos hv]
            refine ⟨rfl, hv, rfl, rfl, fun y t ht => ?_⟩
            subst ht
            rw [e, if_neg (by rw [List.length_append, List.length_cons]; omega), hv]
            simp
          · refine .inl ?_
            have hlt : s.lucks < b.length := by omega
            rw [e, e, if_neg hv, if_neg (by rw [List.length_append]; omega)]
            refine ⟨?_, ?_⟩
            · rw [List.getD_eq_getElem?_getD, List.getD_eq_getElem?_getD, List.getElem?_append_left hlt]
            · split <;> exact hz
        · refine .inl ?_
          have e : ∀ vs ls, s.step locs vs ls x = s.fail x := fun vs ls => by unfold St.step; rw [if_neg hld, if_neg hst, if_pos h10, if_neg hr]
          rw [e, e]
          exact ⟨rfl, hz⟩
      · refine .inl ?_
        have e : ∀ vs ls, s.step locs vs ls x = if x.op = 11 then s.add (brEv (3 + x.i)) 0 0 (-1) else if x.op = 12 then s.add (brEv 6) 0 0 (-1) else if x.op = 13 ∨ x.op = 14 then s.branch x else { s with v := doV s.v x.op x.d x.a x.b x.i, d := doD s.d x.op x.d x.a x.b } := fun vs ls => by
          unfold St.step; rw [if_neg hld, if_neg hst, if_neg h10]
        rw [e, e]
        refine ⟨rfl, ?_⟩
        repeat' split
        all_goals exact hz

/-- A run on more guesses: the same, if it was done; else it takes one more. -/
theorem run_ext {th : List Ins} {locs : Int} {v v' : List Int} {b b' : List Bool} (hmay : mayF locs th = true) : ∀ (n : Nat) (s : St), StOk th.length v b s → s.more = 0 →
    (St.run th locs (v ++ v') (b ++ b') n s = St.run th locs v b n s ∧ (St.run th locs v b n s).more = 0) ∨
    ((St.run th locs v b n s).more = 1 ∧ (St.run th locs v b n s).vals = v.length ∧ (v' ≠ [] → v.length + 1 ≤ (St.run th locs (v ++ v') (b ++ b') n s).vals ∧ (St.run th locs v b n s).lucks ≤ (St.run th locs (v ++ v') (b ++ b') n s).lucks)) ∨
    ((St.run th locs v b n s).more = 2 ∧ (St.run th locs v b n s).lucks = b.length ∧ (b' ≠ [] → b.length + 1 ≤ (St.run th locs (v ++ v') (b ++ b') n s).lucks ∧ (St.run th locs v b n s).vals ≤ (St.run th locs (v ++ v') (b ++ b') n s).vals))
  | 0, s, _, hz => .inl ⟨rfl, hz⟩
  | n + 1, s, hok, hz => by
    cases hx : th[s.next]? with
    | none =>
      have e : ∀ vs ls, St.run th locs vs ls (n + 1) s = s := fun vs ls => by unfold St.run; rw [if_pos hz, hx]
      rw [e, e]
      exact .inl ⟨rfl, hz⟩
    | some x =>
      have e : ∀ vs ls, St.run th locs vs ls (n + 1) s = St.run th locs vs ls n (s.inc.step locs vs ls x) := fun vs ls => by rw [St.run, if_pos hz, hx]
      have hlt : s.next < th.length := (List.getElem?_eq_some_iff.1 hx).1
      have hok' : StOk th.length v b (s.inc.step locs v b x) := (hok.inc hlt).step (by
        rw [show th.length - s.inc.next = th.length - 1 - s.next by simp only [St.inc]; omega]; exact mayF_at hmay _ _ hx)
      rw [e, e]
      rcases step_ext (locs := locs) (v := v) (v' := v') (b := b) (b' := b') (x := x) (s := s.inc) hok.vs hok.ls hz with ⟨h1, h2⟩ | ⟨h1, h2, h3, h4, h5⟩ | ⟨h1, h2, h3, h4, h5⟩
      · rw [h1]
        exact run_ext hmay n _ hok' h2
      · refine .inr (.inl ?_)
        rw [run_doneN (by rw [h1]; decide)]
        refine ⟨h1, h3.trans h2, fun hne => ?_⟩
        cases v' with
        | nil => exact absurd rfl hne
        | cons y t =>
          rw [h5 y t rfl, h4]
          have hg := run_grows th locs (v ++ y :: t) (b ++ b') n (s.inc.load locs y x)
          have e1 : (s.inc.load locs y x).vals = s.inc.vals + 1 := by unfold St.load; simp only []; split <;> rfl
          have e2 : (s.inc.load locs y x).lucks = s.inc.lucks := by unfold St.load; simp only []; split <;> rfl
          rw [e1, e2, h2] at hg
          exact hg.2
      · refine .inr (.inr ?_)
        rw [run_doneN (by rw [h1]; decide)]
        refine ⟨h1, h4.trans h2, fun hne => ?_⟩
        cases b' with
        | nil => exact absurd rfl hne
        | cons y t =>
          rw [h5 y t rfl, h3]
          have hg := run_grows th locs (v ++ v') (b ++ y :: t) n (if y = true then s.inc.stx locs x else ({ s.inc with lucks := s.inc.lucks + 1 } : St).fail x)
          have e1 : (if y = true then s.inc.stx locs x else ({ s.inc with lucks := s.inc.lucks + 1 } : St).fail x).lucks = s.inc.lucks + 1 := by split <;> rfl
          have e2 : (if y = true then s.inc.stx locs x else ({ s.inc with lucks := s.inc.lucks + 1 } : St).fail x).vals = s.inc.vals := by split <;> rfl
          generalize (if y = true then s.inc.stx locs x else ({ s.inc with lucks := s.inc.lucks + 1 } : St).fail x) = z at *
          rw [e1, e2, h2] at hg
          exact ⟨hg.2.2, hg.2.1⟩

/-- All guesses are taken. -/
def Took (th : List Ins) (locs : Int) (v : List Int) (b : List Bool) : Prop := (runT th locs v b).vals = v.length ∧ (runT th locs v b).lucks = b.length
theorem took_nil (th : List Ins) (locs : Int) : Took th locs [] [] := by
  have h := (runT_ok th locs [] []).1
  exact ⟨Nat.le_zero.1 h.vs, Nat.le_zero.1 h.ls⟩
theorem runT_zero {th : List Ins} {locs : Int} (hm : ¬ mayT th locs = true) (v : List Int) (b : List Bool) : runT th locs v b = .zero := by unfold runT; rw [if_neg hm]
theorem may_ofMore {th : List Ins} {locs : Int} {v : List Int} {b : List Bool} (h : (runT th locs v b).more ≠ 0) : mayT th locs = true := by
  by_cases hm : mayT th locs = true
  · exact hm
  · rw [runT_zero hm] at h; exact absurd rfl h
theorem runT_ext {th : List Ins} {locs : Int} (v v' : List Int) (b b' : List Bool) :
    (runT th locs (v ++ v') (b ++ b') = runT th locs v b ∧ (runT th locs v b).more = 0) ∨
    ((runT th locs v b).more = 1 ∧ (runT th locs v b).vals = v.length ∧ (v' ≠ [] → v.length + 1 ≤ (runT th locs (v ++ v') (b ++ b')).vals ∧ (runT th locs v b).lucks ≤ (runT th locs (v ++ v') (b ++ b')).lucks)) ∨
    ((runT th locs v b).more = 2 ∧ (runT th locs v b).lucks = b.length ∧ (b' ≠ [] → b.length + 1 ≤ (runT th locs (v ++ v') (b ++ b')).lucks ∧ (runT th locs v b).vals ≤ (runT th locs (v ++ v') (b ++ b')).vals)) := by
  by_cases hm : mayT th locs = true
  · have e : ∀ vs ls, runT th locs vs ls = St.run th locs vs ls th.length .zero := fun vs ls => by unfold runT; rw [if_pos hm]
    rw [e, e]
    have hm' := hm
    unfold mayT at hm'
    simp only [Bool.and_eq_true, decide_eq_true_eq] at hm'
    exact run_ext hm'.2 _ _ (stOk_zero _ _ _) rfl
  · rw [runT_zero hm, runT_zero hm]
    exact .inl ⟨rfl, rfl⟩
theorem Took.val {th : List Ins} {locs : Int} {v : List Int} {b : List Bool} (h : Took th locs v b) (hm : (runT th locs v b).more = 1) (x : Int) : Took th locs (v ++ [x]) b := by
  have hok := (runT_ok th locs (v ++ [x]) b).1
  have h1 := hok.vs
  have h2 := hok.ls
  rcases runT_ext (th := th) (locs := locs) v [x] b [] with ⟨_, k⟩ | ⟨_, _, k⟩ | ⟨k, _⟩
  · rw [hm] at k; exact absurd k (by decide)
  · rw [List.append_nil] at k
    obtain ⟨k1, k2⟩ := k (by simp)
    rw [h.2] at k2
    rw [List.length_append] at h1
    refine ⟨?_, Nat.le_antisymm h2 k2⟩
    rw [List.length_append]
    exact Nat.le_antisymm h1 k1
  · rw [hm] at k; exact absurd k (by decide)
theorem Took.luck {th : List Ins} {locs : Int} {v : List Int} {b : List Bool} (h : Took th locs v b) (hm : (runT th locs v b).more = 2) (x : Bool) : Took th locs v (b ++ [x]) := by
  have hok := (runT_ok th locs v (b ++ [x])).1
  have h1 := hok.vs
  have h2 := hok.ls
  rcases runT_ext (th := th) (locs := locs) v [] b [x] with ⟨_, k⟩ | ⟨k, _⟩ | ⟨_, _, k⟩
  · rw [hm] at k; exact absurd k (by decide)
  · rw [hm] at k; exact absurd k (by decide)
  · rw [List.append_nil] at k
    obtain ⟨k1, k2⟩ := k (by simp)
    rw [h.1] at k2
    rw [List.length_append] at h2
    refine ⟨Nat.le_antisymm h1 k2, ?_⟩
    rw [List.length_append]
    exact Nat.le_antisymm h2 k1

/-- Loads. -/
def ldB (x : Ins) : Bool := (x.op == 5) || ((x.op == 7) || (x.op == 9))
theorem ld_is {x : Ins} : ldB x = true ↔ (x.op = 5 ∨ x.op = 7 ∨ x.op = 9) := by unfold ldB; simp
def loadsN (th : List Ins) : Nat := (th.filter ldB).length
theorem loads_take {th : List Ins} {k : Nat} {x : Ins} (h : th[k]? = some x) : loadsN (th.take (k + 1)) = loadsN (th.take k) + (if ldB x = true then 1 else 0) := by
  unfold loadsN
  rw [List.take_add_one, h, List.filter_append, List.length_append]
  by_cases hx : ldB x = true
  · simp [hx]
  · simp [hx]
theorem loads_mono {th : List Ins} {j k : Nat} (h : j ≤ k) : loadsN (th.take j) ≤ loadsN (th.take k) := by
  unfold loadsN
  exact List.Sublist.length_le (List.Sublist.filter _ (List.take_sublist_take_left h))
theorem loads_all {th : List Ins} {k : Nat} : loadsN (th.take k) ≤ loadsN th := by
  unfold loadsN
  exact List.Sublist.length_le (List.Sublist.filter _ (List.take_sublist k th))
theorem branch_next (x : Ins) (s : St) : s.next ≤ (s.branch x).next := by
  unfold St.branch
  show s.next ≤ if _ then _ else _
  by_cases h : ((atR s.v x.a == 0) == (x.op == 13)) = true
  · rw [if_pos h]; omega
  · rw [if_neg h]; exact Nat.le_refl _
/-- How many are taken: no more values than loads, no more lucks than values. -/
structure FewG (th : List Ins) (s : St) : Prop where
  vs : s.vals + (if s.more = 1 then 1 else 0) ≤ loadsN (th.take s.next)
  ls : s.lucks + (if s.more = 2 then 1 else 0) + (if s.opn = -1 then 0 else 1) ≤ s.vals
theorem runT_few (th : List Ins) (locs : Int) (vals : List Int) (lucks : List Bool) : FewG th (runT th locs vals lucks) := by
  refine runT_ind (FewG th) ⟨by simp [St.zero], by simp [St.zero]⟩ ?_
  intro s x _ hx hz hok hi h
  obtain ⟨h1, h2⟩ := h
  rw [if_neg (by rw [hz]; decide)] at h1 h2
  have hn := loads_take hx
  unfold St.step
  split
  · rename_i hld
    rw [if_pos (ld_is.2 hld)] at hn
    split
    · refine ⟨?_, ?_⟩
      · show s.vals + 1 ≤ loadsN (th.take (s.next + 1)); omega
      · show s.lucks + 0 + (if s.opn = -1 then 0 else 1) ≤ s.vals; omega
    · unfold St.load
      simp only []
      have e : s.lucks ≤ s.vals := by omega
      split
      · refine ⟨?_, ?_⟩
        · show s.vals + 1 + (if s.more = 1 then 1 else 0) ≤ loadsN (th.take (s.next + 1)); rw [hz]; simp; omega
        · show s.lucks + (if s.more = 2 then 1 else 0) + (if ((s.inc.evs.length : Nat) : Int) = -1 then 0 else 1) ≤ s.vals + 1
          rw [hz, if_neg (show ¬ ((s.inc.evs.length : Nat) : Int) = -1 by omega)]; simp; omega
      · refine ⟨?_, ?_⟩
        · show s.vals + 1 + (if s.more = 1 then 1 else 0) ≤ loadsN (th.take (s.next + 1)); rw [hz]; simp; omega
        · show s.lucks + (if s.more = 2 then 1 else 0) + (if s.opn = -1 then 0 else 1) ≤ s.vals + 1
          rw [hz]; simp; omega
  · rename_i hld
    rw [if_neg (fun k => hld (ld_is.1 k)), Nat.add_zero] at hn
    have k1 : ∀ t : St, t.vals = s.vals → t.next = s.next + 1 → t.more ≠ 1 → t.vals + (if t.more = 1 then 1 else 0) ≤ loadsN (th.take t.next) := fun t a b c => by
      rw [if_neg c, a, b, hn]; omega
    split
    · refine ⟨k1 _ rfl rfl (by show s.more ≠ 1; omega), ?_⟩
      show s.lucks + (if s.more = 2 then 1 else 0) + (if s.opn = -1 then 0 else 1) ≤ s.vals
      rw [hz]; simpa using h2
    · split
      · split
        · rename_i hr
          have ho : s.opn ≠ -1 := by
            intro e
            unfold St.reach at hr
            rw [show s.inc.opn = s.opn from rfl, e] at hr
            simp at hr
          rw [if_neg ho] at h2
          split
          · refine ⟨k1 _ rfl rfl (by show (2 : Int) ≠ 1; decide), ?_⟩
            show s.lucks + 1 + 0 ≤ s.vals
            omega
          · split
            · refine ⟨k1 _ rfl rfl (by show s.more ≠ 1; omega), ?_⟩
              show s.lucks + 1 + (if s.more = 2 then 1 else 0) + 0 ≤ s.vals
              rw [hz]; simp; omega
            · refine ⟨k1 _ rfl rfl (by show s.more ≠ 1; omega), ?_⟩
              show s.lucks + 1 + (if s.more = 2 then 1 else 0) + 0 ≤ s.vals
              rw [hz]; simp; omega
        · refine ⟨k1 _ rfl rfl (by show s.more ≠ 1; omega), ?_⟩
          show s.lucks + (if s.more = 2 then 1 else 0) + 0 ≤ s.vals
          rw [hz]; simp; omega
      · have k2 : s.lucks + (if s.more = 2 then 1 else 0) + (if s.opn = -1 then 0 else 1) ≤ s.vals := by rw [hz]; simpa using h2
        split
        · exact ⟨k1 _ rfl rfl (by show s.more ≠ 1; omega), k2⟩
        · split
          · exact ⟨k1 _ rfl rfl (by show s.more ≠ 1; omega), k2⟩
          · split
            · rename_i hb
              have hi0 := (hi.br hb).1
              refine ⟨?_, k2⟩
              show s.vals + (if s.more = 1 then 1 else 0) ≤ loadsN (th.take (s.inc.branch x).next)
              rw [hz]
              have : loadsN (th.take (s.next + 1)) ≤ loadsN (th.take (s.inc.branch x).next) := loads_mono (branch_next x s.inc)
              simp; omega
            · exact ⟨k1 _ rfl rfl (by show s.more ≠ 1; omega), k2⟩

/-- All traces, from some guesses on. -/
def onT (th : List Ins) (locs : Int) (l : List Int) : Nat → List Int → List Bool → List St
  | 0, v, b => [runT th locs v b]
  | f + 1, v, b =>
    if (runT th locs v b).more = 0 then [runT th locs v b]
    else if (runT th locs v b).more = 2 then onT th locs l f v (b ++ [true]) ++ onT th locs l f v (b ++ [false])
    else l.flatMap fun x => onT th locs l f (v ++ [x]) b
/-- Room for what is guessed. -/
theorem room_val {th : List Ins} {locs : Int} {v : List Int} {b : List Bool} (ht : Took th locs v b) (hm : (runT th locs v b).more = 1) : v.length + 1 ≤ loadsN th ∧ b.length ≤ loadsN th := by
  obtain ⟨h1, h2⟩ := runT_few th locs v b
  have h3 : loadsN (th.take (runT th locs v b).next) ≤ loadsN th := loads_all
  rw [hm, ht.1] at h1
  rw [hm, ht.1, ht.2] at h2
  simp at h1 h2
  omega
theorem room_luck {th : List Ins} {locs : Int} {v : List Int} {b : List Bool} (ht : Took th locs v b) (hm : (runT th locs v b).more = 2) : v.length ≤ loadsN th ∧ b.length + 1 ≤ loadsN th := by
  obtain ⟨h1, h2⟩ := runT_few th locs v b
  have h3 : loadsN (th.take (runT th locs v b).next) ≤ loadsN th := loads_all
  rw [hm, ht.1] at h1
  rw [hm, ht.1, ht.2] at h2
  simp at h1 h2
  omega
theorem room {th : List Ins} {locs : Int} {v : List Int} {b : List Bool} (ht : Took th locs v b) : v.length ≤ loadsN th ∧ b.length ≤ loadsN th := by
  obtain ⟨h1, h2⟩ := runT_few th locs v b
  have h3 : loadsN (th.take (runT th locs v b).next) ≤ loadsN th := loads_all
  rw [ht.1] at h1
  rw [ht.1, ht.2] at h2
  omega
theorem more_cases (th : List Ins) (locs : Int) (v : List Int) (b : List Bool) : (runT th locs v b).more = 0 ∨ (runT th locs v b).more = 1 ∨ (runT th locs v b).more = 2 := by
  have := runT_more th locs v b
  omega
/-- How many traces there are. -/
theorem onT_len {th : List Ins} {locs : Int} {l : List Int} (hl : l.length ≤ 8) : ∀ (f : Nat) (v : List Int) (b : List Bool), Took th locs v b → (onT th locs l f v b).length ≤ 8 ^ (loadsN th - v.length) * 2 ^ (loadsN th - b.length)
  | 0, v, b, _ => by
    have : 0 < 8 ^ (loadsN th - v.length) * 2 ^ (loadsN th - b.length) := Nat.mul_pos (Nat.pow_pos (by decide)) (Nat.pow_pos (by decide))
    exact this
  | f + 1, v, b, ht => by
    have hp : 0 < 8 ^ (loadsN th - v.length) * 2 ^ (loadsN th - b.length) := Nat.mul_pos (Nat.pow_pos (by decide)) (Nat.pow_pos (by decide))
    unfold onT
    rcases more_cases th locs v b with h | h | h
    · rw [if_pos h]; exact hp
    · rw [if_neg (by rw [h]; decide), if_neg (by rw [h]; decide)]
      obtain ⟨r1, r2⟩ := room_val ht h
      have ih : ∀ x, (onT th locs l f (v ++ [x]) b).length ≤ 8 ^ (loadsN th - 1 - v.length) * 2 ^ (loadsN th - b.length) := fun x => by
        have := onT_len hl f (v ++ [x]) b (ht.val h x)
        rwa [List.length_append, show loadsN th - (v.length + [x].length) = loadsN th - 1 - v.length by rw [List.length_singleton]; omega] at this
      have key : ∀ m : List Int, (m.flatMap fun x => onT th locs l f (v ++ [x]) b).length ≤ m.length * (8 ^ (loadsN th - 1 - v.length) * 2 ^ (loadsN th - b.length)) := by
        intro m
        induction m with
        | nil => simp
        | cons a m im =>
          rw [List.flatMap_cons, List.length_append, List.length_cons, Nat.succ_mul]
          have := ih a
          omega
      refine Nat.le_trans (key l) ?_
      have e : 8 ^ (loadsN th - v.length) = 8 * 8 ^ (loadsN th - 1 - v.length) := by rw [show loadsN th - v.length = (loadsN th - 1 - v.length) + 1 by omega, Nat.pow_succ, Nat.mul_comm]
      rw [e, Nat.mul_assoc]
      exact Nat.mul_le_mul_right _ hl
    · rw [if_neg (by rw [h]; decide), if_pos h]
      obtain ⟨r1, r2⟩ := room_luck ht h
      have ih : ∀ x, (onT th locs l f v (b ++ [x])).length ≤ 8 ^ (loadsN th - v.length) * 2 ^ (loadsN th - 1 - b.length) := fun x => by
        have := onT_len hl f v (b ++ [x]) (ht.luck h x)
        rwa [List.length_append, show loadsN th - (b.length + [x].length) = loadsN th - 1 - b.length by rw [List.length_singleton]; omega] at this
      have e : 2 ^ (loadsN th - b.length) = 2 ^ (loadsN th - 1 - b.length) + 2 ^ (loadsN th - 1 - b.length) := by rw [show loadsN th - b.length = (loadsN th - 1 - b.length) + 1 by omega, Nat.pow_succ]; omega
      rw [List.length_append, e, Nat.mul_add]
      have h1 := ih true
      have h2 := ih false
      omega
/-- All traces of a thread. -/
def tracesT (th : List Ins) (locs : Int) (l : List Int) : List St := if loadsN th ≤ 4 then onT th locs l 8 [] [] else []
theorem tracesT_len {th : List Ins} {locs : Int} {l : List Int} (hl : l.length ≤ 8) : (tracesT th locs l).length ≤ 16 ^ loadsN th := by
  unfold tracesT
  split
  · have := onT_len (th := th) (locs := locs) hl 8 [] [] (took_nil _ _)
    rw [List.length_nil, Nat.sub_zero, List.length_nil, Nat.sub_zero, ← Nat.mul_pow] at this
    exact this
  · exact Nat.zero_le _
theorem tracesT_len4 {th : List Ins} {locs : Int} {l : List Int} (hl : l.length ≤ 8) : (tracesT th locs l).length ≤ 65536 := by
  by_cases h : loadsN th ≤ 4
  · exact Nat.le_trans (tracesT_len hl) (Nat.pow_le_pow_right (n := 16) (by decide) h)
  · unfold tracesT; rw [if_neg h]; exact Nat.zero_le _
/-- Each is a run that is done, on guesses out of the values. -/
theorem onT_mem {th : List Ins} {locs : Int} {l : List Int} (h4 : loadsN th ≤ 4) {s : St} : ∀ (f : Nat) (v : List Int) (b : List Bool), Took th locs v b → v.length + b.length + f = 8 → (∀ x ∈ v, x ∈ l) → s ∈ onT th locs l f v b → ∃ v' b', s = runT th locs v' b' ∧ (runT th locs v' b').more = 0 ∧ Took th locs v' b' ∧ ∀ x ∈ v', x ∈ l
  | 0, v, b, ht, hf, hv, hs => by
    have h1 := room ht
    have h2 : (runT th locs v b).more = 0 := by
      rcases more_cases th locs v b with h | h | h
      · exact h
      · have := room_val ht h; omega
      · have := room_luck ht h; omega
    simp only [onT, List.mem_singleton] at hs
    exact ⟨v, b, hs, h2, ht, hv⟩
  | f + 1, v, b, ht, hf, hv, hs => by
    unfold onT at hs
    rcases more_cases th locs v b with h | h | h
    · rw [if_pos h, List.mem_singleton] at hs
      exact ⟨v, b, hs, h, ht, hv⟩
    · rw [if_neg (by rw [h]; decide), if_neg (by rw [h]; decide), List.mem_flatMap] at hs
      obtain ⟨x, hx, hs⟩ := hs
      exact onT_mem h4 f _ _ (ht.val h x) (by simp; omega) (fun y hy => (List.mem_append.1 hy).elim (hv y) fun hy => List.mem_singleton.1 hy ▸ hx) hs
    · rw [if_neg (by rw [h]; decide), if_pos h, List.mem_append] at hs
      rcases hs with hs | hs
      · exact onT_mem h4 f _ _ (ht.luck h true) (by simp; omega) hv hs
      · exact onT_mem h4 f _ _ (ht.luck h false) (by simp; omega) hv hs
theorem tracesT_mem {th : List Ins} {locs : Int} {l : List Int} {s : St} (h : s ∈ tracesT th locs l) : ∃ v b, s = runT th locs v b ∧ (runT th locs v b).more = 0 ∧ Took th locs v b ∧ ∀ x ∈ v, x ∈ l := by
  unfold tracesT at h
  split at h
  · rename_i h4
    exact onT_mem h4 8 [] [] (took_nil _ _) rfl (fun _ h => by simp at h) h
  · simp at h
/-- On more values there are more. -/
theorem onT_sub {th : List Ins} {locs : Int} {l m : List Int} (hlm : ∀ x ∈ l, x ∈ m) {s : St} : ∀ (f : Nat) (v : List Int) (b : List Bool), s ∈ onT th locs l f v b → s ∈ onT th locs m f v b
  | 0, v, b, h => h
  | f + 1, v, b, h => by
    unfold onT at h ⊢
    split at h
    · rename_i h0; rw [if_pos h0]; exact h
    · rename_i h0
      rw [if_neg h0]
      split at h
      · rename_i h2
        rw [if_pos h2]
        rw [List.mem_append] at h ⊢
        exact h.imp (onT_sub hlm f _ _) (onT_sub hlm f _ _)
      · rename_i h2
        rw [if_neg h2]
        rw [List.mem_flatMap] at h ⊢
        obtain ⟨x, hx, h⟩ := h
        exact ⟨x, hlm x hx, onT_sub hlm f _ _ h⟩
theorem tracesT_sub {th : List Ins} {locs : Int} {l m : List Int} (hlm : ∀ x ∈ l, x ∈ m) {s : St} (h : s ∈ tracesT th locs l) : s ∈ tracesT th locs m := by
  unfold tracesT at h ⊢
  split at h
  · rename_i h4; rw [if_pos h4]; exact onT_sub hlm _ _ _ h
  · simp at h
theorem onT_more {th : List Ins} {locs : Int} {l m : List Int} : ∀ (f : Nat) (v : List Int) (b : List Bool), (onT th locs l f v b).length ≤ (onT th locs (l ++ m) f v b).length
  | 0, v, b => Nat.le_refl _
  | f + 1, v, b => by
    unfold onT
    split
    · exact Nat.le_refl _
    · split
      · rw [List.length_append, List.length_append]
        exact Nat.add_le_add (onT_more f _ _) (onT_more f _ _)
      · rw [List.flatMap_append, List.length_append]
        have key : ∀ k : List Int, (k.flatMap fun x => onT th locs l f (v ++ [x]) b).length ≤ (k.flatMap fun x => onT th locs (l ++ m) f (v ++ [x]) b).length := by
          intro k
          induction k with
          | nil => simp
          | cons a k ik =>
            rw [List.flatMap_cons, List.flatMap_cons, List.length_append, List.length_append]
            exact Nat.add_le_add (onT_more f _ _) ik
        exact Nat.le_trans (key l) (Nat.le_add_right _ _)
theorem tracesT_more {th : List Ins} {locs : Int} {l m : List Int} : (tracesT th locs l).length ≤ (tracesT th locs (l ++ m)).length := by
  unfold tracesT
  split
  · exact onT_more _ _ _
  · simp
/-- Neither an exclusive store nor a branch. -/
def plainB (x : Ins) : Bool := !(x.op == 10) && nobB x
theorem step_valsL {locs : Int} {v : List Int} {b : List Bool} {x : Ins} {s : St} (h : (s.step locs v b x).more = 0) : (s.step locs v b x).vals = s.vals + (if ldB x = true then 1 else 0) := by
  unfold St.step at h ⊢
  split
  · rename_i hl
    rw [if_pos (ld_is.2 hl)]
    rw [if_pos hl] at h
    split
    · rename_i hv
      rw [if_pos hv] at h
      exact absurd (show (1 : Int) = 0 from h) (by decide)
    · unfold St.load; simp only []; split <;> rfl
  · rename_i hl
    rw [if_neg (fun k => hl (ld_is.1 k))]
    repeat' split
    all_goals rfl
theorem fold_vals {locs : Int} {v : List Int} {b : List Bool} : ∀ (l : List Ins) (s : St), (St.fold locs v b l s).more = 0 → (St.fold locs v b l s).vals = s.vals + loadsN l
  | [], s, _ => rfl
  | x :: l, s, h => by
    by_cases hz : s.more = 0
    · have e : St.fold locs v b (x :: l) s = St.fold locs v b l (s.inc.step locs v b x) := by rw [St.fold, if_pos hz]
      rw [e] at h ⊢
      have h1 : (s.inc.step locs v b x).more = 0 := by
        by_cases h1 : (s.inc.step locs v b x).more = 0
        · exact h1
        · rw [fold_done h1] at h; exact absurd h h1
      rw [fold_vals l _ h, step_valsL h1]
      show s.vals + _ + _ = _
      unfold loadsN
      rw [List.filter_cons]
      split <;> simp <;> omega
    · rw [fold_done hz] at h; exact absurd h hz
theorem plain_more {th : List Ins} {locs : Int} {v : List Int} {b : List Bool} (hp : th.all plainB = true) : (runT th locs v b).more ≠ 2 := by
  refine runT_ind (fun s => s.more ≠ 2) (by show (0 : Int) ≠ 2; decide) ?_
  intro s x _ hx hz _ _ _
  have hq : plainB x = true := List.all_eq_true.1 hp x (List.mem_of_getElem? hx)
  have h10 : x.op ≠ 10 := by
    unfold plainB at hq
    simp only [Bool.and_eq_true, Bool.not_eq_true', beq_eq_false_iff_ne, ne_eq] at hq
    exact hq.1
  have h0 : s.more ≠ 2 := by rw [hz]; decide
  unfold St.step
  rw [if_neg h10]
  repeat' split
  all_goals first
    | exact h0
    | (show (1 : Int) ≠ 2; decide)
    | (unfold St.load; simp only []; split <;> exact h0)
theorem plain_nob {th : List Ins} (hp : th.all plainB = true) : th.all nobB = true := by
  refine List.all_eq_true.2 fun x hx => ?_
  have hq : plainB x = true := List.all_eq_true.1 hp x hx
  unfold plainB at hq
  simp only [Bool.and_eq_true] at hq
  exact hq.2
theorem onT_plain {th : List Ins} {locs : Int} {l : List Int} (h4 : loadsN th ≤ 4) (hp : th.all plainB = true) (hm : mayT th locs = true) : ∀ (f : Nat) (v : List Int), Took th locs v [] → v.length + f = 8 → (onT th locs l f v []).length = l.length ^ (loadsN th - v.length)
  | 0, v, ht, hf => by have := room ht; omega
  | f + 1, v, ht, hf => by
    unfold onT
    rcases more_cases th locs v [] with h | h | h
    · rw [if_pos h]
      have e := h
      rw [runT_fold (plain_nob hp) hm] at e
      have e2 := fold_vals th .zero e
      rw [← runT_fold (plain_nob hp) hm, ht.1, show St.zero.vals = 0 from rfl, Nat.zero_add] at e2
      rw [e2, Nat.sub_self]
      rfl
    · rw [if_neg (by rw [h]; decide), if_neg (by rw [h]; decide)]
      obtain ⟨r1, _⟩ := room_val ht h
      have ih : ∀ x, (onT th locs l f (v ++ [x]) []).length = l.length ^ (loadsN th - 1 - v.length) := fun x => by
        have := onT_plain (l := l) h4 hp hm f (v ++ [x]) (ht.val h x) (by rw [List.length_append, List.length_singleton]; omega)
        rwa [List.length_append, show loadsN th - (v.length + [x].length) = loadsN th - 1 - v.length by rw [List.length_singleton]; omega] at this
      have key : ∀ m : List Int, (m.flatMap fun x => onT th locs l f (v ++ [x]) []).length = m.length * l.length ^ (loadsN th - 1 - v.length) := by
        intro m
        induction m with
        | nil => simp
        | cons a m im =>
          rw [List.flatMap_cons, List.length_append, List.length_cons, Nat.succ_mul, ih a, im, Nat.add_comm]
      rw [key l, show loadsN th - v.length = (loadsN th - 1 - v.length) + 1 by omega, Nat.pow_succ, Nat.mul_comm]
    · exact absurd h (plain_more hp)
/-- As many traces as ways to guess. -/
theorem tracesT_plain {th : List Ins} {locs : Int} {l : List Int} (h4 : loadsN th ≤ 4) (hp : th.all plainB = true) (hm : mayT th locs = true) : (tracesT th locs l).length = l.length ^ loadsN th := by
  unfold tracesT
  rw [if_pos h4]
  exact onT_plain h4 hp hm 8 [] (took_nil _ _) rfl
/-- Without loads no value plays a part. -/
theorem onT_noload {th : List Ins} {locs : Int} {l m : List Int} (h0 : loadsN th = 0) : onT th locs l 8 [] [] = onT th locs m 8 [] [] := by
  have h : (runT th locs [] []).more = 0 := by
    rcases more_cases th locs [] [] with h | h | h
    · exact h
    · have h1 := (runT_few th locs [] []).vs
      have h3 : loadsN (th.take (runT th locs [] []).next) ≤ loadsN th := loads_all
      rw [h] at h1; simp at h1; omega
    · have h1 := (runT_few th locs [] []).vs
      have h2 := (runT_few th locs [] []).ls
      have h3 : loadsN (th.take (runT th locs [] []).next) ≤ loadsN th := loads_all
      rw [h] at h1 h2; simp at h1 h2; omega
  show onT th locs l (7 + 1) [] [] = onT th locs m (7 + 1) [] []
  unfold onT
  rw [if_pos h, if_pos h]
theorem tracesT_noload {th : List Ins} {locs : Int} {l m : List Int} (h0 : loadsN th = 0) : tracesT th locs l = tracesT th locs m := by
  unfold tracesT
  rw [if_pos (by omega), if_pos (by omega)]
  exact onT_noload h0
end Go.Proofs.YtgaannoghefbbaaDoor
