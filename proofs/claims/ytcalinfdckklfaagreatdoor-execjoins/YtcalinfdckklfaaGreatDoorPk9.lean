/- ValsP: ValsMath, ValsMath2, ValsMath3, ValsPut, ValsRep, in one text. -/
import Derived.Test.YtcalinfdckklfaaGreatDoorPk6
import Derived.Test.YtcalinfdckklfaaGreatDoorPk8
import Derived.Test.YtcalinfdckklfaaGreatDoorPk3
import Derived.Test.YtcalinfdckklfaaGreatDoorPk5
import Derived.Laws.Slices
namespace Go.Proofs.YtcalinfdckklfaaGreatDoor
open Go.RowKit

/-- A step on more guesses: the same, or it ended for want of one, and takes that. -/
theorem step_ext {locs : Int} {v v' : List Int} {b b' : List Bool} {x : Ins} {s : St} (hs : s.vals ≤ v.length) (hl : s.lucks ≤ b.length) (hz : s.more = 0) :
    (s.step locs (v ++ v') (b ++ b') x = s.step locs v b x ∧ (s.step locs v b x).more = 0) ∨
    ((s.step locs v b x).more = 1 ∧ s.vals = v.length ∧ (s.step locs v b x).vals = s.vals ∧ (s.step locs v b x).lucks = s.lucks ∧ ∀ y t, v' = y :: t → s.step locs (v ++ v') (b ++ b') x = s.load locs y x) ∨
    ((s.step locs v b x).more = 2 ∧ s.lucks = b.length ∧ (s.step locs v b x).vals = s.vals ∧ (s.step locs v b x).lucks = s.lucks ∧ ∀ y t, b' = y :: t → s.step locs (v ++ v') (b ++ b') x = if y = true then s.stx locs x else ({ s with lucks := s.lucks + 1 } : St).fail x) := by
  by_cases hld : x.op = 5 ∨ x.op = 7 ∨ x.op = 9
  · have e : ∀ vs ls, s.step locs vs ls x = if s.vals = vs.length then { s with more := 1 } else s.load locs (vs.getD s.vals 0) x := fun vs ls => by unfold St.step; rw [if_pos hld]
    by_cases hv : s.vals = v.length
    · refine .inr (.inl ?_)
      rw [e v b, if_pos hv]
      refine ⟨rfl, hv, rfl, rfl, fun y t ht => ?_⟩
      subst ht
      rw [e, if_neg (by rw [List.length_append, List.length_cons]; omega), hv]
      simp
    · refine .inl ?_
      have hlt : s.vals < v.length := by omega
      rw [e, e, if_neg hv, if_neg (by rw [List.length_append]; omega)]
      refine ⟨?_, ?_⟩
      · rw [List.getD_eq_getElem?_getD, List.getD_eq_getElem?_getD, List.getElem?_append_left hlt]
      · unfold St.load; simp only []; split <;> exact hz
  · by_cases hst : x.op = 6 ∨ x.op = 8
    · refine .inl ?_
      have e : ∀ vs ls, s.step locs vs ls x = s.write locs x (-1) := fun vs ls => by unfold St.step; rw [if_neg hld, if_pos hst]
      rw [e, e]
      exact ⟨rfl, hz⟩
    · by_cases h10 : x.op = 10
      · by_cases hr : s.reach locs x = true
        · have e : ∀ vs ls, s.step locs vs ls x = if s.lucks = ls.length then { s with opn := -1, more := 2 } else if ls.getD s.lucks false = true then s.stx locs x else ({ s with lucks := s.lucks + 1 } : St).fail x := fun vs ls => by
            unfold St.step; rw [if_neg hld, if_neg hst, if_pos h10, if_pos hr]
          by_cases hv : s.lucks = b.length
          · refine .inr (.inr ?_)
            rw [e v b, if_pos hv]
            refine ⟨rfl, hv, rfl, rfl, fun y t ht => ?_⟩
            subst ht
            rw [e, if_neg (by rw [List.length_append, List.length_cons]; omega), hv]
            simp
          · refine .inl ?_
            have hlt : s.lucks < b.length := by omega
            rw [e, e, if_neg hv, if_neg (by rw [List.length_append]; omega)]
            refine ⟨?_, ?_⟩
            · rw [List.getD_eq_getElem?_getD, List.getD_eq_getElem?_getD, List.getElem?_append_left hlt]
            · split <;> exact hz
        · refine .inl ?_
          have e : ∀ vs ls, s.step locs vs ls x = s.fail x := fun vs ls => by unfold St.step; rw [if_neg hld, if_neg hst, if_pos h10, if_neg hr]
          rw [e, e]
          exact ⟨rfl, hz⟩
      · refine .inl ?_
        have e : ∀ vs ls, s.step locs vs ls x = if x.op = 11 then s.add (brEv (3 + x.i)) 0 0 (-1) else if x.op = 12 then s.add (brEv 6) 0 0 (-1) else if x.op = 13 ∨ x.op = 14 then s.branch x else { s with v := doV s.v x.op x.d x.a x.b x.i, d := doD s.d x.op x.d x.a x.b } := fun vs ls => by
          unfold St.step; rw [if_neg hld, if_neg hst, if_neg h10]
        rw [e, e]
        refine ⟨rfl, ?_⟩
        repeat' split
        all_goals exact hz

/-- A run on more guesses: the same, if it was done; else it takes one more. -/
theorem run_ext {th : List Ins} {locs : Int} {v v' : List Int} {b b' : List Bool} (hmay : mayF locs th = true) : ∀ (n : Nat) (s : St), StOk th.length v b s → s.more = 0 →
    (St.run th locs (v ++ v') (b ++ b') n s = St.run th locs v b n s ∧ (St.run th locs v b n s).more = 0) ∨
    ((St.run th locs v b n s).more = 1 ∧ (St.run th locs v b n s).vals = v.length ∧ (v' ≠ [] → v.length + 1 ≤ (St.run th locs (v ++ v') (b ++ b') n s).vals ∧ (St.run th locs v b n s).lucks ≤ (St.run th locs (v ++ v') (b ++ b') n s).lucks)) ∨
    ((St.run th locs v b n s).more = 2 ∧ (St.run th locs v b n s).lucks = b.length ∧ (b' ≠ [] → b.length + 1 ≤ (St.run th locs (v ++ v') (b ++ b') n s).lucks ∧ (St.run th locs v b n s).vals ≤ (St.run th locs (v ++ v') (b ++ b') n s).vals))
  | 0, s, _, hz => .inl ⟨rfl, hz⟩
  | n + 1, s, hok, hz => by
    cases hx : th[s.next]? with
    | none =>
      have e : ∀ vs ls, St.run th locs vs ls (n + 1) s = s := fun vs ls => by unfold St.run; rw [if_pos hz, hx]
      rw [e, e]
      exact .inl ⟨rfl, hz⟩
    | some x =>
      have e : ∀ vs ls, St.run th locs vs ls (n + 1) s = St.run th locs vs ls n (s.inc.step locs vs ls x) := fun vs ls => by rw [St.run, if_pos hz, hx]
      have hlt : s.next < th.length := (List.getElem?_eq_some_iff.1 hx).1
      have hok' : StOk th.length v b (s.inc.step locs v b x) := (hok.inc hlt).step (by
        rw [show th.length - s.inc.next = th.length - 1 - s.next by simp only [St.inc]; omega]; exact mayF_at hmay _ _ hx)
      rw [e, e]
      rcases step_ext (locs := locs) (v := v) (v' := v') (b := b) (b' := b') (x := x) (s := s.inc) hok.vs hok.ls hz with ⟨h1, h2⟩ | ⟨h1, h2, h3, h4, h5⟩ | ⟨h1, h2, h3, h4, h5⟩
      · rw [h1]
        exact run_ext hmay n _ hok' h2
      · refine .inr (.inl ?_)
        rw [run_doneN (by rw [h1]; decide)]
        refine ⟨h1, h3.trans h2, fun hne => ?_⟩
        cases v' with
        | nil => exact absurd rfl hne
        | cons y t =>
          rw [h5 y t rfl, h4]
          have hg := run_grows th locs (v ++ y :: t) (b ++ b') n (s.inc.load locs y x)
          have e1 : (s.inc.load locs y x).vals = s.inc.vals + 1 := by unfold St.load; simp only []; split <;> rfl
          have e2 : (s.inc.load locs y x).lucks = s.inc.lucks := by unfold St.load; simp only []; split <;> rfl
          rw [e1, e2, h2] at hg
          exact hg.2
      · refine .inr (.inr ?_)
        rw [run_doneN (by rw [h1]; decide)]
        refine ⟨h1, h4.trans h2, fun hne => ?_⟩
        cases b' with
        | nil => exact absurd rfl hne
        | cons y t =>
          rw [h5 y t rfl, h3]
          have hg := run_grows th locs (v ++ v') (b ++ y :: t) n (if y = true then s.inc.stx locs x else ({ s.inc with lucks := s.inc.lucks + 1 } : St).fail x)
          have e1 : (if y = true then s.inc.stx locs x else ({ s.inc with lucks := s.inc.lucks + 1 } : St).fail x).lucks = s.inc.lucks + 1 := by split <;> rfl
          have e2 : (if y = true then s.inc.stx locs x else ({ s.inc with lucks := s.inc.lucks + 1 } : St).fail x).vals = s.inc.vals := by split <;> rfl
          generalize (if y = true then s.inc.stx locs x else ({ s.inc with lucks := s.inc.lucks + 1 } : St).fail x) = z at *
          rw [e1, e2, h2] at hg
          exact ⟨hg.2.2, hg.2.1⟩

/-- All guesses are taken. -/
def Took (th : List Ins) (locs : Int) (v : List Int) (b : List Bool) : Prop := (runT th locs v b).vals = v.length ∧ (runT th locs v b).lucks = b.length
theorem took_nil (th : List Ins) (locs : Int) : Took th locs [] [] := by
  have h := (runT_ok th locs [] []).1
  exact ⟨Nat.le_zero.1 h.vs, Nat.le_zero.1 h.ls⟩
theorem runT_zero {th : List Ins} {locs : Int} (hm : ¬ mayT th locs = true) (v : List Int) (b : List Bool) : runT th locs v b = .zero := by unfold runT; rw [if_neg hm]
theorem runT_ext {th : List Ins} {locs : Int} (v v' : List Int) (b b' : List Bool) :
    (runT th locs (v ++ v') (b ++ b') = runT th locs v b ∧ (runT th locs v b).more = 0) ∨
    ((runT th locs v b).more = 1 ∧ (runT th locs v b).vals = v.length ∧ (v' ≠ [] → v.length + 1 ≤ (runT th locs (v ++ v') (b ++ b')).vals ∧ (runT th locs v b).lucks ≤ (runT th locs (v ++ v') (b ++ b')).lucks)) ∨
    ((runT th locs v b).more = 2 ∧ (runT th locs v b).lucks = b.length ∧ (b' ≠ [] → b.length + 1 ≤ (runT th locs (v ++ v') (b ++ b')).lucks ∧ (runT th locs v b).vals ≤ (runT th locs (v ++ v') (b ++ b')).vals)) := by
  by_cases hm : mayT th locs = true
  · have e : ∀ vs ls, runT th locs vs ls = St.run th locs vs ls th.length .zero := fun vs ls => by unfold runT; rw [if_pos hm]
    rw [e, e]
    have hm' := hm
    unfold mayT at hm'
    simp only [Bool.and_eq_true, decide_eq_true_eq] at hm'
    exact run_ext hm'.2 _ _ (stOk_zero _ _ _) rfl
  · rw [runT_zero hm, runT_zero hm]
    exact .inl ⟨rfl, rfl⟩
theorem Took.val {th : List Ins} {locs : Int} {v : List Int} {b : List Bool} (h : Took th locs v b) (hm : (runT th locs v b).more = 1) (x : Int) : Took th locs (v ++ [x]) b := by
  have hok := (runT_ok th locs (v ++ [x]) b).1
  have h1 := hok.vs
  have h2 := hok.ls
  rcases runT_ext (th := th) (locs := locs) v [x] b [] with ⟨_, k⟩ | ⟨_, _, k⟩ | ⟨k, _⟩
  · rw [hm] at k; exact absurd k (by decide)
  · rw [List.append_nil] at k
    obtain ⟨k1, k2⟩ := k (by simp)
    rw [h.2] at k2
    rw [List.length_append] at h1
    refine ⟨?_, Nat.le_antisymm h2 k2⟩
    rw [List.length_append]
    exact Nat.le_antisymm h1 k1
  · rw [hm] at k; exact absurd k (by decide)
theorem Took.luck {th : List Ins} {locs : Int} {v : List Int} {b : List Bool} (h : Took th locs v b) (hm : (runT th locs v b).more = 2) (x : Bool) : Took th locs v (b ++ [x]) := by
  have hok := (runT_ok th locs v (b ++ [x])).1
  have h1 := hok.vs
  have h2 := hok.ls
  rcases runT_ext (th := th) (locs := locs) v [] b [x] with ⟨_, k⟩ | ⟨k, _⟩ | ⟨_, _, k⟩
  · rw [hm] at k; exact absurd k (by decide)
  · rw [hm] at k; exact absurd k (by decide)
  · rw [List.append_nil] at k
    obtain ⟨k1, k2⟩ := k (by simp)
    rw [h.1] at k2
    rw [List.length_append] at h2
    refine ⟨Nat.le_antisymm h1 k2, ?_⟩
    rw [List.length_append]
    exact Nat.le_antisymm h2 k1

/-- Loads. -/
def ldB (x : Ins) : Bool := (x.op == 5) || ((x.op == 7) || (x.op == 9))
theorem ld_is {x : Ins} : ldB x = true ↔ (x.op = 5 ∨ x.op = 7 ∨ x.op = 9) := by unfold ldB; simp
def loadsN (th : List Ins) : Nat := (th.filter ldB).length
theorem loads_take {th : List Ins} {k : Nat} {x : Ins} (h : th[k]? = some x) : loadsN (th.take (k + 1)) = loadsN (th.take k) + (if ldB x = true then 1 else 0) := by
  unfold loadsN
  rw [List.take_add_one, h, List.filter_append, List.length_append]
  by_cases hx : ldB x = true
  · simp [hx]
  · simp [hx]
theorem loads_mono {th : List Ins} {j k : Nat} (h : j ≤ k) : loadsN (th.take j) ≤ loadsN (th.take k) := by
  unfold loadsN
  exact List.Sublist.length_le (List.Sublist.filter _ (List.take_sublist_take_left h))
theorem loads_all {th : List Ins} {k : Nat} : loadsN (th.take k) ≤ loadsN th := by
  unfold loadsN
  exact List.Sublist.length_le (List.Sublist.filter _ (List.take_sublist k th))
theorem branch_next (x : Ins) (s : St) : s.next ≤ (s.branch x).next := by
  unfold St.branch
  show s.next ≤ if _ then _ else _
  by_cases h : ((atR s.v x.a == 0) == (x.op == 13)) = true
  · rw [if_pos h]; omega
  · rw [if_neg h]; exact Nat.le_refl _
/-- How many are taken: no more values than loads, no more lucks than values. -/
structure FewG (th : List Ins) (s : St) : Prop where
  vs : s.vals + (if s.more = 1 then 1 else 0) ≤ loadsN (th.take s.next)
  ls : s.lucks + (if s.more = 2 then 1 else 0) + (if s.opn = -1 then 0 else 1) ≤ s.vals
theorem runT_few (th : List Ins) (locs : Int) (vals : List Int) (lucks : List Bool) : FewG th (runT th locs vals lucks) := by
  refine runT_ind (FewG th) ⟨by simp [St.zero], by simp [St.zero]⟩ ?_
  intro s x _ hx hz hok hi h
  obtain ⟨h1, h2⟩ := h
  rw [if_neg (by rw [hz]; decide)] at h1 h2
  have hn := loads_take hx
  unfold St.step
  split
  · rename_i hld
    rw [if_pos (ld_is.2 hld)] at hn
    split
    · refine ⟨?_, ?_⟩
      · show s.vals + 1 ≤ loadsN (th.take (s.next + 1)); omega
      · show s.lucks + 0 + (if s.opn = -1 then 0 else 1) ≤ s.vals; omega
    · unfold St.load
      simp only []
      have e : s.lucks ≤ s.vals := by omega
      split
      · refine ⟨?_, ?_⟩
        · show s.vals + 1 + (if s.more = 1 then 1 else 0) ≤ loadsN (th.take (s.next + 1)); rw [hz]; simp; omega
        · show s.lucks + (if s.more = 2 then 1 else 0) + (if ((s.inc.evs.length : Nat) : Int) = -1 then 0 else 1) ≤ s.vals + 1
          rw [hz, if_neg (show ¬ ((s.inc.evs.length : Nat) : Int) = -1 by omega)]; simp; omega
      · refine ⟨?_, ?_⟩
        · show s.vals + 1 + (if s.more = 1 then 1 else 0) ≤ loadsN (th.take (s.next + 1)); rw [hz]; simp; omega
        · show s.lucks + (if s.more = 2 then 1 else 0) + (if s.opn = -1 then 0 else 1) ≤ s.vals + 1
          rw [hz]; simp; omega
  · rename_i hld
    rw [if_neg (fun k => hld (ld_is.1 k)), Nat.add_zero] at hn
    have k1 : ∀ t : St, t.vals = s.vals → t.next = s.next + 1 → t.more ≠ 1 → t.vals + (if t.more = 1 then 1 else 0) ≤ loadsN (th.take t.next) := fun t a b c => by
      rw [if_neg c, a, b, hn]; omega
    split
    · refine ⟨k1 _ rfl rfl (by show s.more ≠ 1; omega), ?_⟩
      show s.lucks + (if s.more = 2 then 1 else 0) + (if s.opn = -1 then 0 else 1) ≤ s.vals
      rw [hz]; simpa using h2
    · split
      · split
        · rename_i hr
          have ho : s.opn ≠ -1 := by
            intro e
            unfold St.reach at hr
            rw [show s.inc.opn = s.opn from rfl, e] at hr
            simp at hr
          rw [if_neg ho] at h2
          split
          · refine ⟨k1 _ rfl rfl (by show (2 : Int) ≠ 1; decide), ?_⟩
            show s.lucks + 1 + 0 ≤ s.vals
            omega
          · split
            · refine ⟨k1 _ rfl rfl (by show s.more ≠ 1; omega), ?_⟩
              show s.lucks + 1 + (if s.more = 2 then 1 else 0) + 0 ≤ s.vals
              rw [hz]; simp; omega
            · refine ⟨k1 _ rfl rfl (by show s.more ≠ 1; omega), ?_⟩
              show s.lucks + 1 + (if s.more = 2 then 1 else 0) + 0 ≤ s.vals
              rw [hz]; simp; omega
        · refine ⟨k1 _ rfl rfl (by show s.more ≠ 1; omega), ?_⟩
          show s.lucks + (if s.more = 2 then 1 else 0) + 0 ≤ s.vals
          rw [hz]; simp; omega
      · have k2 : s.lucks + (if s.more = 2 then 1 else 0) + (if s.opn = -1 then 0 else 1) ≤ s.vals := by rw [hz]; simpa using h2
        split
        · exact ⟨k1 _ rfl rfl (by show s.more ≠ 1; omega), k2⟩
        · split
          · exact ⟨k1 _ rfl rfl (by show s.more ≠ 1; omega), k2⟩
          · split
            · rename_i hb
              have hi0 := (hi.br hb).1
              refine ⟨?_, k2⟩
              show s.vals + (if s.more = 1 then 1 else 0) ≤ loadsN (th.take (s.inc.branch x).next)
              rw [hz]
              have : loadsN (th.take (s.next + 1)) ≤ loadsN (th.take (s.inc.branch x).next) := loads_mono (branch_next x s.inc)
              simp; omega
            · exact ⟨k1 _ rfl rfl (by show s.more ≠ 1; omega), k2⟩

/-- All traces, from some guesses on. -/
def onT (th : List Ins) (locs : Int) (l : List Int) : Nat → List Int → List Bool → List St
  | 0, v, b => [runT th locs v b]
  | f + 1, v, b =>
    if (runT th locs v b).more = 0 then [runT th locs v b]
    else if (runT th locs v b).more = 2 then onT th locs l f v (b ++ [true]) ++ onT th locs l f v (b ++ [false])
    else l.flatMap fun x => onT th locs l f (v ++ [x]) b
/-- Room for what is guessed. -/
theorem room_val {th : List Ins} {locs : Int} {v : List Int} {b : List Bool} (ht : Took th locs v b) (hm : (runT th locs v b).more = 1) : v.length + 1 ≤ loadsN th ∧ b.length ≤ loadsN th := by
  obtain ⟨h1, h2⟩ := runT_few th locs v b
  have h3 : loadsN (th.take (runT th locs v b).next) ≤ loadsN th := loads_all
  rw [hm, ht.1] at h1
  rw [hm, ht.1, ht.2] at h2
  simp at h1 h2
  omega
theorem room_luck {th : List Ins} {locs : Int} {v : List Int} {b : List Bool} (ht : Took th locs v b) (hm : (runT th locs v b).more = 2) : v.length ≤ loadsN th ∧ b.length + 1 ≤ loadsN th := by
  obtain ⟨h1, h2⟩ := runT_few th locs v b
  have h3 : loadsN (th.take (runT th locs v b).next) ≤ loadsN th := loads_all
  rw [hm, ht.1] at h1
  rw [hm, ht.1, ht.2] at h2
  simp at h1 h2
  omega
theorem room {th : List Ins} {locs : Int} {v : List Int} {b : List Bool} (ht : Took th locs v b) : v.length ≤ loadsN th ∧ b.length ≤ loadsN th := by
  obtain ⟨h1, h2⟩ := runT_few th locs v b
  have h3 : loadsN (th.take (runT th locs v b).next) ≤ loadsN th := loads_all
  rw [ht.1] at h1
  rw [ht.1, ht.2] at h2
  omega
theorem more_cases (th : List Ins) (locs : Int) (v : List Int) (b : List Bool) : (runT th locs v b).more = 0 ∨ (runT th locs v b).more = 1 ∨ (runT th locs v b).more = 2 := by
  have := runT_more th locs v b
  omega
/-- How many traces there are. -/
theorem onT_len {th : List Ins} {locs : Int} {l : List Int} (hl : l.length ≤ 8) : ∀ (f : Nat) (v : List Int) (b : List Bool), Took th locs v b → (onT th locs l f v b).length ≤ 8 ^ (loadsN th - v.length) * 2 ^ (loadsN th - b.length)
  | 0, v, b, _ => by
    have : 0 < 8 ^ (loadsN th - v.length) * 2 ^ (loadsN th - b.length) := Nat.mul_pos (Nat.pow_pos (by decide)) (Nat.pow_pos (by decide))
    exact this
  | f + 1, v, b, ht => by
    have hp : 0 < 8 ^ (loadsN th - v.length) * 2 ^ (loadsN th - b.length) := Nat.mul_pos (Nat.pow_pos (by decide)) (Nat.pow_pos (by decide))
    unfold onT
    rcases more_cases th locs v b with h | h | h
    · rw [if_pos h]; exact hp
    · rw [if_neg (by rw [h]; decide), if_neg (by rw [h]; decide)]
      obtain ⟨r1, r2⟩ := room_val ht h
      have ih : ∀ x, (onT th locs l f (v ++ [x]) b).length ≤ 8 ^ (loadsN th - 1 - v.length) * 2 ^ (loadsN th - b.length) := fun x => by
        have := onT_len hl f (v ++ [x]) b (ht.val h x)
        rwa [List.length_append, show loadsN th - (v.length + [x].length) = loadsN th - 1 - v.length by rw [List.length_singleton]; omega] at this
      have key : ∀ m : List Int, (m.flatMap fun x => onT th locs l f (v ++ [x]) b).length ≤ m.length * (8 ^ (loadsN th - 1 - v.length) * 2 ^ (loadsN th - b.length)) := by
        intro m
        induction m with
        | nil => simp
        | cons a m im =>
          rw [List.flatMap_cons, List.length_append, List.length_cons, Nat.succ_mul]
          have := ih a
          omega
      refine Nat.le_trans (key l) ?_
      have e : 8 ^ (loadsN th - v.length) = 8 * 8 ^ (loadsN th - 1 - v.length) := by rw [show loadsN th - v.length = (loadsN th - 1 - v.length) + 1 by omega, Nat.pow_succ, Nat.mul_comm]
      rw [e, Nat.mul_assoc]
      exact Nat.mul_le_mul_right _ hl
    · rw [if_neg (by rw [h]; decide), if_pos h]
      obtain ⟨r1, r2⟩ := room_luck ht h
      have ih : ∀ x, (onT th locs l f v (b ++ [x])).length ≤ 8 ^ (loadsN th - v.length) * 2 ^ (loadsN th - 1 - b.length) := fun x => by
        have := onT_len hl f v (b ++ [x]) (ht.luck h x)
        rwa [List.length_append, show loadsN th - (b.length + [x].length) = loadsN th - 1 - b.length by rw [List.length_singleton]; omega] at this
      have e : 2 ^ (loadsN th - b.length) = 2 ^ (loadsN th - 1 - b.length) + 2 ^ (loadsN th - 1 - b.length) := by rw [show loadsN th - b.length = (loadsN th - 1 - b.length) + 1 by omega, Nat.pow_succ]; omega
      rw [List.length_append, e, Nat.mul_add]
      have h1 := ih true
      have h2 := ih false
      omega
/-- All traces of a thread. -/
def tracesT (th : List Ins) (locs : Int) (l : List Int) : List St := if loadsN th ≤ 4 then onT th locs l 8 [] [] else []
theorem tracesT_len {th : List Ins} {locs : Int} {l : List Int} (hl : l.length ≤ 8) : (tracesT th locs l).length ≤ 16 ^ loadsN th := by
  unfold tracesT
  split
  · have := onT_len (th := th) (locs := locs) hl 8 [] [] (took_nil _ _)
    rw [List.length_nil, Nat.sub_zero, List.length_nil, Nat.sub_zero, ← Nat.mul_pow] at this
    exact this
  · exact Nat.zero_le _
theorem tracesT_len4 {th : List Ins} {locs : Int} {l : List Int} (hl : l.length ≤ 8) : (tracesT th locs l).length ≤ 65536 := by
  by_cases h : loadsN th ≤ 4
  · exact Nat.le_trans (tracesT_len hl) (Nat.pow_le_pow_right (n := 16) (by decide) h)
  · unfold tracesT; rw [if_neg h]; exact Nat.zero_le _
/-- Each is a run that is done, on guesses out of the values. -/
theorem onT_mem {th : List Ins} {locs : Int} {l : List Int} (h4 : loadsN th ≤ 4) {s : St} : ∀ (f : Nat) (v : List Int) (b : List Bool), Took th locs v b → v.length + b.length + f = 8 → (∀ x ∈ v, x ∈ l) → s ∈ onT th locs l f v b → ∃ v' b', s = runT th locs v' b' ∧ (runT th locs v' b').more = 0 ∧ Took th locs v' b' ∧ ∀ x ∈ v', x ∈ l
  | 0, v, b, ht, hf, hv, hs => by
    have h1 := room ht
    have h2 : (runT th locs v b).more = 0 := by
      rcases more_cases th locs v b with h | h | h
      · exact h
      · have := room_val ht h; omega
      · have := room_luck ht h; omega
    simp only [onT, List.mem_singleton] at hs
    exact ⟨v, b, hs, h2, ht, hv⟩
  | f + 1, v, b, ht, hf, hv, hs => by
    unfold onT at hs
    rcases more_cases th locs v b with h | h | h
    · rw [if_pos h, List.mem_singleton] at hs
      exact ⟨v, b, hs, h, ht, hv⟩
    · rw [if_neg (by rw [h]; decide), if_neg (by rw [h]; decide), List.mem_flatMap] at hs
      obtain ⟨x, hx, hs⟩ := hs
      exact onT_mem h4 f _ _ (ht.val h x) (by simp; omega) (fun y hy => (List.mem_append.1 hy).elim (hv y) fun hy => List.mem_singleton.1 hy ▸ hx) hs
    · rw [if_neg (by rw [h]; decide), if_pos h, List.mem_append] at hs
      rcases hs with hs | hs
      · exact onT_mem h4 f _ _ (ht.luck h true) (by simp; omega) hv hs
      · exact onT_mem h4 f _ _ (ht.luck h false) (by simp; omega) hv hs
theorem tracesT_mem {th : List Ins} {locs : Int} {l : List Int} {s : St} (h : s ∈ tracesT th locs l) : ∃ v b, s = runT th locs v b ∧ (runT th locs v b).more = 0 ∧ Took th locs v b ∧ ∀ x ∈ v, x ∈ l := by
  unfold tracesT at h
  split at h
  · rename_i h4
    exact onT_mem h4 8 [] [] (took_nil _ _) rfl (fun _ h => by simp at h) h
  · simp at h
end Go.Proofs.YtcalinfdckklfaaGreatDoor

namespace Go.Proofs.YtcalinfdckklfaaGreatDoor
open Go.RowKit

/-- A list that rises. -/
def Up (l : List Int) : Prop := l.Pairwise (· < ·)
theorem Up.tail {x : Int} {l : List Int} (h : Up (x :: l)) : Up l := (List.pairwise_cons.1 h).2
theorem Up.head {x y : Int} {l : List Int} (h : Up (x :: l)) (hy : y ∈ l) : x < y := (List.pairwise_cons.1 h).1 y hy
/-- Two lists that rise and have the same are the same. -/
theorem up_ext : ∀ {l m : List Int}, Up l → Up m → (∀ x, x ∈ l ↔ x ∈ m) → l = m
  | [], [], _, _, _ => rfl
  | [], y :: m, _, _, h => by have := (h y).2 (by simp); simp at this
  | x :: l, [], _, _, h => by have := (h x).1 (by simp); simp at this
  | x :: l, y :: m, hl, hm, h => by
    have e : x = y := by
      have h1 := (h x).1 (by simp)
      have h2 := (h y).2 (by simp)
      rcases List.mem_cons.1 h1 with e | h1
      · exact e
      · rcases List.mem_cons.1 h2 with e | h2
        · exact e.symm
        · have := hm.head h1
          have := hl.head h2
          omega
    subst e
    rw [up_ext hl.tail hm.tail fun z => ?_]
    have hz := h z
    rw [List.mem_cons, List.mem_cons] at hz
    refine ⟨fun k => ?_, fun k => ?_⟩
    · rcases hz.1 (.inr k) with e | k'
      · have := hl.head k; omega
      · exact k'
    · rcases hz.2 (.inr k) with e | k'
      · have := hm.head k; omega
      · exact k'
/-- With one more, once. -/
def putN : List Int → Int → List Int
  | [], n => [n]
  | x :: l, n => if x < n then x :: putN l n else if x = n then x :: l else n :: x :: l
theorem mem_putN {n y : Int} : ∀ {l : List Int}, y ∈ putN l n ↔ y = n ∨ y ∈ l
  | [] => by simp [putN]
  | x :: l => by
    unfold putN
    split
    · rw [List.mem_cons, mem_putN, List.mem_cons]
      exact ⟨fun h => by rcases h with h | h | h <;> simp [h], fun h => by rcases h with h | h | h <;> simp [h]⟩
    · split
      · rename_i e
        subst e
        rw [List.mem_cons]
        exact ⟨fun h => .inr h, fun h => h.elim .inl id⟩
      · rw [List.mem_cons]
theorem up_putN {n : Int} : ∀ {l : List Int}, Up l → Up (putN l n)
  | [], _ => by simp [putN, Up]
  | x :: l, h => by
    unfold putN
    split
    · rename_i hx
      refine List.pairwise_cons.2 ⟨fun y hy => ?_, up_putN h.tail⟩
      rcases mem_putN.1 hy with rfl | hy
      · exact hx
      · exact h.head hy
    · split
      · exact h
      · refine List.pairwise_cons.2 ⟨fun y hy => ?_, h⟩
        rcases List.mem_cons.1 hy with rfl | hy
        · omega
        · have := h.head hy; omega
theorem putN_len {n : Int} : ∀ {l : List Int}, (putN l n).length ≤ l.length + 1
  | [] => Nat.le_refl _
  | x :: l => by
    unfold putN
    split
    · rw [List.length_cons, List.length_cons]; exact Nat.succ_le_succ putN_len
    · split
      · exact Nat.le_succ _
      · exact Nat.le_refl _
def putsN (l ns : List Int) : List Int := ns.foldl putN l
theorem mem_putsN {y : Int} : ∀ {ns l : List Int}, y ∈ putsN l ns ↔ y ∈ ns ∨ y ∈ l
  | [], l => by simp [putsN]
  | n :: ns, l => by
    show y ∈ putsN (putN l n) ns ↔ _
    rw [mem_putsN, mem_putN, List.mem_cons]
    exact ⟨fun h => by rcases h with h | h | h <;> simp [h], fun h => by rcases h with (h | h) | h <;> simp [h]⟩
theorem up_putsN : ∀ {ns l : List Int}, Up l → Up (putsN l ns)
  | [], _, h => h
  | _ :: ns, _, h => up_putsN (ns := ns) (up_putN h)
theorem putsN_len : ∀ {ns l : List Int}, (putsN l ns).length ≤ l.length + ns.length
  | [], l => Nat.le_refl _
  | n :: ns, l => by
    have h1 : (putsN (putN l n) ns).length ≤ _ := putsN_len
    have h2 : (putN l n).length ≤ l.length + 1 := putN_len
    show (putsN (putN l n) ns).length ≤ _
    rw [List.length_cons]
    omega
theorem putsN_app (l a b : List Int) : putsN l (a ++ b) = putsN (putsN l a) b := List.foldl_append
/-- What a trace writes; what traces write. -/
def wroteS (s : St) : List Int := (s.evs.filter fun e => e.kd == 2).map Ev.vl
def wroteT (l : List St) : List Int := l.flatMap wroteS
theorem wroteS_len {s : St} (h : s.evs.length ≤ 8) : (wroteS s).length ≤ 8 := by
  unfold wroteS
  rw [List.length_map]
  exact Nat.le_trans (List.length_filter_le _ _) h
theorem wroteT_len : ∀ {l : List St}, (∀ s ∈ l, s.evs.length ≤ 8) → (wroteT l).length ≤ l.length * 8
  | [], _ => Nat.le_refl _
  | s :: l, h => by
    unfold wroteT
    rw [List.flatMap_cons, List.length_append, List.length_cons, Nat.succ_mul]
    have h1 := wroteS_len (h s (by simp))
    have h2 := wroteT_len (l := l) fun t ht => h t (by simp [ht])
    unfold wroteT at h2
    omega
theorem tracesT_evs {th : List Ins} {locs : Int} {l : List Int} {s : St} (h : s ∈ tracesT th locs l) : s.evs.length ≤ 8 := by
  obtain ⟨v, b, rfl, _⟩ := tracesT_mem h
  exact (runT_ok th locs v b).2
/-- Once more: with all that the threads write on these. -/
def nextN (ts : List (List Ins)) (locs : Int) (l : List Int) : List Int := ts.foldl (fun a th => putsN a (wroteT (tracesT th locs l))) l
theorem foldl_puts (locs : Int) (l : List Int) : ∀ (ts : List (List Ins)) (a : List Int), ts.foldl (fun a th => putsN a (wroteT (tracesT th locs l))) a = putsN a (ts.flatMap fun th => wroteT (tracesT th locs l))
  | [], a => rfl
  | th :: ts, a => by rw [List.foldl_cons, foldl_puts, List.flatMap_cons, putsN_app]
theorem nextN_is (ts : List (List Ins)) (locs : Int) (l : List Int) : nextN ts locs l = putsN l (ts.flatMap fun th => wroteT (tracesT th locs l)) := foldl_puts locs l ts l
theorem up_nextN {ts : List (List Ins)} {locs : Int} {l : List Int} (h : Up l) : Up (nextN ts locs l) := by rw [nextN_is]; exact up_putsN h
theorem nextN_has {ts : List (List Ins)} {locs : Int} {l : List Int} {x : Int} (h : x ∈ l) : x ∈ nextN ts locs l := by rw [nextN_is]; exact mem_putsN.2 (.inr h)
/-- As often as n says, or too many. -/
def closeN (ts : List (List Ins)) (locs : Int) : Nat → List Int → Option (List Int)
  | 0, l => some l
  | n + 1, l => if 8 < (nextN ts locs l).length then none else closeN ts locs n (nextN ts locs l)
theorem closeN_has {ts : List (List Ins)} {locs : Int} : ∀ {n : Nat} {l m : List Int} {x : Int}, closeN ts locs n l = some m → x ∈ l → x ∈ m
  | 0, l, m, x, h, hx => by cases h; exact hx
  | n + 1, l, m, x, h, hx => by
    unfold closeN at h
    split at h
    · cases h
    · exact closeN_has h (nextN_has hx)
theorem closeN_len {ts : List (List Ins)} {locs : Int} : ∀ {n : Nat} {l m : List Int}, l.length ≤ 8 → closeN ts locs n l = some m → m.length ≤ 8
  | 0, l, m, hl, h => by cases h; exact hl
  | n + 1, l, m, hl, h => by
    unfold closeN at h
    split at h
    · cases h
    · exact closeN_len (by omega) h
end Go.Proofs.YtcalinfdckklfaaGreatDoor

namespace Go.Proofs.YtcalinfdckklfaaGreatDoor
open Go.RowKit

theorem kind_ld {x : Ins} : kindZ x.op = 1 ↔ ldB x = true := by
  rw [ld_is]
  unfold kindZ
  by_cases h : x.op = 5 ∨ x.op = 7 ∨ x.op = 9
  · rw [if_pos h]; exact ⟨fun _ => h, fun _ => rfl⟩
  · rw [if_neg h]
    refine ⟨fun k => ?_, fun k => absurd k h⟩
    split at k <;> cases k
theorem loadsN_le (th : List Ins) : loadsN th ≤ th.length := List.length_filter_le _ _
/-- Stores. -/
def storesN (th : List Ins) : Nat := (th.filter fun x => kindZ x.op == 2).length
def loadsTs : List (List Ins) → Nat
  | [] => 0
  | th :: ts => loadsN th + loadsTs ts
def storesTs : List (List Ins) → Nat
  | [] => 0
  | th :: ts => storesN th + storesTs ts
theorem cntT_is : ∀ (l : List Ins) (a b : Int), cntT l a b = (a + (loadsN l : Nat), b + (storesN l : Nat))
  | [], a, b => by simp [cntT, loadsN, storesN]
  | x :: l, a, b => by
    rw [cntT]
    by_cases h1 : kindZ x.op = 1
    · have e1 : loadsN (x :: l) = loadsN l + 1 := by unfold loadsN; rw [List.filter_cons_of_pos (kind_ld.1 h1)]; rfl
      have e2 : storesN (x :: l) = storesN l := by unfold storesN; rw [List.filter_cons_of_neg (by simp [h1])]
      rw [if_pos h1, cntT_is l, e1, e2]
      congr 1; omega
    · have e1 : loadsN (x :: l) = loadsN l := by unfold loadsN; rw [List.filter_cons_of_neg (fun k => h1 (kind_ld.2 k))]
      rw [if_neg h1]
      by_cases h2 : kindZ x.op = 2
      · have e2 : storesN (x :: l) = storesN l + 1 := by unfold storesN; rw [List.filter_cons_of_pos (by simp [h2])]; rfl
        rw [if_pos h2, cntT_is l, e1, e2]
        congr 1; omega
      · have e2 : storesN (x :: l) = storesN l := by unfold storesN; rw [List.filter_cons_of_neg (by simp [h2])]
        rw [if_neg h2, cntT_is l, e1, e2]
theorem cntTs_is : ∀ (ts : List (List Ins)) (a b : Int), cntTs ts a b = (a + (loadsTs ts : Nat), b + (storesTs ts : Nat))
  | [], a, b => by simp [cntTs, loadsTs, storesTs]
  | th :: ts, a, b => by
    rw [cntTs, cntTs_is ts, cntT_is th]
    simp only [loadsTs, storesTs]
    congr 1 <;> omega
theorem loadsTs_mem : ∀ {ts : List (List Ins)} {th : List Ins}, th ∈ ts → loadsN th ≤ loadsTs ts
  | t :: ts, th, h => by
    rcases List.mem_cons.1 h with rfl | h
    · exact Nat.le_add_right _ _
    · exact Nat.le_trans (loadsTs_mem h) (Nat.le_add_left _ _)
/-- How many traces there may be of all threads. -/
def sum16 : List (List Ins) → Nat
  | [] => 0
  | th :: ts => 16 ^ loadsN th + sum16 ts
theorem mul_more {x y : Nat} (hx : 1 ≤ x) (hy : 1 ≤ y) : x + y ≤ x * y + 1 := by
  obtain ⟨a, rfl⟩ : ∃ a, x = a + 1 := ⟨x - 1, by omega⟩
  obtain ⟨b, rfl⟩ : ∃ b, y = b + 1 := ⟨y - 1, by omega⟩
  rw [Nat.add_mul, Nat.mul_add, Nat.one_mul, Nat.mul_one]
  have : 0 ≤ a * b := Nat.zero_le _
  omega
theorem sum16_le : ∀ ts : List (List Ins), sum16 ts ≤ 16 ^ loadsTs ts + ts.length
  | [] => by simp [sum16]
  | th :: ts => by
    have h1 := sum16_le ts
    have h2 := mul_more (x := 16 ^ loadsN th) (y := 16 ^ loadsTs ts) (Nat.pow_pos (by decide)) (Nat.pow_pos (by decide))
    simp only [sum16, loadsTs, List.length_cons, Nat.pow_add]
    omega
theorem sum16_take {ts : List (List Ins)} {k : Nat} {th : List Ins} (h : ts[k]? = some th) : sum16 (ts.take (k + 1)) = sum16 (ts.take k) + 16 ^ loadsN th := by
  induction ts generalizing k with
  | nil => simp at h
  | cons t ts ih =>
    cases k with
    | zero => simp at h; subst h; simp [sum16]
    | succ k =>
      simp only [List.getElem?_cons_succ] at h
      rw [List.take_succ_cons, List.take_succ_cons]
      simp only [sum16]
      rw [ih h]
      omega
theorem sum16_part : ∀ {ts : List (List Ins)} {k : Nat}, sum16 (ts.take k) ≤ sum16 ts
  | [], k => by simp
  | t :: ts, 0 => by simp [sum16]
  | t :: ts, k + 1 => by
    rw [List.take_succ_cons]
    simp only [sum16]
    have := sum16_part (ts := ts) (k := k)
    omega
/-- What is known of a test that may be. -/
theorem check_facts {xs : List Int} {ts : List (List Ins)} (h : (checkZ xs ts).2.2 = 0) :
    1 ≤ xs.length ∧ xs.length ≤ 3 ∧ 1 ≤ ts.length ∧ ts.length ≤ 3 ∧ loadsTs ts ≤ 4 ∧ storesTs ts ≤ 6 ∧ (∀ th ∈ ts, th.length ≤ 8) ∧ sum16 ts ≤ 65539 := by
  obtain ⟨h0, h1, h2, h3, h4, h5⟩ := check_parts h
  rw [cntTs_is] at h4 h5
  simp only [Int.zero_add] at h4 h5
  have h6 : xs.length ≤ 3 ∧ 1 ≤ xs.length := by
    unfold initB at h0
    simp only [Bool.and_eq_true, decide_eq_true_eq] at h0
    omega
  refine ⟨h6.2, h6.1, h1, h2, by omega, by omega, fun th ht => (thrs_ok h3 th ht).2.1, ?_⟩
  have h7 := sum16_le ts
  have h8 : 16 ^ loadsTs ts ≤ 16 ^ 4 := Nat.pow_le_pow_right (by decide) (by omega)
  have e : (16 : Nat) ^ 4 = 65536 := by decide
  omega
/-- The values that may be read, and the error. -/
def ofZ (xs : List Int) (ts : List (List Ins)) : List Int × Int :=
  if (checkZ xs ts).2.2 = 0 then
    match closeN ts xs.length (storesTs ts) (putsN [] xs) with
    | some l => (l, 0)
    | none => ([], 3)
  else ([], (checkZ xs ts).2.2)
end Go.Proofs.YtcalinfdckklfaaGreatDoor

namespace Go.Proofs.YtcalinfdckklfaaGreatDoor
open Go.RowKit
attribute [local go_sem] Ext.cell Ext.frozen

theorem own_none {α : Type} {A : Nat → Prop} {R : Elem α} {w : World} {base g : Nat} {e : TypeId} (hb : base ≤ g) (h : Blk w g #[] e) : Own A R w base e (.slice (some ⟨g, 0, none⟩) 0 0) [] :=
  ⟨[], ⟨by simp, .inr ⟨g, 0, #[], rfl, hb, h, Nat.le_refl _, by unfold maxLen; omega, by simp, by simp⟩⟩, rfl, fun i h => by simp at h⟩
/-- l[:k] and l[k:]. -/
theorem cuts {α : Type} {R : Elem α} {A : Nat → Prop} {w : World} {q : Option Addr} {l : List α} {d k : Nat} {T e : TypeId} (he : Tryz.prog.elem T = e) (ht : Tryz.prog.underlying T = some (.slice e)) (hs : ∀ w, (Go.sizeOf e).run Tryz.prog w = .ok R.size w) (h : SlA A R w (.slice q l.length d) l) (hk : k ≤ l.length) :
    ∃ a1 a2 c1 c2, (∀ w, (Instr.slice T (.slice q l.length d) none (some (.int .i64 (k : Int))) none).run Tryz.prog w = .ok (.slice a1 (l.take k).length c1) w) ∧
    (∀ w, (Instr.slice T (.slice q l.length d) (some (.int .i64 (k : Int))) none none).run Tryz.prog w = .ok (.slice a2 (l.drop k).length c2) w) ∧ SlA A R w (.slice a1 (l.take k).length c1) (l.take k) ∧ SlA A R w (.slice a2 (l.drop k).length c2) (l.drop k) := by
  have hc := h.cap
  have hs' : ∀ w, (Go.sizeOf (Tryz.prog.elem T)).run Tryz.prog w = .ok R.size w := fun w => by rw [he]; exact hs w
  obtain ⟨p', c', hq, h0, _⟩ := id h
  simp only [Value.slice.injEq, true_and] at hq
  obtain ⟨rfl, rfl⟩ := hq
  refine ⟨q, if d = k then q else q.map (·.add (k * R.size)), d, d - k, fun w => ?_, fun w => ?_, ?_, ?_⟩
  · rw [run_slice_h (ht := by rw [he]; exact ht) (h0 := by omega) (h2 := by omega), hs']
    simp [sliced, Result.andThen, List.length_take, Nat.min_eq_left hk]
    intro _
    cases q <;> simp [Addr.add]
  · rw [run_slice_l (ht := by rw [he]; exact ht) (h0 := by omega) (h1 := by omega), hs']
    simp [sliced, Result.andThen]
  · by_cases h1 : k = 0
    · subst h1
      exact ⟨_, _, rfl, ⟨h0.1, by simp⟩, fun e => absurd rfl e⟩
    · obtain ⟨b, o, rfl, hp⟩ := h.part (i := 0) (k := k) (c' := d) (by omega) (by omega) (by omega)
      simpa [List.length_take, Nat.min_eq_left hk] using hp
  · by_cases h1 : k = l.length
    · subst h1
      simp only [List.drop_length]
      refine ⟨_, _, rfl, ⟨fun e => ?_, by simp⟩, fun e => absurd rfl e⟩
      split at e
      · omega
      · cases q with
        | none => have := h0.1 rfl; omega
        | some a => simp at e
    · obtain ⟨b, o, rfl, hp⟩ := h.part (i := k) (k := l.length - k) (c' := d - k) (by omega) (by omega) (by omega)
      rw [if_neg (by omega)]
      have e : (l.drop k).take (l.length - k) = l.drop k := List.take_of_length_le (by simp)
      rw [e] at hp
      simpa [addr_add] using hp

theorem putN_low {n x : Int} {l r : List Int} (h : l = x :: r) (hc : x < n) : putN l n = x :: putN r n := by subst h; rw [putN, if_pos hc]
theorem putN_eq {n x : Int} {l r : List Int} (h : l = x :: r) (hc : x = n) : putN l n = l := by subst h; rw [putN, if_neg (by omega), if_pos hc]
theorem putN_high {n x : Int} {l r : List Int} (h : l = x :: r) (hc : n < x) : putN l n = n :: l := by subst h; rw [putN, if_neg (by omega), if_neg (by omega)]
theorem take_nextZ {α : Type} {l r : List α} {x : α} {k : Nat} (h : l.drop k = x :: r) : l.take (k + 1) = l.take k ++ [x] := by
  have hx : l[k]? = some x := by have := congrArg (·[0]?) h; simpa using this
  rw [List.take_add_one, hx]; rfl

theorem elemI64 : Tryz.prog.elem 60 = 2 := by kernel_rfl
theorem info_i64z : ∃ i, Tryz.prog.info? 2 = some i ∧ i.zero = some (.int .i64 0) ∧ i.size = 1 ∧ i.bytes = 8 := by
  have h := info_i64
  cases hi : Tryz.prog.info? 2 with
  | none => rw [hi] at h; cases h
  | some i =>
    rw [hi] at h
    simp only [Option.map_some, Option.some.injEq, Prod.mk.injEq] at h
    exact ⟨i, rfl, h.1, h.2.1, h.2.2⟩

set_option maxRecDepth 20000 in
set_option maxHeartbeats 4000000 in
theorem refPutN_any (q : Option Addr) (d : Nat) (l : List Int) (n : Int) (w : World) (hl : Sl IntE w (.slice q l.length d) l) (hn : l.length ≤ 1000000) :
    Calls Tryz.prog 71 #[.slice q l.length d, .int .i64 n] w fun e w' => ∃ v, e = .returned v ∧ Sl IntE w' v (putN l n) ∧ Below w.heap.size w w' := by
  obtain ⟨i0, j1, j2, j4, j5⟩ := info_i64z
  have J1 : Hid _ := j1
  have J2 : Hid _ := j2
  have J4 : Hid _ := j4
  have J5 : Hid _ := j5
  clear j1 j2 j4 j5
  go_enter Tryz.func71, Tryz.ntmps71
  go_wp2
  go_loop [5] (fun i => ∃ k : Nat, k ≤ l.length ∧ i = .int .i64 k ∧ l.take k ++ putN (l.drop k) n = putN l n) (fun i => l.length - (intOf i).toNat)
  case atStart => exact ⟨0, Nat.zero_le _, rfl, by simp⟩
  case round =>
    obtain ⟨k, hk, rfl, hF⟩ := hrel
    have HF : Hid _ := hF
    clear hF
    by_cases hlt : k < l.length
    · obtain ⟨b2, o2, rfl, g1⟩ := (ints_at hl).2 k hlt
      generalize hy : l[k] = y at g1
      have HY : Hid (l.drop k = y :: l.drop (k + 1)) := by rw [← hy]; exact drop_at hlt
      clear hy
      have hlt' : (k : Int) < (l.length : Int) := by omega
      by_cases hc : y < n
      · go_wp2
        go_round
        case rel => exact ⟨k + 1, by omega, by go_num, by have := HF.out; rw [putN_low HY.out hc] at this; rw [take_nextZ HY.out, List.append_assoc]; exact this⟩
        case measure => simp [intOf]; omega
      · by_cases he : y = n
        · have heb : (y == n) = true := by simp [he]
          go_wp2
          go_ret
          exact ⟨_, rfl, by rw [← HF.out, putN_eq HY.out he, List.take_append_drop]; exact hl, Below.refl _ _⟩
        · have heb : (y == n) = false := by simp [he]
          obtain ⟨a1, a2, d1, d2, S1, S2, hs1, hs2⟩ := cuts (k := k) elemI64 Tryz.underlying60 Tryz.sizeOf2 hl hk
          have kk : Blk (w.alloc (.cells #[] 2)) w.heap.size #[] 2 := Blk.new
          have hb4 := (Below.refl w.heap.size w).alloc (Nat.le_refl _) (.cells #[] 2)
          have HL1 : Hid ((l.take k).length ≤ 1000000) := show (l.take k).length ≤ 1000000 by rw [List.length_take]; omega
          have HL2 : Hid ((l.drop k).length ≤ 1000000) := show (l.drop k).length ≤ 1000000 by rw [List.length_drop]; omega
          have HG : Hid (l.take k ++ [n] ++ l.drop k = putN l n) := by rw [← HF.out, putN_high HY.out (by omega), List.append_assoc]; rfl
          generalize l.take k = t1 at *
          generalize l.drop k = t2 at *
          have F1 := trivial
          go_wp2_with (first
            | (at_builtin; clear F1; refine wpList_app (R := IntE) (A := F0) (B := fun _ => True) (xs := []) (ys := t1) (by rfl) (.tmp 34) (.tmp 37) 60 2 i0 (.int .i64 0) 8 (by rfl) Tryz.underlying60 J1.out J2.out J4.out J5.out (by rfl) w.heap.size (.slice (some ⟨w.heap.size, 0, none⟩) 0 0) (.slice a1 t1.length d1) (by rfl) (by rfl) (own_none (Nat.le_refl _) kk) (hs1.keep hb4) (fun _ _ _ h => h) (by have := HL1.out; simp only [List.length_nil]; omega) (by decide) (by simp) ?_; intro p6 c6 w6 hO6 hg6 _; simp only [List.nil_append] at hO6 ⊢; have hb6 : Below w.heap.size w w6 := hb4.grown hg6 (by simp) (fun k hk => by simp [Value.ownBlock] at hk; omega); have F2 := trivial)
            | (at_builtin; clear F2; refine wpList_push (R := IntE) (xs := t1) (x := n) (by rfl) (.tmp 39) (.tmp 41) 60 2 i0 (.int .i64 0) 8 (by rfl) Tryz.underlying60 J1.out J2.out J4.out J5.out (by rfl) w.heap.size (.slice p6 t1.length c6) w6.heap.size (by rfl) (by rfl) (hO6.keep ((Below.refl _ _).alloc (Nat.le_refl _) _)) [.int .i64 n] (fun _ _ => rfl) (fun _ _ _ _ _ h => h) (fun j u hu => by rw [Blk.cell Blk.new]; simpa using hu) HL1.out (by decide) (by have := hb6.size; simp; omega) ?_; intro p7 c7 w7 hO7 hg7 _; have hb7 : Below w.heap.size w w7 := (hb6.alloc hb6.size _).grown hg7 (by have := hb6.size; simp; omega) (fun k hk => (hO6.lt k hk).1); obtain ⟨t3, ht3⟩ : ∃ t3, t1 ++ [n] = t3 := ⟨_, rfl⟩; have HL3 : Hid (t3.length = t1.length + 1) := (by rw [← ht3, List.length_append, List.length_singleton]; exact rfl); rw [ht3, ← HL3.out] at hO7; rw [← HL3.out]; have HG3 : Hid (t3 ++ t2 = putN l n) := ht3 ▸ HG; clear ht3; have F3 := trivial)
            | (at_builtin; clear F3; refine wpList_app (R := IntE) (A := F0) (B := fun _ => True) (xs := t3) (ys := t2) (by rfl) (.tmp 43) (.tmp 46) 60 2 i0 (.int .i64 0) 8 (by rfl) Tryz.underlying60 J1.out J2.out J4.out J5.out (by rfl) w.heap.size (.slice p7 t3.length c7) (.slice a2 t2.length d2) (by rfl) (by rfl) hO7 (hs2.keep hb7) (fun _ _ _ h => h) (by have := HL3.out; have := HL1.out; have := HL2.out; omega) (by decide) (by have := hb7.size; omega) ?_; intro p8 c8 w8 hO8 hg8 _; have hb8 : Below w.heap.size w w8 := hb7.grown hg8 (by have := hb7.size; omega) (fun k hk => (hO7.lt k hk).1)))
          go_ret
          exact ⟨_, rfl, by have e := hO8.sl.any; rw [List.length_append] at e; rw [← HG3.out]; exact e, hb8⟩
    · have hlt' : ¬ (k : Int) < (l.length : Int) := by omega
      obtain ⟨a1, a2, d1, d2, S1, S2, hs1, hs2⟩ := cuts (k := k) elemI64 Tryz.underlying60 Tryz.sizeOf2 hl hk
      have kk : Blk (w.alloc (.cells #[] 2)) w.heap.size #[] 2 := Blk.new
      have hb4 := (Below.refl w.heap.size w).alloc (Nat.le_refl _) (.cells #[] 2)
      have HL1 : Hid ((l.take k).length ≤ 1000000) := show (l.take k).length ≤ 1000000 by rw [List.length_take]; omega
      have HL2 : Hid ((l.drop k).length ≤ 1000000) := show (l.drop k).length ≤ 1000000 by rw [List.length_drop]; omega
      have HG : Hid (l.take k ++ [n] ++ l.drop k = putN l n) := by have e := HF.out; rw [List.drop_of_length_le (show l.length ≤ k by omega)] at e ⊢; rw [← e, List.append_nil]; rfl
      generalize l.take k = t1 at *
      generalize l.drop k = t2 at *
      have F1 := trivial
      go_wp2_with (first
        | (at_builtin; clear F1; refine wpList_app (R := IntE) (A := F0) (B := fun _ => True) (xs := []) (ys := t1) (by rfl) (.tmp 34) (.tmp 37) 60 2 i0 (.int .i64 0) 8 (by rfl) Tryz.underlying60 J1.out J2.out J4.out J5.out (by rfl) w.heap.size (.slice (some ⟨w.heap.size, 0, none⟩) 0 0) (.slice a1 t1.length d1) (by rfl) (by rfl) (own_none (Nat.le_refl _) kk) (hs1.keep hb4) (fun _ _ _ h => h) (by have := HL1.out; simp only [List.length_nil]; omega) (by decide) (by simp) ?_; intro p6 c6 w6 hO6 hg6 _; simp only [List.nil_append] at hO6 ⊢; have hb6 : Below w.heap.size w w6 := hb4.grown hg6 (by simp) (fun k hk => by simp [Value.ownBlock] at hk; omega); have F2 := trivial)
        | (at_builtin; clear F2; refine wpList_push (R := IntE) (xs := t1) (x := n) (by rfl) (.tmp 39) (.tmp 41) 60 2 i0 (.int .i64 0) 8 (by rfl) Tryz.underlying60 J1.out J2.out J4.out J5.out (by rfl) w.heap.size (.slice p6 t1.length c6) w6.heap.size (by rfl) (by rfl) (hO6.keep ((Below.refl _ _).alloc (Nat.le_refl _) _)) [.int .i64 n] (fun _ _ => rfl) (fun _ _ _ _ _ h => h) (fun j u hu => by rw [Blk.cell Blk.new]; simpa using hu) HL1.out (by decide) (by have := hb6.size; simp; omega) ?_; intro p7 c7 w7 hO7 hg7 _; have hb7 : Below w.heap.size w w7 := (hb6.alloc hb6.size _).grown hg7 (by have := hb6.size; simp; omega) (fun k hk => (hO6.lt k hk).1); obtain ⟨t3, ht3⟩ : ∃ t3, t1 ++ [n] = t3 := ⟨_, rfl⟩; have HL3 : Hid (t3.length = t1.length + 1) := (by rw [← ht3, List.length_append, List.length_singleton]; exact rfl); rw [ht3, ← HL3.out] at hO7; rw [← HL3.out]; have HG3 : Hid (t3 ++ t2 = putN l n) := ht3 ▸ HG; clear ht3; have F3 := trivial)
        | (at_builtin; clear F3; refine wpList_app (R := IntE) (A := F0) (B := fun _ => True) (xs := t3) (ys := t2) (by rfl) (.tmp 43) (.tmp 46) 60 2 i0 (.int .i64 0) 8 (by rfl) Tryz.underlying60 J1.out J2.out J4.out J5.out (by rfl) w.heap.size (.slice p7 t3.length c7) (.slice a2 t2.length d2) (by rfl) (by rfl) hO7 (hs2.keep hb7) (fun _ _ _ h => h) (by have := HL3.out; have := HL1.out; have := HL2.out; omega) (by decide) (by have := hb7.size; omega) ?_; intro p8 c8 w8 hO8 hg8 _; have hb8 : Below w.heap.size w w8 := hb7.grown hg8 (by have := hb7.size; omega) (fun k hk => (hO7.lt k hk).1)))
      go_ret
      exact ⟨_, rfl, by have e := hO8.sl.any; rw [List.length_append] at e; rw [← HG3.out]; exact e, hb8⟩
end Go.Proofs.YtcalinfdckklfaaGreatDoor

namespace Go.Proofs.YtcalinfdckklfaaGreatDoor
open Go.RowKit
attribute [local go_sem] Ext.cell Ext.frozen

/-- A trace's rows, in blocks of A. -/
structure TrZ (A : Nat → Prop) (w : World) (r : Nat → Value) (s : St) : Prop where
  e0 : SlA A EvE w (r 0) s.evs
  e1 : SlA A MskE w (r 1) s.ad
  e2 : SlA A MskE w (r 2) s.da
  e3 : SlA A MskE w (r 3) s.ct
  e4 : SlA A IntE w (r 4) s.pa
section
variable {A B : Nat → Prop} {w w' : World} {r : Nat → Value} {s : St}
theorem TrZ.agree (h : TrZ A w r s) (ha : Agree A w w') : TrZ A w' r s := ⟨h.e0.agree ha, h.e1.agree ha, h.e2.agree ha, h.e3.agree ha, h.e4.agree ha⟩
theorem TrZ.keep (h : TrZ A w r s) (hb : Below w.heap.size w w') : TrZ A w' r s := h.agree (Below.agree hb)
theorem TrZ.mono (hAB : ∀ b, A b → B b) (h : TrZ A w r s) : TrZ B w r s := ⟨h.e0.mono hAB, h.e1.mono hAB, h.e2.mono hAB, h.e3.mono hAB, h.e4.mono hAB⟩
theorem TrZ.lt (h : TrZ A w r s) : TrZ (fun b => A b ∧ b < w.heap.size) w r s := ⟨h.e0.lt, h.e1.lt, h.e2.lt, h.e3.lt, h.e4.lt⟩
theorem TrZ.is (h : TrZ A w r s) : TrIs w r s := ⟨h.e0.any, h.e1.any, h.e2.any, h.e3.any, h.e4.any⟩
theorem TrIs.z (h : TrIs w r s) : TrZ (fun _ => True) w r s := ⟨h.e0, h.e1, h.e2, h.e3, h.e4⟩
theorem TrZ.one (h : TrZ A w r s) : (trC r s).all (·.oneCell') = true := by
  obtain ⟨p0, c0, h0⟩ := h.e0.len
  obtain ⟨p1, c1, h1⟩ := h.e1.len
  obtain ⟨p2, c2, h2⟩ := h.e2.len
  obtain ⟨p3, c3, h3⟩ := h.e3.len
  obtain ⟨p4, c4, h4⟩ := h.e4.len
  simp [trC, Value.oneCell', h0, h1, h2, h3, h4]
end
theorem TrO.z {w : World} {n : Nat} {r : Nat → Value} {s : St} (h : TrO w n r s) : TrZ (fun b => n ≤ b) w r s := by
  obtain ⟨base, hn, h⟩ := h
  have k : ∀ b, base ≤ b ∨ F0 b → n ≤ b := fun b hb => hb.elim (fun h => Nat.le_trans hn h) False.elim
  exact ⟨h.e0.sl.mono k, h.e1.sl.mono k, h.e2.sl.mono k, h.e3.sl.mono k, h.e4.sl.mono k⟩

def TrE : Elem St where
  size := 16
  pos := by decide
  cs := fun A w s c => ∃ r, c = (trC r s).toList ∧ TrZ A w r s
  len := fun ⟨_, h, _⟩ => by subst h; rfl
  one := fun ⟨r, h, hz⟩ u hu => by
    subst h
    have := hz.one
    rw [Array.all_eq_true'] at this
    exact this u (by simpa using hu)
  keep := fun ⟨r, h, hz⟩ hw => ⟨r, h, hz.agree hw⟩
  mono := fun hAB ⟨r, h, hz⟩ => ⟨r, h, hz.mono hAB⟩
  lt := fun ⟨r, h, hz⟩ => ⟨r, h, hz.lt⟩
/-- The cells of a trace. -/
structure TrAt (w : World) (b o : Nat) (r : Nat → Value) (s : St) : Prop where
  c0 : w.cell? ⟨b, o, none⟩ = some (r 0)
  c1 : w.cell? ⟨b, o + 1, none⟩ = some (r 1)
  c2 : w.cell? ⟨b, o + 2, none⟩ = some (r 2)
  c3 : w.cell? ⟨b, o + 3, none⟩ = some (r 3)
  c4 : w.cell? ⟨b, o + 4, none⟩ = some (r 4)
  v0 : w.cell? ⟨b, o + 5, none⟩ = some (.int .i64 (s.v 0))
  v1 : w.cell? ⟨b, o + 6, none⟩ = some (.int .i64 (s.v 1))
  v2 : w.cell? ⟨b, o + 7, none⟩ = some (.int .i64 (s.v 2))
  v3 : w.cell? ⟨b, o + 8, none⟩ = some (.int .i64 (s.v 3))
  d0 : w.cell? ⟨b, o + 9, none⟩ = some (.int .u32 (s.d 0))
  d1 : w.cell? ⟨b, o + 10, none⟩ = some (.int .u32 (s.d 1))
  d2 : w.cell? ⟨b, o + 11, none⟩ = some (.int .u32 (s.d 2))
  d3 : w.cell? ⟨b, o + 12, none⟩ = some (.int .u32 (s.d 3))
  vs : w.cell? ⟨b, o + 13, none⟩ = some (.int .i64 (s.vals : Nat))
  ls : w.cell? ⟨b, o + 14, none⟩ = some (.int .i64 (s.lucks : Nat))
  mo : w.cell? ⟨b, o + 15, none⟩ = some (.int .i64 s.more)
theorem TrAt.keep {w w' : World} {b o : Nat} {r : Nat → Value} {s : St} (h : TrAt w b o r s) (hb : Below w.heap.size w w') : TrAt w' b o r s :=
  ⟨cell_keep h.c0 hb, cell_keep h.c1 hb, cell_keep h.c2 hb, cell_keep h.c3 hb, cell_keep h.c4 hb, cell_keep h.v0 hb, cell_keep h.v1 hb, cell_keep h.v2 hb, cell_keep h.v3 hb, cell_keep h.d0 hb, cell_keep h.d1 hb, cell_keep h.d2 hb, cell_keep h.d3 hb, cell_keep h.vs hb, cell_keep h.ls hb, cell_keep h.mo hb⟩
theorem TrAt.lt {w : World} {b o : Nat} {r : Nat → Value} {s : St} (h : TrAt w b o r s) : b < w.heap.size := cell_lt h.c0
theorem tr_at {A : Nat → Prop} {w : World} {p : Option Addr} {n c : Nat} {xs : List St} (h : SlA A TrE w (.slice p n c) xs) : n = xs.length ∧ ∀ k (hk : k < xs.length), ∃ b o r, p = some ⟨b, o, none⟩ ∧ A b ∧ TrZ A w r xs[k] ∧ TrAt w b (o + k * 16) r xs[k] := by
  obtain ⟨h1, h2⟩ := h.at
  refine ⟨h1, fun k hk => ?_⟩
  obtain ⟨b, o, rfl, hA, cs, ⟨r, h3, hz⟩, h4⟩ := h2 k hk
  subst h3
  exact ⟨b, o, r, rfl, hA, hz, ⟨h4 0 _ rfl, h4 1 _ rfl, h4 2 _ rfl, h4 3 _ rfl, h4 4 _ rfl, h4 5 _ rfl, h4 6 _ rfl, h4 7 _ rfl, h4 8 _ rfl, h4 9 _ rfl, h4 10 _ rfl, h4 11 _ rfl, h4 12 _ rfl, h4 13 _ rfl, h4 14 _ rfl, h4 15 _ rfl⟩⟩
/-- A list of one trace, in a new block. -/
theorem tr_single {A : Nat → Prop} {w : World} {b c : Nat} {r : Nat → Value} {s : St} {t : TypeId} (hA : A b) (hz : TrZ A w r s) (h : TrB w b r s t) (hc : 1 ≤ c := by decide) : SlA A TrE w (.slice (some ⟨b, 0, none⟩) 1 c) [s] :=
  sl_single hA ⟨r, rfl, hz⟩ (fun j u hu => by rw [Blk.cell h]; rw [← hu]; simp) hc

end Go.Proofs.YtcalinfdckklfaaGreatDoor
