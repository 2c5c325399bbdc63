/- What holds of runs, step by step: values of reads, and what is taken. -/
import Derived.Test.YtgaannoghefbbaaDoorFlowMath3
namespace Go.Proofs.YtgaannoghefbbaaDoor
open Go.RowKit

/-- The values of reads, in turn. -/
def readsL (l : List Ev) : List Int := (l.filter fun e => e.kd == 1).map Ev.vl
theorem readsL_app (l : List Ev) (e : Ev) : readsL (l ++ [e]) = readsL l ++ (if e.kd == 1 then [e.vl] else []) := by
  unfold readsL
  rw [List.filter_append, List.map_append]
  congr 1
  by_cases h : (e.kd == 1) = true
  · simp [h]
  · simp [h]
/-- How a step goes: what it makes of the events, the values and the lucks taken. -/
theorem step_cases (locs : Int) (vals : List Int) (lucks : List Bool) (x : Ins) (s : St) :
    (s.step locs vals lucks x).evs = s.evs ∧ (s.step locs vals lucks x).vals = s.vals ∨
    (∃ e, (s.step locs vals lucks x).evs = s.evs ++ [e] ∧ e.kd ≠ 1 ∧ (s.step locs vals lucks x).vals = s.vals) ∨
    (∃ e, (s.step locs vals lucks x).evs = s.evs ++ [e] ∧ e.kd = 1 ∧ e.vl = vals.getD s.vals 0 ∧ s.vals ≠ vals.length ∧ (s.step locs vals lucks x).vals = s.vals + 1) ∨ (x.op = 11 ∧ x.i < 0) := by
  unfold St.step
  split
  · split
    · exact .inl ⟨rfl, rfl⟩
    · rename_i hv
      refine .inr (.inr (.inl ⟨rdEv locs (vals.getD s.vals 0) x s, ?_, rfl, rfl, hv, ?_⟩))
      · unfold St.load; simp only []; split <;> rfl
      · unfold St.load; simp only []; split <;> rfl
  · split
    · exact .inr (.inl ⟨_, rfl, by simp [wrEv], rfl⟩)
    · split
      · split
        · split
          · exact .inl ⟨rfl, rfl⟩
          · split
            · exact .inr (.inl ⟨_, rfl, by simp [wrEv], rfl⟩)
            · exact .inl ⟨rfl, rfl⟩
        · exact .inl ⟨rfl, rfl⟩
      · split
        · rename_i h11
          by_cases hi : x.i < 0
          · exact .inr (.inr (.inr ⟨h11, hi⟩))
          · exact .inr (.inl ⟨_, rfl, by simp only [brEv]; omega, rfl⟩)
        · split
          · exact .inr (.inl ⟨_, rfl, by simp [brEv], rfl⟩)
          · split
            · exact .inl ⟨rfl, rfl⟩
            · exact .inl ⟨rfl, rfl⟩

/-- The values of reads are those that were taken. -/
theorem runT_reads (th : List Ins) (locs : Int) (vals : List Int) (lucks : List Bool) : readsL (runT th locs vals lucks).evs = vals.take (runT th locs vals lucks).vals := by
  refine runT_ind (fun s => readsL s.evs = vals.take s.vals) rfl ?_
  intro s x _ _ _ hok hi h
  have h' : readsL s.inc.evs = vals.take s.inc.vals := h
  rcases step_cases locs vals lucks x s.inc with ⟨a, b⟩ | ⟨e, a, k, b⟩ | ⟨e, a, k, v, n, b⟩ | ⟨a, b⟩
  · rw [a, b]; exact h'
  · rw [a, b, readsL_app, if_neg (by simpa using k), List.append_nil]; exact h'
  · rw [a, b, readsL_app, if_pos (by simpa using k), h', v]
    have hlt : s.inc.vals < vals.length := by have := hok.vs; have e : s.inc.vals = s.vals := rfl; omega
    rw [List.take_succ_eq_append_getElem hlt]
    simp [hlt]
  · have := (hi.dmb a).1
    omega

theorem step_more (locs : Int) (vals : List Int) (lucks : List Bool) (x : Ins) (s : St) : (s.step locs vals lucks x).more = s.more ∨ (s.step locs vals lucks x).more = 1 ∨ (s.step locs vals lucks x).more = 2 := by
  unfold St.step
  repeat' split
  all_goals first
    | exact .inl rfl
    | exact .inr (.inl rfl)
    | exact .inr (.inr rfl)
    | (unfold St.load; simp only []; split <;> exact .inl rfl)
theorem runT_more (th : List Ins) (locs : Int) (vals : List Int) (lucks : List Bool) : 0 ≤ (runT th locs vals lucks).more ∧ (runT th locs vals lucks).more ≤ 2 := by
  refine runT_ind (fun s => 0 ≤ s.more ∧ s.more ≤ 2) (by simp [St.zero]) ?_
  intro s x _ _ hz _ _ _
  have e : s.inc.more = 0 := hz
  rcases step_more locs vals lucks x s.inc with h | h | h <;> (rw [h]; omega)
/-- Neither a load nor an exclusive store. -/
def quietB (x : Ins) : Bool := !(x.op == 5) && (!(x.op == 7) && (!(x.op == 9) && !(x.op == 10)))
theorem step_quiet {locs : Int} {vals : List Int} {lucks : List Bool} {x : Ins} {s : St} (h : quietB x = true) : (s.step locs vals lucks x).vals = s.vals ∧ (s.step locs vals lucks x).lucks = s.lucks ∧ (s.step locs vals lucks x).more = s.more := by
  unfold quietB at h
  simp only [Bool.and_eq_true, Bool.not_eq_true', beq_eq_false_iff_ne, ne_eq] at h
  obtain ⟨h5, h7, h9, h10⟩ := h
  unfold St.step
  rw [if_neg (by omega)]
  split
  · exact ⟨rfl, rfl, rfl⟩
  repeat' split
  all_goals exact ⟨rfl, rfl, rfl⟩
theorem runT_quiet {th : List Ins} {locs : Int} {vals : List Int} {lucks : List Bool} (h : th.all quietB = true) : (runT th locs vals lucks).vals = 0 ∧ (runT th locs vals lucks).lucks = 0 ∧ (runT th locs vals lucks).more = 0 := by
  refine runT_ind (fun s => s.vals = 0 ∧ s.lucks = 0 ∧ s.more = 0) ⟨rfl, rfl, rfl⟩ ?_
  intro s x _ hx _ _ _ ⟨a, b, c⟩
  have hq : quietB x = true := List.all_eq_true.1 h x (List.mem_of_getElem? hx)
  obtain ⟨h1, h2, h3⟩ := step_quiet (locs := locs) (vals := vals) (lucks := lucks) (s := s.inc) hq
  exact ⟨h1.trans a, h2.trans b, h3.trans c⟩
end Go.Proofs.YtgaannoghefbbaaDoor
