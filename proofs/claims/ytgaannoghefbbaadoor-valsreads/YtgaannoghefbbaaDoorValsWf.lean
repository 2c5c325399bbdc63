/- What threads write on numbers of 64 bits is of 64 bits. -/
import Derived.Test.YtgaannoghefbbaaDoorValsMath3
import Derived.Test.YtgaannoghefbbaaDoorValsSet
import Derived.OpenShut
namespace Go.Proofs.YtgaannoghefbbaaDoor
open Go.RowKit

theorem inZ_of {n : Int} (h1 : -1000000 ≤ n) (h2 : n ≤ 1000000) : InZ n := WalkArith.wf_i64 (by omega)
theorem inZ0 : InZ 0 := inZ_of (by decide) (by decide)
theorem mayF_mem {locs : Int} : ∀ {th : List Ins} {x : Ins}, mayF locs th = true → x ∈ th → ∃ k : Int, mayB x.op x.d x.a x.b x.l x.i k locs = true
  | y :: l, x, h, hx => by
    unfold mayF at h
    rw [Bool.and_eq_true] at h
    rcases List.mem_cons.1 hx with rfl | hx
    · exact ⟨_, h.1⟩
    · exact mayF_mem h.2 hx
theorem may_imm {op d a b l i k locs : Int} (h : mayB op d a b l i k locs = true) (ho : op = 1) : InZ i := by
  subst ho
  unfold mayB at h
  simp only [Bool.and_eq_true] at h
  have h5 := h.2.2.2.2.2
  unfold m5B at h5
  rw [show hasIB 1 = true from rfl, cond_true] at h5
  unfold immB at h5
  rw [if_pos rfl] at h5
  simp only [Bool.and_eq_true, decide_eq_true_eq] at h5
  exact inZ_of (by omega) (by omega)
theorem wf_atR {v : Nat → Int} (h : ∀ k, InZ (v k)) (n : Int) : InZ (atR v n) := by
  unfold atR
  split
  · exact h _
  · exact inZ0
theorem wf_upd {v : Nat → Int} (h : ∀ k, InZ (v k)) {x : Int} (hx : InZ x) (n : Int) (k : Nat) : InZ (upd v n x k) := by
  unfold upd
  split
  · exact hx
  · exact h k
theorem wf_make {op a b i : Int} (hi : op = 1 → InZ i) : InZ (makeZ op a b i) := by
  unfold makeZ
  split
  · rename_i h; exact hi h
  · split
    · exact RowKit.wrap64_wf _
    · split
      · exact wf_bits _ _ _ _
      · exact wf_bits _ _ _ _
/-- Registers and values of events are of 64 bits. -/
structure WfS (s : St) : Prop where
  v : ∀ k, InZ (s.v k)
  e : ∀ e ∈ s.evs, InZ e.vl
theorem WfS.add {s : St} (h : WfS s) {e : Ev} (he : InZ e.vl) (a d p : Int) : WfS (s.add e a d p) :=
  ⟨h.v, fun x hx => by
    rcases List.mem_append.1 (show x ∈ s.evs ++ [e] from hx) with hx | hx
    · exact h.e x hx
    · rw [List.mem_singleton.1 hx]; exact he⟩
theorem WfS.set {s : St} (h : WfS s) {x : Int} (hx : InZ x) (n y : Int) : WfS (s.set n x y) := ⟨wf_upd h.v hx n, h.e⟩
theorem WfS.like {s t : St} (h : WfS s) (hv : t.v = s.v) (he : t.evs = s.evs) : WfS t := ⟨by rw [hv]; exact h.v, by rw [he]; exact h.e⟩
theorem WfS.write {s : St} (h : WfS s) (locs : Int) (x : Ins) (p : Int) : WfS (s.write locs x p) := h.add (wf_atR h.v x.b) _ _ _
theorem WfS.load {s : St} (h : WfS s) (locs val : Int) (x : Ins) (hval : InZ val) : WfS (s.load locs val x) := by
  have h1 : WfS ((({ s with vals := s.vals + 1 } : St).add (rdEv locs val x s) (placeD s.d x.op x.a locs) 0 (-1)).set x.d val (2 ^ s.evs.length)) :=
    ((h.like (t := { s with vals := s.vals + 1 }) rfl rfl).add hval _ _ _).set hval _ _
  unfold St.load
  simp only []
  split
  · exact h1.like rfl rfl
  · exact h1
theorem WfS.fail {s : St} (h : WfS s) (x : Ins) : WfS (s.fail x) := (h.like (t := { s with opn := -1 }) rfl rfl).set (inZ_of (by decide) (by decide)) _ _
theorem WfS.stx {s : St} (h : WfS s) (locs : Int) (x : Ins) : WfS (s.stx locs x) := ((h.like (t := { s with opn := -1, lucks := s.lucks + 1 }) rfl rfl).write locs x s.opn).set inZ0 _ _
theorem runT_wf (th : List Ins) (locs : Int) (vals : List Int) (lucks : List Bool) (hv : ∀ x ∈ vals, InZ x) : WfS (runT th locs vals lucks) := by
  refine runT_ind WfS ⟨fun _ => inZ0, fun e he => by simp [St.zero] at he⟩ ?_
  intro s x hm hx hz hok hi h0
  have hmx : x ∈ th := List.mem_of_getElem? hx
  unfold mayT at hm
  rw [Bool.and_eq_true] at hm
  obtain ⟨k, hk⟩ := mayF_mem hm.2 hmx
  have h : WfS s.inc := h0.like rfl rfl
  unfold St.step
  split
  · split
    · exact h.like rfl rfl
    · refine h.load _ _ _ ?_
      rw [List.getD_eq_getElem?_getD]
      cases hg : vals[s.inc.vals]? with
      | none => exact inZ0
      | some y => exact hv y (List.mem_of_getElem? hg)
  · split
    · exact h.write _ _ _
    · split
      · split
        · split
          · exact h.like rfl rfl
          · split
            · exact h.stx _ _
            · exact (h.like (t := { s.inc with lucks := s.inc.lucks + 1 }) rfl rfl).fail x
        · exact h.fail x
      · split
        · exact h.add inZ0 _ _ _
        · split
          · exact h.add inZ0 _ _ _
          · split
            · exact h.like rfl rfl
            · exact ⟨wf_upd h.v (wf_make (may_imm hk)) _, h.e⟩
/-- What threads write is of 64 bits. -/
theorem wrote_wf {th : List Ins} {locs : Int} {l : List Int} (hl : ∀ x ∈ l, InZ x) : ∀ y ∈ wroteT (tracesT th locs l), InZ y := by
  intro y hy
  unfold wroteT at hy
  rw [List.mem_flatMap] at hy
  obtain ⟨s, hs, hy⟩ := hy
  obtain ⟨v, b, rfl, _, _, hv⟩ := tracesT_mem hs
  unfold wroteS at hy
  obtain ⟨e, he, rfl⟩ := List.mem_map.1 hy
  exact (runT_wf th locs v b fun x hx => hl x (hv x hx)).e e (List.mem_filter.1 he).1
theorem nextN_wf {ts : List (List Ins)} {locs : Int} {l : List Int} (hl : ∀ x ∈ l, InZ x) : ∀ y ∈ nextN ts locs l, InZ y := by
  intro y hy
  rw [nextN_is] at hy
  rcases mem_putsN.1 hy with hy | hy
  · rw [List.mem_flatMap] at hy
    obtain ⟨th, _, hy⟩ := hy
    exact wrote_wf hl y hy
  · exact hl y hy
theorem putsN_wf {l m : List Int} (hl : ∀ x ∈ l, InZ x) (hm : ∀ x ∈ m, InZ x) : ∀ y ∈ putsN l m, InZ y := fun y hy => (mem_putsN.1 hy).elim (hm y) (hl y)
end Go.Proofs.YtgaannoghefbbaaDoor
