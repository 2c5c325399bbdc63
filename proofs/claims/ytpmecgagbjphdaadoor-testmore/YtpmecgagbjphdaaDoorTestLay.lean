/- Contracts of what lays threads out anew: withoutBarrier, withFence, isBranch, laidOut, relaid. -/
import Derived.Test.YtpmecgagbjphdaaDoorInsCalls
import Derived.Test.YtpmecgagbjphdaaDoorInsFacts
import Derived.Test.YtpmecgagbjphdaaDoorTestPlain
namespace Go.Proofs.YtpmecgagbjphdaaDoor
open Go.RowKit

theorem inf_of {P : Program} {t : TypeId} {i : TypeInfo} (h : P.info? t = some i) : ∃ i, P.info? t = some i := ⟨i, h⟩
theorem info_ins : ((Tryd.prog.info? 40).map fun i => (i.zero.map (·.cells.size), i.size, i.bytes)) = some (some 6, 6, 48) := by kernel_rfl
theorem info_thr : ((Tryd.prog.info? 37).map fun i => (i.zero.map (·.cells.size), i.size, i.bytes)) = some (some 1, 1, 24) := by kernel_rfl
theorem info_i64 : ((Tryd.prog.info? 2).map fun i => (i.zero.map (·.cells.size), i.size, i.bytes)) = some (some 1, 1, 8) := by kernel_rfl
theorem info_get {P : Program} {t : TypeId} {a b c : Nat} (h : ((P.info? t).map fun i => (i.zero.map (·.cells.size), i.size, i.bytes)) = some (some a, b, c)) : ∃ i z, P.info? t = some i ∧ i.zero = some z ∧ z.cells.size = a ∧ i.size = b ∧ i.bytes = c := by
  cases hi : P.info? t with
  | none => rw [hi] at h; simp at h
  | some i =>
    rw [hi] at h
    simp only [Option.map_some, Option.some.injEq, Prod.mk.injEq] at h
    obtain ⟨h1, h2, h3⟩ := h
    cases hz : i.zero with
    | none => rw [hz] at h1; simp at h1
    | some z => rw [hz] at h1; simp at h1; exact ⟨i, z, rfl, hz, h1, h2, h3⟩

/-- A function that lays an instruction out. -/
def LayOk (f : FuncId) (lay : Ins → List Ins) : Prop := ∀ (x : Ins) (w : World), Tab w →
  Calls Tryd.prog f #[.agg #[.int .i64 x.op, .int .i64 x.d, .int .i64 x.a, .int .i64 x.b, .int .i64 x.l, .int .i64 x.i]] w fun e w' =>
    ∃ p c, e = .returned (.slice p (lay x).length c) ∧ SlA (fun b => w.heap.size ≤ b) InsE w' (.slice p (lay x).length c) (lay x) ∧ Below w.heap.size w w'

/-- One instruction in a new block. -/
theorem ins_one {A : Nat → Prop} {w : World} {b c : Nat} (x : Ins) (hA : A b) (h : InsAt w b 0 x) (hc : 1 ≤ c := by decide) : SlA A InsE w (.slice (some ⟨b, 0, none⟩) 1 c) [x] := by
  refine ⟨_, c, rfl, ⟨(fun e => by cases e), hc⟩, fun _ => ⟨b, 0, rfl, hA, fun i hi => ⟨x.cells, ?_, fun j u hu => ?_⟩⟩⟩
  · have : i = 0 := by simp at hi; omega
    subst this; rfl
  · have : i = 0 := by simp at hi; omega
    subst this
    obtain ⟨h0, h1, h2, h3, h4, h5⟩ := h
    match j, hu with
    | 0, hu => simp [Ins.cells] at hu; subst hu; simpa using h0
    | 1, hu => simp [Ins.cells] at hu; subst hu; simpa using h1
    | 2, hu => simp [Ins.cells] at hu; subst hu; simpa using h2
    | 3, hu => simp [Ins.cells] at hu; subst hu; simpa using h3
    | 4, hu => simp [Ins.cells] at hu; subst hu; simpa using h4
    | 5, hu => simp [Ins.cells] at hu; subst hu; simpa using h5
    | j + 6, hu => simp [Ins.cells] at hu
theorem ins_two {A : Nat → Prop} {w : World} {b c : Nat} (x y : Ins) (hA : A b) (h : InsAt w b 0 x) (h' : InsAt w b 6 y) (hc : 2 ≤ c := by decide) : SlA A InsE w (.slice (some ⟨b, 0, none⟩) 2 c) [x, y] := by
  refine ⟨_, c, rfl, ⟨(fun e => by cases e), hc⟩, fun _ => ⟨b, 0, rfl, hA, fun i hi => ?_⟩⟩
  have hi' : i = 0 ∨ i = 1 := by simp at hi; omega
  rcases hi' with rfl | rfl
  · refine ⟨x.cells, rfl, fun j u hu => ?_⟩
    obtain ⟨h0, h1, h2, h3, h4, h5⟩ := h
    match j, hu with
    | 0, hu => simp [Ins.cells] at hu; subst hu; simpa using h0
    | 1, hu => simp [Ins.cells] at hu; subst hu; simpa using h1
    | 2, hu => simp [Ins.cells] at hu; subst hu; simpa using h2
    | 3, hu => simp [Ins.cells] at hu; subst hu; simpa using h3
    | 4, hu => simp [Ins.cells] at hu; subst hu; simpa using h4
    | 5, hu => simp [Ins.cells] at hu; subst hu; simpa using h5
    | j + 6, hu => simp [Ins.cells] at hu
  · refine ⟨y.cells, rfl, fun j u hu => ?_⟩
    obtain ⟨h0, h1, h2, h3, h4, h5⟩ := h'
    match j, hu with
    | 0, hu => simp [Ins.cells] at hu; subst hu; simpa [InsE] using h0
    | 1, hu => simp [Ins.cells] at hu; subst hu; simpa [InsE] using h1
    | 2, hu => simp [Ins.cells] at hu; subst hu; simpa [InsE] using h2
    | 3, hu => simp [Ins.cells] at hu; subst hu; simpa [InsE] using h3
    | 4, hu => simp [Ins.cells] at hu; subst hu; simpa [InsE] using h4
    | 5, hu => simp [Ins.cells] at hu; subst hu; simpa [InsE] using h5
    | j + 6, hu => simp [Ins.cells] at hu

set_option maxHeartbeats 1000000 in
theorem isBranch_any (x : Ins) (w : World) :
    Calls Tryd.prog 47 #[.agg #[.int .i64 x.op, .int .i64 x.d, .int .i64 x.a, .int .i64 x.b, .int .i64 x.l, .int .i64 x.i]] w fun e w' => e = .returned (.bool (brB x.op)) ∧ Below w.heap.size w w' := by
  cases h : (x.op == 13)
  all_goals
    go_enter Tryd.func47, Tryd.ntmps47
    go_wp2
    go_ret
    exact ⟨by simp [brB, h], by go_grown⟩

set_option maxHeartbeats 1000000 in
theorem withoutBarrier_ok : LayOk 31 lay0 := by
  intro x w _
  cases h : (x.op == 11)
  · cases h' : (x.op == 12)
    · have E : Hid (lay0 x = [x]) := by unfold Hid lay0 fnB; rw [h, h']; rfl
      go_enter Tryd.func31, Tryd.ntmps31
      go_wp2
      go_ret
      rw [E.out]
      exact ⟨_, _, rfl, ins_one x (by simp) ⟨by simp, by simp, by simp, by simp, by simp, by simp⟩, by go_grown⟩
    · have E : Hid (lay0 x = []) := by unfold Hid lay0 fnB; rw [h, h']; rfl
      go_enter Tryd.func31, Tryd.ntmps31
      go_wp2
      go_ret
      rw [E.out]
      exact ⟨_, _, rfl, SlA.nil, by go_grown⟩
  · have E : Hid (lay0 x = []) := by unfold Hid lay0 fnB; rw [h]; rfl
    go_enter Tryd.func31, Tryd.ntmps31
    go_wp2
    go_ret
    rw [E.out]
    exact ⟨_, _, rfl, SlA.nil, by go_grown⟩

set_option maxHeartbeats 1000000 in
theorem withFence_ok : LayOk 33 lay1 := by
  intro x w T
  have hb1 := ((Below.refl w.heap.size w).alloc (Nat.le_refl _) (.cells #[.int .i64 x.op, .int .i64 x.d, .int .i64 x.a, .int .i64 x.b, .int .i64 x.l, .int .i64 x.i] 40))
  by_cases hk : kindZ x.op = 0
  · have E : Hid (lay1 x = [x]) := by unfold Hid lay1; rw [if_pos hk]
    have HK : Hid _ := hk
    clear hk
    go_enter Tryd.func33, Tryd.ntmps33
    go_wp2_with (go_at_call 25; refine (Kind_any _ _ _ _ _ _ _ (T.alloc _)).mono ?_; rintro e w3 ⟨rfl, hb3⟩; rw [HK.out]; obtain ⟨hc, hf⟩ := bcell hb3)
    go_ret
    rw [E.out]
    have hB := hb1.trans (hb3.mono (by simp))
    exact ⟨_, _, rfl, ins_one x hB.size ⟨by simp, by simp, by simp, by simp, by simp, by simp⟩, hB.alloc hB.size _⟩
  · have E : Hid (lay1 x = [dmb, x]) := by unfold Hid lay1; rw [if_neg hk]
    have hk' : (kindZ x.op == 0) = false := by simpa using hk
    go_enter Tryd.func33, Tryd.ntmps33
    go_wp2_with (go_at_call 25; refine (Kind_any _ _ _ _ _ _ _ (T.alloc _)).mono ?_; rintro e w3 ⟨rfl, hb3⟩; obtain ⟨hc, hf⟩ := bcell hb3)
    go_ret
    rw [E.out]
    have hB := hb1.trans (hb3.mono (by simp))
    exact ⟨_, _, rfl, ins_two dmb x hB.size ⟨by simp [dmb], by simp [dmb], by simp [dmb], by simp [dmb], by simp [dmb], by simp [dmb]⟩ ⟨by simp, by simp, by simp, by simp, by simp, by simp⟩, hB.alloc hB.size _⟩

theorem laid_cons {lay : Ins → List Ins} {x : Ins} {xs : List Ins} : laid lay (x :: xs) = ((lay x).length : Int) + laid lay xs := by unfold laid; simp
theorem laid_nn {lay : Ins → List Ins} {xs : List Ins} : 0 ≤ laid lay xs := by unfold laid; omega
theorem laid_le {lay : Ins → List Ins} (h : ∀ x, (lay x).length ≤ 2) (xs : List Ins) : laid lay xs ≤ 2 * xs.length := by
  induction xs with
  | nil => simp [laid]
  | cons x xs ih => rw [laid_cons, List.length_cons]; have := h x; omega

set_option maxHeartbeats 1000000 in
theorem laidOut_any (f : FuncId) (hff : f = 31 ∨ f = 33) (lay : Ins → List Ins) (hf : LayOk f lay) (h2 : ∀ x, (lay x).length ≤ 2) (p : Option Addr) (c : Nat) (l : List Ins) (w : World) (T : Tab w) (hl : Sl InsE w (.slice p l.length c) l) (hL : l.length ≤ 1000000) :
    Calls Tryd.prog 48 #[.slice p l.length c, .func (.func f) #[] #[]] w fun e w' => e = .returned (.int .i64 (laid lay l)) ∧ Below w.heap.size w w' := by
  have HF : Hid _ := hf
  have H2 : Hid _ := h2
  clear hf h2
  rcases hff with rfl | rfl
  all_goals
    go_enter Tryd.func48, Tryd.ntmps48
    go_wp2
    go_loopw [5, 10] (fun n i wr => ∃ (k : Nat) (a : Int), k ≤ l.length ∧ i = .int .i64 k ∧ n = .int .i64 a ∧ 0 ≤ a ∧ a ≤ 2 * k ∧ a + laid lay (l.drop k) = laid lay l ∧ Below w.heap.size w wr) (fun _ i _ => l.length - (intOf i).toNat)
    case atStart => exact ⟨0, 0, Nat.zero_le _, rfl, rfl, Int.le_refl _, by simp, by simp, by go_grown⟩
    case round =>
      obtain ⟨k, a, hk, rfl, rfl, ha, ha2, hS, hB⟩ := hrel
      have HS : Hid _ := hS
      clear hS
      by_cases hlt : k < l.length
      · obtain ⟨ub, uo, rfl, e0, e1, e2, e3, e4, e5⟩ := (ins_at (hl.keep hB)).2 k hlt
        have Tr := T.below hB
        generalize hx : l[k] = x at e0 e1 e2 e3 e4 e5
        have HX : Hid (l.drop k = x :: l.drop (k + 1)) := by rw [← hx]; exact drop_at hlt
        clear hx
        have hx2 := H2.out x
        go_wp2_with (refine (HF.out x _ (Tr.alloc _)).mono ?_; rintro e w3 ⟨p3, c3, rfl, hs3, hb3⟩)
        go_roundw
        case rel => exact ⟨k + 1, _, by omega, by go_num, rfl, by omega, by omega, by have := HS.out; rw [HX.out, laid_cons] at this; rw [← this]; omega, (hB.alloc hB.size _).trans (hb3.mono (by simp; exact Nat.le_succ_of_le hB.size))⟩
        case measure => simp [intOf]; omega
      · go_wp2
        go_ret
        have e : a = laid lay l := by have := HS.out; rw [List.drop_of_length_le (by omega), show laid lay ([] : List Ins) = 0 from rfl] at this; omega
        exact ⟨by rw [e]; rfl, hB⟩
end Go.Proofs.YtpmecgagbjphdaaDoor
