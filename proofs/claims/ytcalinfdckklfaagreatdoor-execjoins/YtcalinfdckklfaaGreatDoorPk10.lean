/- On what events hang: loads ahead of them alone. -/
import Derived.Test.YtcalinfdckklfaaGreatDoorPk6
import Derived.Test.YtcalinfdckklfaaGreatDoorPk3
namespace Go.Proofs.YtcalinfdckklfaaGreatDoor
open Go.RowKit

/-- The event of that number is a read. -/
def rdAt (l : List Ev) (j : Nat) : Prop := ∃ e, l[j]? = some e ∧ e.kd = 1
/-- A set of reads. -/
def Msk (l : List Ev) (m : Int) : Prop := ∃ n : Nat, m = (n : Int) ∧ n < 4294967296 ∧ ∀ j, n.testBit j = true → rdAt l j
/-- One set is within the other. -/
def SubM (a b : Int) : Prop := ∃ n m : Nat, a = (n : Int) ∧ b = (m : Int) ∧ n < 4294967296 ∧ m < 4294967296 ∧ ∀ j, n.testBit j = true → m.testBit j = true
theorem rdAt.app {l : List Ev} {j : Nat} (h : rdAt l j) (m : List Ev) : rdAt (l ++ m) j := by
  obtain ⟨e, a, b⟩ := h
  exact ⟨e, by rw [List.getElem?_append_left (List.getElem?_eq_some_iff.1 a).1]; exact a, b⟩
theorem Msk.app {l : List Ev} {m : Int} (h : Msk l m) (k : List Ev) : Msk (l ++ k) m := by
  obtain ⟨n, a, b, c⟩ := h
  exact ⟨n, a, b, fun j hj => (c j hj).app k⟩
theorem Msk.zero {l : List Ev} : Msk l 0 := ⟨0, rfl, by decide, fun j h => by simp at h⟩
theorem Msk.or {l : List Ev} {a b : Int} (ha : Msk l a) (hb : Msk l b) : Msk l (bits .or .u32 a b) := by
  obtain ⟨n, rfl, n1, n2⟩ := ha
  obtain ⟨m, rfl, m1, m2⟩ := hb
  refine ⟨n ||| m, or_nat n1 m1, Nat.or_lt_two_pow (n := 32) n1 m1, fun j hj => ?_⟩
  rw [Nat.testBit_or, Bool.or_eq_true] at hj
  exact hj.elim (n2 j) (m2 j)
theorem Msk.one {l : List Ev} {j : Nat} (h : rdAt l j) (hj : j < 32) : Msk l (2 ^ j) := by
  refine ⟨2 ^ j, by simp, ?_, fun i hi => ?_⟩
  · exact Nat.lt_of_lt_of_le (Nat.pow_lt_pow_right (by decide) hj) (by decide)
  · rw [Nat.testBit_two_pow] at hi
    have : j = i := by simpa using hi
    rw [← this]; exact h
theorem Msk.atR {l : List Ev} {d : Nat → Int} (h : ∀ k, Msk l (d k)) (n : Int) : Msk l (atR d n) := by
  unfold Go.Proofs.YtcalinfdckklfaaGreatDoor.atR
  split
  · exact h _
  · exact Msk.zero
theorem Msk.hang {l : List Ev} {d : Nat → Int} (h : ∀ k, Msk l (d k)) : ∀ (us : List Int) (acc : Int), Msk l acc → Msk l (hangF d us acc)
  | [], _, ha => ha
  | n :: us, _, ha => Msk.hang h us _ (ha.or (Msk.atR h n))
theorem Msk.place {l : List Ev} {d : Nat → Int} (h : ∀ k, Msk l (d k)) (op a locs : Int) : Msk l (placeD d op a locs) := by
  unfold placeD
  split
  · exact Msk.zero
  · exact Msk.atR h _
theorem Msk.upd {l : List Ev} {d : Nat → Int} (h : ∀ k, Msk l (d k)) {n y : Int} (hy : Msk l y) : ∀ k, Msk l (upd d n y k) := by
  intro k
  unfold Go.Proofs.YtcalinfdckklfaaGreatDoor.upd
  split
  · exact hy
  · exact h k
theorem SubM.or {l : List Ev} {a c b : Int} (h : SubM a c) (hb : Msk l b) : SubM a (bits .or .u32 c b) := by
  obtain ⟨n, m, rfl, rfl, h1, h2, h3⟩ := h
  obtain ⟨k, rfl, k1, _⟩ := hb
  exact ⟨n, m ||| k, rfl, or_nat h2 k1, h1, Nat.or_lt_two_pow (n := 32) h2 k1, fun j hj => by rw [Nat.testBit_or, h3 j hj]; rfl⟩
theorem Msk.self {l : List Ev} {a : Int} (h : Msk l a) : SubM a a := by
  obtain ⟨n, rfl, a, _⟩ := h
  exact ⟨n, n, rfl, rfl, a, a, fun _ h => h⟩
/-- What is within leaves nothing. -/
theorem andNot_0 {a b : Nat} (_ha : a < 4294967296) (_hb : b < 4294967296) (h : ∀ j, a.testBit j = true → b.testBit j = true) : bits .andNot .u32 (a : Int) (b : Int) = 0 := by
  have e : bits .andNot .u32 (a : Int) (b : Int) = IntKind.u32.wrap (((BitVec.ofInt 32 (a : Int) &&& ~~~ BitVec.ofInt 32 (b : Int)).toNat : Nat) : Int) := rfl
  have z : BitVec.ofInt 32 (a : Int) &&& ~~~ BitVec.ofInt 32 (b : Int) = 0#32 := by
    rw [BitVec.ofInt_natCast, BitVec.ofInt_natCast]
    apply BitVec.eq_of_getLsbD_eq
    intro i hi
    rw [BitVec.getLsbD_and, BitVec.getLsbD_not, BitVec.getLsbD_ofNat, BitVec.getLsbD_ofNat]
    have := h i
    by_cases hx : a.testBit i = true
    · simp [hx, this hx]
    · simp [Bool.not_eq_true _ ▸ hx]
  rw [e, z]
  decide
theorem SubM.zero {a b : Int} (h : SubM a b) : bits .andNot .u32 a b = 0 := by
  obtain ⟨n, m, rfl, rfl, h1, h2, h3⟩ := h
  exact andNot_0 h1 h2 h3

/-- What holds of an event, by those ahead of it. -/
structure GoodE (pre : List Ev) (e : Ev) (a d c p : Int) : Prop where
  ma : Msk pre a
  md : Msk pre d
  mc : Msk pre c
  w : e.kd ≠ 2 → d = 0
  kd : 1 ≤ e.kd ∧ e.kd ≤ 6
  th : e.th = 0
  p1 : 0 ≤ p ↔ (e.kd = 2 ∧ e.ex = true)
  p2 : p < pre.length
  p3 : 0 ≤ p → ∃ f, pre[p.toNat]? = some f ∧ f.kd = 1 ∧ f.ex = true ∧ f.lc = e.lc
structure Hang (s : St) : Prop where
  ev : ∀ i e a d c p, s.evs[i]? = some e → s.ad[i]? = some a → s.da[i]? = some d → s.ct[i]? = some c → s.pa[i]? = some p → GoodE (s.evs.take i) e a d c p
  dep : ∀ k, Msk s.evs (s.d k)
  ctrl : Msk s.evs s.ctrl
  grow : ∀ i c c', s.ct[i]? = some c → s.ct[i + 1]? = some c' → SubM c c'
  last : ∀ c ∈ s.ct, SubM c s.ctrl
  opn : s.opn = -1 ∨ ∃ f, 0 ≤ s.opn ∧ s.evs[s.opn.toNat]? = some f ∧ f.kd = 1 ∧ f.ex = true
theorem hang_zero : Hang .zero := by
  refine ⟨fun i e a d c p h => ?_, fun k => Msk.zero, Msk.zero, fun i c c' h => ?_, fun c h => ?_, .inl rfl⟩
  · simp [St.zero] at h
  · simp [St.zero] at h
  · simp [St.zero] at h
theorem app_at {α : Type} {l : List α} {x y : α} {i : Nat} (h : (l ++ [x])[i]? = some y) : (i < l.length ∧ l[i]? = some y) ∨ (i = l.length ∧ y = x) := by
  by_cases hi : i < l.length
  · rw [List.getElem?_append_left hi] at h
    exact .inl ⟨hi, h⟩
  · have hlt := (List.getElem?_eq_some_iff.1 h).1
    rw [List.length_append, List.length_singleton] at hlt
    have e : i = l.length := by omega
    subst e
    rw [List.getElem?_append_right (Nat.le_refl _), Nat.sub_self] at h
    exact .inr ⟨rfl, by simpa using h.symm⟩
theorem Hang.add {s : St} (h : Hang s) {n : Nat} {vals : List Int} {lucks : List Bool} (ok : StIn n vals lucks s) {e : Ev} {a d p : Int} (g : GoodE s.evs e a d s.ctrl p) : Hang (s.add e a d p) := by
  refine ⟨?_, fun k => (h.dep k).app _, h.ctrl.app _, ?_, ?_, ?_⟩
  · intro i e' a' d' c' p' h0 h1 h2 h3 h4
    have h0 : (s.evs ++ [e])[i]? = some e' := h0
    have h1 : (s.ad ++ [a])[i]? = some a' := h1
    have h2 : (s.da ++ [d])[i]? = some d' := h2
    have h3 : (s.ct ++ [s.ctrl])[i]? = some c' := h3
    have h4 : (s.pa ++ [p])[i]? = some p' := h4
    show GoodE ((s.evs ++ [e]).take i) e' a' d' c' p'
    have l1 := ok.ad
    have l2 := ok.da
    have l3 := ok.ct
    have l4 := ok.pa
    rcases app_at h0 with ⟨q, h0'⟩ | ⟨q, rfl⟩
    · rcases app_at h1 with ⟨_, h1'⟩ | ⟨q1, _⟩
      · rcases app_at h2 with ⟨_, h2'⟩ | ⟨q1, _⟩
        · rcases app_at h3 with ⟨_, h3'⟩ | ⟨q1, _⟩
          · rcases app_at h4 with ⟨_, h4'⟩ | ⟨q1, _⟩
            · rw [List.take_append_of_le_length (by omega)]
              exact h.ev i _ _ _ _ _ h0' h1' h2' h3' h4'
            · omega
          · omega
        · omega
      · omega
    · rcases app_at h1 with ⟨_, _⟩ | ⟨_, rfl⟩
      · omega
      rcases app_at h2 with ⟨_, _⟩ | ⟨_, rfl⟩
      · omega
      rcases app_at h3 with ⟨_, _⟩ | ⟨_, rfl⟩
      · omega
      rcases app_at h4 with ⟨_, _⟩ | ⟨_, rfl⟩
      · omega
      rw [q, List.take_left]
      exact g
  · intro i c c' h1 h2
    have h1 : (s.ct ++ [s.ctrl])[i]? = some c := h1
    have h2 : (s.ct ++ [s.ctrl])[i + 1]? = some c' := h2
    rcases app_at h1 with ⟨q, h1'⟩ | ⟨q, _⟩
    · rcases app_at h2 with ⟨_, h2'⟩ | ⟨_, rfl⟩
      · exact h.grow i c c' h1' h2'
      · exact h.last c (List.mem_of_getElem? h1')
    · have := (List.getElem?_eq_some_iff.1 h2).1
      rw [List.length_append, List.length_singleton] at this
      omega
  · intro c hc
    have hc : c ∈ s.ct ++ [s.ctrl] := hc
    rcases List.mem_append.1 hc with hc | hc
    · exact h.last c hc
    · rw [List.mem_singleton.1 hc]
      exact h.ctrl.self
  · rcases h.opn with h' | ⟨f, h1, h2, h3, h4⟩
    · exact .inl h'
    · refine .inr ⟨f, h1, ?_, h3, h4⟩
      show (s.evs ++ [e])[s.opn.toNat]? = some f
      rw [List.getElem?_append_left (List.getElem?_eq_some_iff.1 h2).1]
      exact h2
theorem Hang.set {s : St} (h : Hang s) (n x : Int) {y : Int} (hy : Msk s.evs y) : Hang (s.set n x y) := ⟨h.ev, Msk.upd h.dep hy, h.ctrl, h.grow, h.last, h.opn⟩
theorem Hang.shut {s : St} (h : Hang s) (k : Nat) : Hang { s with opn := -1, lucks := k } := ⟨h.ev, h.dep, h.ctrl, h.grow, h.last, .inl rfl⟩
theorem good_br {pre : List Ev} {k c : Int} (h1 : 3 ≤ k) (h2 : k ≤ 6) (hc : Msk pre c) : GoodE pre (brEv k) 0 0 c (-1) :=
  ⟨Msk.zero, Msk.zero, hc, fun _ => rfl, ⟨by simp only [brEv]; omega, h2⟩, rfl, ⟨fun h => by omega, fun h => by have := h.1; simp only [brEv] at this; omega⟩, by omega, fun h => by omega⟩
theorem Hang.step {s : St} (h : Hang s) {n : Nat} {locs : Int} {vals : List Int} {lucks : List Bool} {x : Ins} (hok : StIn n vals lucks s) (hn : n ≤ 8) (ok : InsOk locs (n - s.next) x) : Hang (s.step locs vals lucks x) := by
  have hlen : s.evs.length < 32 := by have := hok.ev; have := hok.nx; omega
  unfold St.step
  split
  · split
    · exact ⟨h.ev, h.dep, h.ctrl, h.grow, h.last, h.opn⟩
    · have g : GoodE s.evs (rdEv locs (vals.getD s.vals 0) x s) (placeD s.d x.op x.a locs) 0 s.ctrl (-1) :=
        ⟨Msk.place h.dep _ _ _, Msk.zero, h.ctrl, fun _ => rfl, ⟨by simp [rdEv], by simp [rdEv]⟩, rfl, ⟨fun h => by omega, fun h => by have := h.1; simp [rdEv] at this⟩, by omega, fun h => by omega⟩
      have h1 : Hang { s with vals := s.vals + 1 } := ⟨h.ev, h.dep, h.ctrl, h.grow, h.last, h.opn⟩
      have k1 : StIn n (vals ++ [0]) lucks { s with vals := s.vals + 1 } := ⟨hok.ev, hok.nx, hok.ad, hok.da, hok.ct, hok.pa, by have := hok.vs; show s.vals + 1 ≤ _; rw [List.length_append, List.length_singleton]; omega, hok.ls, hok.op⟩
      have e1 : (s.evs ++ [rdEv locs (vals.getD s.vals 0) x s])[s.evs.length]? = some (rdEv locs (vals.getD s.vals 0) x s) := by simp
      have h2 := (h1.add k1 g).set x.d (vals.getD s.vals 0) (y := 2 ^ s.evs.length) (Msk.one ⟨_, e1, rfl⟩ hlen)
      unfold St.load
      simp only []
      split
      · rename_i h9
        refine ⟨h2.ev, h2.dep, h2.ctrl, h2.grow, h2.last, .inr ⟨_, by simp, e1, rfl, ?_⟩⟩
        simp [rdEv, h9]
      · exact h2
  · split
    · rename_i hst
      refine h.add hok ⟨Msk.place h.dep _ _ _, Msk.atR h.dep _, h.ctrl, fun q => absurd rfl q, ⟨by simp [wrEv], by simp [wrEv]⟩, rfl, ⟨fun h => by omega, fun q => ?_⟩, by omega, fun h => by omega⟩
      have := q.2
      simp only [wrEv, beq_iff_eq] at this
      omega
    · split
      · rename_i h10
        split
        · rename_i hr
          split
          · exact ⟨h.ev, h.dep, h.ctrl, h.grow, h.last, .inl rfl⟩
          · split
            · unfold St.reach at hr
              simp only [Bool.and_eq_true, Bool.not_eq_true', beq_eq_false_iff_ne, ne_eq, beq_iff_eq] at hr
              obtain ⟨ho, hl⟩ := hr
              rcases h.opn with h' | ⟨f, f1, f2, f3, f4⟩
              · exact absurd h' ho
              · have hlc : f.lc = placeZ s.v x.op x.a x.l locs := by rw [← hl]; unfold St.lcAt; rw [f2]; rfl
                have g : GoodE s.evs (wrEv locs x s) (placeD s.d x.op x.a locs) (atR s.d x.b) s.ctrl s.opn :=
                  ⟨Msk.place h.dep _ _ _, Msk.atR h.dep _, h.ctrl, fun q => absurd rfl q, ⟨by simp [wrEv], by simp [wrEv]⟩, rfl, ⟨fun _ => ⟨rfl, by simp [wrEv, h10]⟩, fun _ => f1⟩, by have := (List.getElem?_eq_some_iff.1 f2).1; omega, fun _ => ⟨f, f2, f3, f4, hlc⟩⟩
                have k1 : StIn n vals (lucks ++ [true]) { s with opn := -1, lucks := s.lucks + 1 } := ⟨hok.ev, hok.nx, hok.ad, hok.da, hok.ct, hok.pa, hok.vs, by have := hok.ls; show s.lucks + 1 ≤ _; rw [List.length_append, List.length_singleton]; omega, ⟨by show (-1 : Int) ≤ -1; omega, by show (-1 : Int) < (s.evs.length : Nat); omega⟩⟩
                exact ((h.shut (s.lucks + 1)).add k1 g).set _ _ Msk.zero
            · exact (h.shut (s.lucks + 1)).set _ _ Msk.zero
        · exact (h.shut s.lucks).set _ _ Msk.zero
      · split
        · rename_i h11
          have := ok.dmb h11
          exact h.add hok (good_br (by omega) (by omega) h.ctrl)
        · split
          · exact h.add hok (good_br (by decide) (by decide) h.ctrl)
          · split
            · have hd := Msk.atR h.dep x.a
              exact ⟨h.ev, h.dep, h.ctrl.or hd, h.grow, fun c hc => (h.last c hc).or hd, h.opn⟩
            · exact ⟨h.ev, Msk.upd h.dep (Msk.hang h.dep _ _ Msk.zero), h.ctrl, h.grow, h.last, h.opn⟩
theorem runT_hang (th : List Ins) (locs : Int) (vals : List Int) (lucks : List Bool) : Hang (runT th locs vals lucks) := by
  refine runT_ind Hang hang_zero ?_
  intro s x hm hx _ hok hi h
  have hm' := hm
  unfold mayT at hm'
  simp only [Bool.and_eq_true, decide_eq_true_eq] at hm'
  have h' : Hang s.inc := ⟨h.ev, h.dep, h.ctrl, h.grow, h.last, h.opn⟩
  have hlt : s.next < th.length := (List.getElem?_eq_some_iff.1 hx).1
  refine h'.step (hok.inc hlt) hm'.1.1 ?_
  rw [show th.length - s.inc.next = th.length - 1 - s.next by simp only [St.inc]; omega]
  exact hi
end Go.Proofs.YtcalinfdckklfaaGreatDoor
