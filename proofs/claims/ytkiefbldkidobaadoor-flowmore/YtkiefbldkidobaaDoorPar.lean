/- A region that draws its order, in which memory is made in more ways than one: every operation is asked once, in whatever world that has grown so far; what each gives stays so while the world grows. The late operations come behind, one behind the other. -/
import Derived.Test.YtkiefbldkidobaaDoorMixL
namespace Go.Proofs.YtkiefbldkidobaaDoor
open Go.RowKit

section
variable {P : Program} {ops : Array Oper} {Q : Exit → Act → World → Prop}

def dstOf (ops : Array Oper) (i : Nat) : Option Tmp := (ops[i]?).bind (·.dst)

/-- The frame is a0's but for the temporaries of the operations of 'sel', which hold 'vals'. -/
structure Fr (ops : Array Oper) (sel : Nat → Bool) (vals : Nat → Value) (a0 a : Act) : Prop where
  defers : a.defers = a0.defers
  size : a.tmps.size = a0.tmps.size
  on : ∀ i t, sel i = true → dstOf ops i = some t → t < a0.tmps.size → a.tmps[t]? = some (vals i)
  off : ∀ t, (∀ i, sel i = true → dstOf ops i ≠ some t) → a.tmps[t]? = a0.tmps[t]?

theorem Fr.uniq {sel : Nat → Bool} {vals : Nat → Value} {a0 a b : Act} (h : Fr ops sel vals a0 a) (k : Fr ops sel vals a0 b) : a = b := by
  obtain ⟨ta, da⟩ := a
  obtain ⟨tb, db⟩ := b
  have hd : da = db := h.defers.trans k.defers.symm
  subst hd
  have ht : ta = tb := by
    refine Array.ext_getElem? fun t => ?_
    by_cases hx : ∃ i, sel i = true ∧ dstOf ops i = some t
    · obtain ⟨i, hs, hd⟩ := hx
      by_cases hlt : t < a0.tmps.size
      · rw [h.on i t hs hd hlt, k.on i t hs hd hlt]
      · have e1 : ta.size = a0.tmps.size := h.size
        have e2 : tb.size = a0.tmps.size := k.size
        rw [Array.getElem?_eq_none (by omega), Array.getElem?_eq_none (by omega)]
    · have hx' : ∀ i, sel i = true → dstOf ops i ≠ some t := fun i hs hd => hx ⟨i, hs, hd⟩
      rw [h.off t hx', k.off t hx']
  subst ht
  rfl
theorem Fr.vals {sel : Nat → Bool} {vals vals' : Nat → Value} {a0 a : Act} (h : Fr ops sel vals a0 a) (hv : ∀ i, sel i = true → vals i = vals' i) : Fr ops sel vals' a0 a :=
  ⟨h.defers, h.size, fun i t hs hd hl => by rw [h.on i t hs hd hl, hv i hs], h.off⟩
theorem Fr.sel {sel sel' : Nat → Bool} {vals : Nat → Value} {a0 a : Act} (h : Fr ops sel vals a0 a) (hv : ∀ i, sel i = sel' i) : Fr ops sel' vals a0 a := by
  have : sel = sel' := funext hv
  subst this; exact h
def setV (vals : Nat → Value) (i : Nat) (v : Value) : Nat → Value := fun j => if j = i then v else vals j
theorem Fr.put {sel : Nat → Bool} {vals : Nat → Value} {a0 a : Act} {i : Nat} {v : Value} (h : Fr ops sel vals a0 a) (hi : sel i = false) (hd : ∀ j t, sel j = true → dstOf ops j = some t → dstOf ops i ≠ some t) :
    Fr ops (fun j => sel j || j == i) (setV vals i v) a0 (a.put (dstOf ops i) v) := by
  have hne : ∀ j, sel j = true → j ≠ i := fun j hj e => by subst e; rw [hi] at hj; cases hj
  cases hdi : dstOf ops i with
  | none =>
    refine ⟨h.defers, h.size, fun j t hs hj hl => ?_, fun t ht => h.off t (fun j hs => ht j (by simp [hs]))⟩
    simp only [Bool.or_eq_true, beq_iff_eq] at hs
    rcases hs with hs | rfl
    · rw [setV, if_neg (hne j hs)]; exact h.on j t hs hj hl
    · rw [hdi] at hj; cases hj
  | some d =>
    refine ⟨h.defers, by simpa [Act.put] using h.size, fun j t hs hj hl => ?_, fun t ht => ?_⟩
    · simp only [Bool.or_eq_true, beq_iff_eq] at hs
      rcases hs with hs | rfl
      · have : d ≠ t := fun e => hd j t hs hj (by rw [hdi, e])
        rw [setV, if_neg (hne j hs)]
        simp only [Act.put]
        rw [Array.getElem?_setIfInBounds_ne this]
        exact h.on j t hs hj hl
      · rw [hdi] at hj
        cases hj
        rw [setV, if_pos rfl]
        simp only [Act.put]
        rw [Array.getElem?_setIfInBounds_self_of_lt (by rw [h.size]; exact hl)]
    · have h1 : d ≠ t := fun e => ht i (by simp) (by rw [hdi, e])
      simp only [Act.put]
      rw [Array.getElem?_setIfInBounds_ne h1]
      exact h.off t (fun j hs => ht j (by simp [hs]))

theorem Fr.eval {sel sel' : Nat → Bool} {vals : Nat → Value} {a0 a b : Act} {x : Operand} (h : Fr ops sel vals a0 a) (k : Fr ops sel' vals a0 b)
    (hx : ∀ t, x = .tmp t → ∀ j, dstOf ops j = some t → sel j = sel' j) : a.eval x = b.eval x := by
  cases x with
  | tmp t =>
    have e : a.tmps[t]? = b.tmps[t]? := by
      by_cases hh : ∃ i, sel i = true ∧ dstOf ops i = some t
      · obtain ⟨i, hs, hd⟩ := hh
        have hs' : sel' i = true := by rw [← hx t rfl i hd]; exact hs
        by_cases hlt : t < a0.tmps.size
        · rw [h.on i t hs hd hlt, k.on i t hs' hd hlt]
        · rw [Array.getElem?_eq_none (by rw [h.size]; exact Nat.not_lt.1 hlt), Array.getElem?_eq_none (by rw [k.size]; exact Nat.not_lt.1 hlt)]
      · have h1 : ∀ i, sel i = true → dstOf ops i ≠ some t := fun i hs hd => hh ⟨i, hs, hd⟩
        have h2 : ∀ i, sel' i = true → dstOf ops i ≠ some t := fun i hs hd => h1 i (by rw [hx t rfl i hd]; exact hs) hd
        rw [h.off t h1, k.off t h2]
    simp only [Act.eval, Array.getD_eq_getD_getElem?, e]
  | const _ => rfl
  | global _ => rfl
  | func _ => rfl

/-- What is asked of the region, by reckoning. -/
def parB (ops : Array Oper) (ls : List Nat) : Bool :=
  Region.noSelect ops &&
  (List.range ops.size).all (fun i => match ops[i]? with
    | none => false
    | some o => o.after.all (fun e => !Region.binds .any e || decide (e.on < i)) && (ls.contains i || (o.guard.isNone &&
        (List.range ops.size).all (fun j => ls.contains j ||
          ((j == i || dstOf ops j == none || dstOf ops j != dstOf ops i) &&
            (match dstOf ops j with
             | some d => !(o.looksAt ops).contains d || o.after.any (fun e => Region.binds .any e && e.on == j)
             | none => true)))))) &&
  (List.range ops.size).all (fun i => ls.contains i || ls.all fun j => (depOn ops i ops.size).getD j false) &&
  (List.range ops.size).all (fun i => ls.contains i || (List.range ops.size).all fun k => !(depOn ops i ops.size).getD k false || k == i || match ops[k]? with
      | some o => o.after.any fun e => Region.binds .any e && (depOn ops i ops.size).getD e.on false
      | none => false)
/-- The late ones, in their turn. -/
def seqB (ops : Array Oper) : List Nat → Array Bool → Bool
  | [], listed => (Region.ready .any ops listed).isEmpty
  | i :: rest, listed => Region.ready .any ops listed == [i] && seqB ops rest (listed.setIfInBounds i true)

theorem seq_any : ∀ (ls : List Nat) (listed : Array Bool) (a : Act) (w : World), seqB ops ls listed = true → wpList P ops Q (ls.map (opAt ops.toList)) a w → wpAny P .any ops Q ls.length listed a w
  | [], listed, a, w, hB, h => ⟨by simpa [seqB] using hB, by simpa [wpList] using h⟩
  | i :: rest, listed, a, w, hB, h => by
    simp only [seqB, Bool.and_eq_true, beq_iff_eq] at hB
    obtain ⟨hr, hB⟩ := hB
    refine ⟨fun h0 => (by rw [hr] at h0; cases h0), fun j hj => ?_⟩
    have hmem := hj
    rw [hr] at hj
    simp only [List.mem_singleton] at hj
    subst hj
    obtain ⟨_, o, ho, _⟩ := mem_ready.1 hmem
    have ho' : opAt ops.toList j = o := opAt_get (by simpa using ho)
    simp only [List.map_cons, wpList, ho'] at h
    unfold wpOp
    simp only [ho]
    split
    · rename_i hw
      simp only [hw, if_true] at h
      rcases h with h | h
      · exact .inl (Oper.wp_mono (fun a' w' hk => seq_any rest _ a' w' hB hk) h)
      · exact .inr h
    · rename_i hw
      simp only [hw] at h
      exact seq_any rest _ _ w hB h

theorem parB_op {ls : List Nat} (h : parB ops ls = true) {i : Nat} {o : Oper} (ho : ops[i]? = some o) : (∀ e ∈ o.after, Region.binds .any e = true → e.on < i) ∧ (ls.contains i = false → o.guard = none ∧
    ∀ j, ls.contains j = false → j < ops.size → ∀ d, dstOf ops j = some d → (j ≠ i → dstOf ops i ≠ some d) ∧ (d ∈ o.looksAt ops → ∃ e ∈ o.after, Region.binds .any e = true ∧ e.on = j)) := by
  have hi : i < ops.size := (Array.getElem?_eq_some_iff.1 ho).1
  simp only [parB, Bool.and_eq_true, List.all_eq_true, List.mem_range] at h
  have h1 := h.1.1.2 i hi
  rw [ho] at h1
  simp only [Bool.and_eq_true, Array.all_eq_true', Bool.or_eq_true, Bool.not_eq_true', decide_eq_true_eq, List.all_eq_true, List.mem_range] at h1
  obtain ⟨h2, h3⟩ := h1
  refine ⟨fun e he hb => ?_, fun hl => ?_⟩
  · rcases h2 e he with h | h
    · rw [hb] at h; cases h
    · exact h
  · rcases h3 with h3 | h3
    · rw [hl] at h3; cases h3
    refine ⟨Option.isNone_iff_eq_none.1 h3.1, fun j hj hjs d hd => ?_⟩
    rcases h3.2 j hjs with h4 | h4
    · rw [hj] at h4; cases h4
    obtain ⟨h5, h6⟩ := h4
    rw [hd] at h6
    refine ⟨fun hne hdi => ?_, fun hlk => ?_⟩
    · rcases h5 with (h5 | h5) | h5
      · exact hne (by simpa using h5)
      · rw [hd] at h5; simp at h5
      · rw [hd, hdi] at h5; simp at h5
    · simp only [Bool.or_eq_true, Bool.not_eq_true', Array.any_eq_true'] at h6
      rcases h6 with h6 | ⟨e, he, hb⟩
      · rw [List.contains_eq_mem] at h6; simp at h6; exact absurd hlk h6
      · simp only [Bool.and_eq_true, beq_iff_eq] at hb
        exact ⟨e, he, hb.1, hb.2⟩
theorem parB_late {ls : List Nat} (h : parB ops ls = true) {i : Nat} (hi : i < ops.size) (hl : ls.contains i = false) :
    (∀ j ∈ ls, (depOn ops i ops.size).getD j false = true) ∧ ∀ k, k < ops.size → (depOn ops i ops.size).getD k false = true → k ≠ i → ∃ o, ops[k]? = some o ∧ ∃ e ∈ o.after, Region.binds .any e = true ∧ (depOn ops i ops.size).getD e.on false = true := by
  simp only [parB, Bool.and_eq_true, List.all_eq_true, List.mem_range] at h
  have h1 := h.1.2 i hi
  have h2 := h.2 i hi
  rw [hl] at h1 h2
  simp only [Bool.false_or, List.all_eq_true, List.mem_range] at h1 h2
  refine ⟨h1, fun k hk hu hki => ?_⟩
  have h3 := h2 k hk
  rw [hu] at h3
  simp only [Bool.not_true, Bool.false_or, Bool.or_eq_true, beq_iff_eq, hki, false_or] at h3
  cases ho : ops[k]? with
  | none => rw [ho] at h3; cases h3
  | some o =>
    rw [ho] at h3
    simp only [Array.any_eq_true', Bool.and_eq_true] at h3
    obtain ⟨e, he, hb⟩ := h3
    exact ⟨o, rfl, e, he, hb.1, hb.2⟩

/-- What has come up came behind what it waits for. -/
def Down (ops : Array Oper) (listed : Array Bool) : Prop := ∀ k o, ops[k]? = some o → listed.getD k false = true → ∀ e ∈ o.after, Region.binds .any e = true → listed.getD e.on false = true

theorem down_dep {ls : List Nat} (h : parB ops ls = true) {listed : Array Bool} (hD : Down ops listed) {i : Nat} (hi : i < ops.size) (hl : ls.contains i = false) :
    ∀ (n k : Nat), k < n → k < ops.size → (depOn ops i ops.size).getD k false = true → listed.getD k false = true → listed.getD i false = true
  | 0, k, hk, _, _, _ => by omega
  | n + 1, k, hk, hks, hu, hlk => by
    by_cases hki : k = i
    · subst hki; exact hlk
    · obtain ⟨o, ho, e, he, hb, hu2⟩ := (parB_late h hi hl).2 k hks hu hki
      have hlt := (parB_op h ho).1 e he hb
      exact down_dep h hD hi hl n e.on (by omega) (by omega) hu2 (hD k o ho hlk e he hb)

/-- THE PHASE IN WHICH ANYTHING MAY COME UP. -/
theorem par_any {ls : List Nat} {a0 : Act} {w0 : World} {φ : Nat → Value → World → Prop} {F : (Nat → Value) → Act} (hB : parB ops ls = true)
    (hF : ∀ vals, Fr ops (fun i => decide (i < ops.size) && !ls.contains i) vals a0 (F vals))
    (stab : ∀ i v w w', φ i v w → Below w.heap.size w w' → φ i v w')
    (step : ∀ i o, ops[i]? = some o → ls.contains i = false → ∀ vals w, Below w0.heap.size w0 w → (∀ e ∈ o.after, Region.binds .any e = true → φ e.on (vals e.on) w) →
      wpList P ops (Exit.then (fun a' w' => ∃ v, a' = (F vals).put o.dst v ∧ φ i v w' ∧ Below w.heap.size w w') (fun _ _ _ => False)) [o] (F vals) w)
    (fin : ∀ vals w listed, Below w0.heap.size w0 w → (∀ i, i < ops.size → ls.contains i = false → φ i (vals i) w) → (∀ i, i < ops.size → listed.getD i false = !ls.contains i) → listed.size = ops.size → wpAny P .any ops Q ls.length listed (F vals) w) :
    ∀ (fuel : Nat) (listed : Array Bool) (vals : Nat → Value) (a : Act) (w : World), listed.size = ops.size → Down ops listed → (∀ j ∈ ls, listed.getD j false = false) → Below w0.heap.size w0 w →
      Fr ops (fun i => listed.getD i false) vals a0 a → (∀ i, listed.getD i false = true → φ i (vals i) w) → fuel = ((List.range ops.size).filter fun i => !listed.getD i false && !ls.contains i).length →
      wpAny P .any ops Q (fuel + ls.length) listed a w := by
  intro fuel
  induction fuel with
  | zero =>
    intro listed vals a w hsz hD hlate hBw hFr hφ hc
    have hall : ∀ i, i < ops.size → listed.getD i false = !ls.contains i := by
      intro i hi
      have hn : i ∉ (List.range ops.size).filter fun i => !listed.getD i false && !ls.contains i := by
        rw [List.length_eq_zero_iff.1 hc.symm]; simp
      rw [List.mem_filter] at hn
      cases hl : ls.contains i
      · cases hli : listed.getD i false
        · exact absurd ⟨List.mem_range.2 hi, by rw [hli, hl]; rfl⟩ hn
        · rfl
      · rw [hlate i (by simpa using hl)]; rfl
    have ha : a = F vals := by
      refine (hFr.sel fun i => ?_).uniq (hF vals)
      by_cases hi : i < ops.size
      · rw [hall i hi]; simp [hi]
      · rw [decide_eq_false hi, Bool.false_and]
        simp [Array.getElem?_eq_none (show listed.size ≤ i by omega)]
    rw [Nat.zero_add, ha]
    exact fin vals w listed hBw (fun i hi hl => hφ i (by rw [hall i hi, hl]; rfl)) hall hsz
  | succ fuel ih =>
    intro listed vals a w hsz hD hlate hBw hFr hφ hc
    -- one that has not come up
    obtain ⟨u, hu⟩ : ∃ u, u ∈ (List.range ops.size).filter fun i => !listed.getD i false && !ls.contains i := by
      cases hl : (List.range ops.size).filter fun i => !listed.getD i false && !ls.contains i with
      | nil => rw [hl] at hc; simp at hc
      | cons x xs => exact ⟨x, by simp⟩
    have hsome : ∃ u, u < ops.size ∧ listed.getD u false = false ∧ ls.contains u = false := by
      rw [List.mem_filter, List.mem_range] at hu
      refine ⟨u, hu.1, ?_⟩
      simpa using hu.2
    have key : ∀ i o, ops[i]? = some o → i ∈ Region.ready .any ops listed → ls.contains i = false := by
      intro i o ho hr
      cases hl : ls.contains i
      · rfl
      · exfalso
        obtain ⟨_, o', ho', hall⟩ := mem_ready.1 hr
        obtain ⟨v, hv, hvl, hvn⟩ := hsome
        have hi : i < ops.size := (Array.getElem?_eq_some_iff.1 ho).1
        have hdep := (parB_late hB hv hvn).1 i (by simpa using hl)
        have hiv : i ≠ v := fun e => by subst e; rw [hvn] at hl; cases hl
        obtain ⟨o2, ho2, e, he, hb, hu2⟩ := (parB_late hB hv hvn).2 i hi hdep hiv
        have e2 : o2 = o' := Option.some.inj (ho2.symm.trans ho')
        subst e2
        have hlt := (parB_op hB ho2).1 e he hb
        have := down_dep hB hD hv hvn (e.on + 1) e.on (by omega) (by omega) hu2 (hall e he hb)
        rw [hvl] at this; cases this
    have hready : ∃ i, i ∈ Region.ready .any ops listed := by
      -- the least that has not come up
      have ex : ∃ n, ∃ u, u < n ∧ u < ops.size ∧ listed.getD u false = false ∧ ls.contains u = false := by
        obtain ⟨u, h1, h2, h3⟩ := hsome; exact ⟨u + 1, u, by omega, h1, h2, h3⟩
      obtain ⟨n, hn⟩ := ex
      induction n with
      | zero => obtain ⟨u, h, _⟩ := hn; omega
      | succ n ihn =>
        by_cases hp : ∃ u, u < n ∧ u < ops.size ∧ listed.getD u false = false ∧ ls.contains u = false
        · exact ihn hp
        · obtain ⟨u, h1, h2, h3, h4⟩ := hn
          have ho : ops[u]? = some ops[u] := Array.getElem?_eq_getElem h2
          refine ⟨u, mem_ready.2 ⟨?_, _, ho, fun e he hb => ?_⟩⟩
          · have hlt : u < listed.size := by omega
            simpa [hlt] using h3
          · have hlt := (parB_op hB ho).1 e he hb
            cases hle : listed.getD e.on false
            · exfalso
              cases hll : ls.contains e.on
              · exact hp ⟨e.on, by omega, by omega, hle, hll⟩
              · have hdep := (parB_late hB h2 h4).1 e.on (by simpa using hll)
                have ge : ∀ (m k : Nat), k < m → k < ops.size → (depOn ops u ops.size).getD k false = true → u ≤ k := by
                  intro m
                  induction m with
                  | zero => intro k hk; omega
                  | succ m ihm =>
                    intro k hk hks hku
                    by_cases hku' : k = u
                    · omega
                    · obtain ⟨o3, ho3, e3, he3, hb3, hu3⟩ := (parB_late hB h2 h4).2 k hks hku hku'
                      have := (parB_op hB ho3).1 e3 he3 hb3
                      have := ihm e3.on (by omega) (by omega) hu3
                      omega
                have := ge (e.on + 1) e.on (by omega) (by omega) hdep
                omega
            · rfl
    rw [show fuel + 1 + ls.length = (fuel + ls.length) + 1 by omega]
    refine ⟨fun h0 => ?_, fun i hi => ?_⟩
    · obtain ⟨i, hi⟩ := hready
      rw [h0] at hi; cases hi
    · obtain ⟨hun, o, ho, hdeps⟩ := mem_ready.1 hi
      have hil := key i o ho hi
      have hin : i < ops.size := (Array.getElem?_eq_some_iff.1 ho).1
      obtain ⟨_, hop⟩ := parB_op hB ho
      obtain ⟨hg, hdst⟩ := hop hil
      have hli : listed.getD i false = false := by
        have hlt : i < listed.size := by omega
        simpa [hlt] using hun
      have hnosel : ∀ cs b, o.op ≠ .select cs b := fun cs b => Region.noSelect_spec (by simp only [parB, Bool.and_eq_true] at hB; exact hB.1.1.1) i o cs b ho
      have hdo : dstOf ops i = o.dst := by simp [dstOf, ho]
      have hst := step i o ho hil vals w hBw (fun e he hb => hφ e.on (hdeps e he hb))
      have heq : execOp a.eval o = execOp (F vals).eval o := by
        refine execOp_congr o hnosel fun x hx => hFr.eval (hF vals) fun t hxt j hj => ?_
        subst hxt
        by_cases hjs : j < ops.size
        · cases hjl : ls.contains j
          · have hlk : t ∈ o.looksAt ops := List.mem_append_left _ (List.mem_filterMap.2 ⟨.tmp t, by simpa using hx, rfl⟩)
            obtain ⟨e, he, hb, hej⟩ := (hdst j hjl hjs t hj).2 hlk
            have := hdeps e he hb
            rw [hej] at this
            rw [this]; simp [hjs]
          · rw [hlate j (by simpa using hjl)]; simp
        · rw [decide_eq_false hjs, Bool.false_and]
          simp [Array.getElem?_eq_none (show listed.size ≤ j by omega)]
      have fino : ∀ (v v' : Value) (w' : World), (F vals).put o.dst v = (F vals).put o.dst v' → φ i v' w' → Below w.heap.size w w' → wpAny P .any ops Q (fuel + ls.length) (listed.setIfInBounds i true) (a.put o.dst v) w' := by
        intro v v' w' hput hv hb
        have hsa : a.tmps.size = (F vals).tmps.size := hFr.size.trans (hF vals).size.symm
        have hav : a.put o.dst v = a.put o.dst v' := by
          cases hd : o.dst with
          | none => rfl
          | some d =>
            rw [hd] at hput
            simp only [Act.put, Act.mk.injEq, and_true] at hput ⊢
            by_cases hlt : d < a.tmps.size
            · have h1 : ((F vals).tmps.setIfInBounds d v)[d]? = ((F vals).tmps.setIfInBounds d v')[d]? := by rw [hput]
              rw [Array.getElem?_setIfInBounds_self_of_lt (by rw [← hsa]; exact hlt), Array.getElem?_setIfInBounds_self_of_lt (by rw [← hsa]; exact hlt)] at h1
              rw [Option.some.inj h1]
            · rw [Array.setIfInBounds_eq_of_size_le (Nat.not_lt.1 hlt), Array.setIfInBounds_eq_of_size_le (Nat.not_lt.1 hlt)]
        rw [hav]
        have hset : ∀ j, (listed.setIfInBounds i true).getD j false = (listed.getD j false || j == i) := by
          intro j
          by_cases hji : i = j
          · subst hji
            have hlt : i < listed.size := by omega
            simp [hlt]
          · rw [getD_set_ne false hji]
            have : (j == i) = false := by simp; omega
            rw [this, Bool.or_false]
        refine ih (listed.setIfInBounds i true) (setV vals i v') (a.put o.dst v') w' (by simpa using hsz) ?_ ?_ (hBw.trans (hb.mono hBw.size)) ?_ ?_ ?_
        · intro k o2 ho2 hk e he hbn
          rw [hset] at hk ⊢
          simp only [Bool.or_eq_true, beq_iff_eq] at hk
          rcases hk with hk | rfl
          · rw [hD k o2 ho2 hk e he hbn]; rfl
          · have e2 : o2 = o := Option.some.inj (ho2.symm.trans ho)
            subst e2
            rw [hdeps e he hbn]; rfl
        · intro j hj
          rw [hset, hlate j hj]
          have : j ≠ i := fun e => by subst e; rw [show ls.contains j = true by simpa using hj] at hil; cases hil
          simpa using this
        · rw [← hdo]
          refine (hFr.put (i := i) (v := v') hli fun j t hs hj hdi => ?_).sel fun j => (hset j).symm
          have hjs : j < ops.size := by
            rcases Nat.lt_or_ge j ops.size with h | h
            · exact h
            · simp [Array.getElem?_eq_none (show listed.size ≤ j by omega)] at hs
          have hjl : ls.contains j = false := by
            cases h : ls.contains j
            · rfl
            · rw [hlate j (by simpa using h)] at hs; cases hs
          have hji : j ≠ i := fun e => by subst e; rw [hli] at hs; cases hs
          exact (hdst j hjl hjs t hj).1 hji hdi
        · intro j hj
          rw [hset] at hj
          simp only [Bool.or_eq_true, beq_iff_eq] at hj
          unfold setV
          split
          · rename_i e; subst e; exact hv
          · rename_i hne
            rcases hj with hj | hj
            · exact stab j _ w w' (hφ j hj) hb
            · exact absurd hj hne
        · have hfil : ((List.range ops.size).filter fun j => !(listed.setIfInBounds i true).getD j false && !ls.contains j).length + 1 = ((List.range ops.size).filter fun j => !listed.getD j false && !ls.contains j).length := by
            have gen : ∀ (l : List Nat) (p : Nat → Bool), l.Nodup → i ∈ l → p i = true → (l.filter fun j => p j && j != i).length + 1 = (l.filter p).length := by
              intro l p
              induction l with
              | nil => intro _ h; cases h
              | cons x xs ihl =>
                intro hnd hm hp
                rw [List.nodup_cons] at hnd
                by_cases hxi : x = i
                · subst hxi
                  have : (xs.filter fun j => p j && j != x) = xs.filter p := List.filter_congr fun y hy => by
                    have : y ≠ x := fun e => hnd.1 (e ▸ hy)
                    have : (y != x) = true := by simpa using this
                    rw [this, Bool.and_true]
                  simp [hp, this]
                · have hm' : i ∈ xs := by rcases List.mem_cons.1 hm with h | h; exact absurd h.symm hxi; exact h
                  have h1 := ihl hnd.2 hm' hp
                  have hx' : (x != i) = true := by simpa using hxi
                  simp only [List.filter_cons, hx', Bool.and_true]
                  split
                  · simp only [List.length_cons]; omega
                  · exact h1
            have hcg : ((List.range ops.size).filter fun j => !(listed.setIfInBounds i true).getD j false && !ls.contains j) = (List.range ops.size).filter fun j => (!listed.getD j false && !ls.contains j) && j != i := by
              refine List.filter_congr fun j _ => ?_
              rw [hset]
              cases listed.getD j false <;> cases hji : (j == i) <;> simp_all
            rw [hcg]
            exact gen _ (fun j => !listed.getD j false && !ls.contains j) List.nodup_range (List.mem_range.2 hin) (by rw [hli, hil]; rfl)
          omega
      unfold wpOp
      simp only [ho]
      have hw1 : ∀ b : Act, Region.wanted o (yielded ops b.tmps) = true := fun b => by simp [Region.wanted, hg]
      rw [if_pos (hw1 a)]
      simp only [wpList, hw1 (F vals), if_true] at hst
      rcases hst with hst | ⟨_, h⟩
      · refine .inl ?_
        unfold Oper.wp at *
        rw [heq]
        generalize (execOp (F vals).eval o).run P w = r at *
        cases r with
        | ok nx w' =>
          cases nx <;> simp only [Oper.upon] at hst ⊢
          case value v => obtain ⟨v', h1, h2, h3⟩ := hst; exact fino v v' w' h1 h2 h3
          case skip => obtain ⟨v', h1, h2, h3⟩ := hst; exact fino _ v' w' h1 h2 h3
          case defer d =>
            obtain ⟨v', h1, _⟩ := hst
            exfalso
            have h2 := congrArg (fun x => x.defers.length) h1
            have hpd : ∀ (b : Act) (t : Option Tmp) (x : Value), (b.put t x).defers = b.defers := fun b t x => by cases t <;> rfl
            simp [hpd] at h2
          case enter f args =>
            refine Calls.mono hst fun e w'' he => ?_
            cases e with
            | returned v => obtain ⟨v', h1, h2, h3⟩ := he; exact fino v v' w'' h1 h2 h3
            | panicked c => exact he.elim
            | outgrown => obtain ⟨_, _, h⟩ := he; exact h.elim
          case row row args => exact Rows.mono hst fun v w'' he => by obtain ⟨v', h1, h2, h3⟩ := he; exact fino v v' w'' h1 h2 h3
        | halt x w' =>
          cases x <;> simp only [Oper.upon] at hst ⊢
          all_goals exact hst.elim
      · obtain ⟨_, _, h⟩ := h; exact h.elim

/-- THE LAW, of any way to write the frame. ls: the late operations, in their turn; F: the frame, with a letter for each temporary of the others. -/
theorem wp_region_par0 (ls : List Nat) (φ : Nat → Value → World → Prop) (F : (Nat → Value) → Act) {id : Nat} {a0 : Act} {w0 : World} {l : List Oper} (hm : P.follows .mixedOrders = true)
    (hB : (parB l.toArray ls && decide (((List.range l.toArray.size).filter fun i => !ls.contains i).length + ls.length = l.toArray.size) &&
      seqB l.toArray ls ((List.range l.toArray.size).map fun i => !ls.contains i).toArray) = true)
    (hF : ∀ vals, Fr l.toArray (fun i => decide (i < l.toArray.size) && !ls.contains i) vals a0 (F vals))
    (stab : ∀ i v w w', φ i v w → Below w.heap.size w w' → φ i v w')
    (step : ∀ i o, l.toArray[i]? = some o → ls.contains i = false → ∀ vals w, Below w0.heap.size w0 w → (∀ e ∈ o.after, Region.binds .any e = true → φ e.on (vals e.on) w) →
      wpList P l.toArray (Exit.then (fun a' w' => ∃ v, a' = (F vals).put o.dst v ∧ φ i v w' ∧ Below w.heap.size w w') (fun _ _ _ => False)) [o] (F vals) w)
    (fin : ∀ vals w, Below w0.heap.size w0 w → (∀ i, i < l.toArray.size → ls.contains i = false → φ i (vals i) w) → wpList P l.toArray Q (ls.map (opAt l)) (F vals) w) :
    (Code.region id l.toArray true).wp P Q a0 w0 := by
  simp only [Bool.and_eq_true, decide_eq_true_eq] at hB
  obtain ⟨⟨h1, h2⟩, h3⟩ := hB
  refine wp_region_any hm ?_
  have h0 : ∀ i, (Array.replicate l.toArray.size false).getD i false = false := fun i => by
    rw [Array.getD_eq_getD_getElem?, Array.getElem?_replicate]
    split <;> rfl
  have hc : ((List.range l.toArray.size).filter fun i => !ls.contains i) = (List.range l.toArray.size).filter fun i => !(Array.replicate l.toArray.size false).getD i false && !ls.contains i :=
    List.filter_congr fun i _ => by rw [h0]; rfl
  have := par_any (P := P) (Q := Q) (ls := ls) (a0 := a0) (w0 := w0) (φ := φ) (F := F) h1 hF stab step (fun vals w listed hb hv hall hsz => seq_any ls listed (F vals) w (by
      have e : listed = ((List.range l.toArray.size).map fun i => !ls.contains i).toArray := by
        refine Array.ext (by simp [hsz]) fun i hi1 hi2 => ?_
        have hi : i < l.toArray.size := by omega
        have h4 := hall i hi
        have hlt : i < listed.size := hi1
        simp only [Array.getD_eq_getD_getElem?, Array.getElem?_eq_getElem hlt, Option.getD_some] at h4
        rw [h4]
        simp
      rw [e]; exact h3) (fin vals w hb hv)) _ (Array.replicate l.toArray.size false) (fun _ => undef) a0 { w0 with drawn := w0.drawn + 1 } (by simp) (fun k o _ hk => by rw [h0] at hk; cases hk) (fun j _ => h0 j) (Below.refl _ _).drew
    ⟨rfl, rfl, fun i t hs => (by rw [h0] at hs; cases hs), fun t _ => rfl⟩ (fun i hi => by rw [h0] at hi; cases hi) rfl
  rw [← hc, h2] at this
  exact this

/-- The frame, with the letters laid in. -/
def laidF (a0 : Act) (vals : Nat → Value) (ds : List (Tmp × Nat)) : Act := ds.foldl (fun a x => a.put (some x.1) (vals x.2)) a0
def dsB (ops : Array Oper) (ls : List Nat) (ds : List (Tmp × Nat)) : Bool :=
  (((List.range ops.size).filter fun i => !ls.contains i) == ds.map (·.2)) && ds.all fun x => dstOf ops x.2 == some x.1

theorem laid_fr {vals : Nat → Value} {a0 : Act} : ∀ (ds : List (Tmp × Nat)) (sel : Nat → Bool) (a : Act), Fr ops sel vals a0 a → (∀ x ∈ ds, sel x.2 = false) → (ds.map (·.2)).Nodup → (∀ x ∈ ds, dstOf ops x.2 = some x.1) →
    (∀ x ∈ ds, ∀ j t, (sel j = true ∨ (j ∈ ds.map (·.2) ∧ j ≠ x.2)) → dstOf ops j = some t → dstOf ops x.2 ≠ some t) → Fr ops (fun i => sel i || (ds.map (·.2)).contains i) vals a0 (laidF a vals ds)
  | [], sel, a, h, _, _, _, _ => h.sel fun i => by simp
  | x :: ds, sel, a, h, h1, h2, h3, h4 => by
    rw [List.map_cons, List.nodup_cons] at h2
    have hx := h3 x (by simp)
    have hp := h.put (i := x.2) (v := vals x.2) (h1 x (by simp)) (fun j t hs hj => h4 x (by simp) j t (.inl hs) hj)
    rw [hx] at hp
    have hp' := hp.vals (vals' := vals) (fun i _ => by unfold setV; split; rename_i e; rw [e]; rfl)
    have := laid_fr ds (fun j => sel j || j == x.2) _ hp' (fun y hy => by
        have e1 := h1 y (by simp [hy])
        have e2 : y.2 ≠ x.2 := fun e => h2.1 (List.mem_map.2 ⟨y, hy, e⟩)
        rw [e1]; simpa using e2) h2.2 (fun y hy => h3 y (by simp [hy])) (fun y hy j t hj hd => by
        refine h4 y (by simp [hy]) j t ?_ hd
        rcases hj with hj | ⟨hj, hne⟩
        · simp only [Bool.or_eq_true, beq_iff_eq] at hj
          rcases hj with hj | rfl
          · exact .inl hj
          · exact .inr ⟨by simp, fun e => h2.1 (List.mem_map.2 ⟨y, hy, e.symm⟩)⟩
        · exact .inr ⟨by simp only [List.map_cons, List.mem_cons]; exact .inr hj, hne⟩)
    exact this.sel fun i => by simp only [List.map_cons, List.contains_cons]; cases sel i <;> simp

/-- Each operation once, in a list's turn. -/
def EachOp (ls : List Nat) (G : Nat → Oper → Prop) : List Oper → Nat → Prop
  | [], _ => True
  | o :: l, k => (ls.contains k = false → G k o) ∧ EachOp ls G l (k + 1)
theorem each_get {ls : List Nat} {G : Nat → Oper → Prop} : ∀ {l : List Oper} {k i : Nat} {o : Oper}, EachOp ls G l k → l[i]? = some o → ls.contains (k + i) = false → G (k + i) o
  | [], _, i, _, _, h, _ => by simp at h
  | x :: l, k, 0, o, h, ho, hl => by simp at ho; subst ho; exact h.1 hl
  | x :: l, k, i + 1, o, h, ho, hl => by
    have := each_get (l := l) (k := k + 1) (i := i) h.2 (by simpa using ho) (by rw [show k + 1 + i = k + (i + 1) by omega]; exact hl)
    rw [show k + 1 + i = k + (i + 1) by omega] at this
    exact this

/-- What is to be shown behind an operation: its value, in its temporary, is as φ says; the world has grown. -/
def ParPost (F : Act) (d : Option Tmp) (φ : Value → World → Prop) (w : World) (a' : Act) (w' : World) : Prop := ∃ v, a' = F.put d v ∧ φ v w' ∧ Below w.heap.size w w'

/-- THE LAW. ds: the temporaries of the operations that are not late, each with its number. -/
theorem wp_region_par (ls : List Nat) (ds : List (Tmp × Nat)) (φ : Nat → Value → World → Prop) {id : Nat} {a0 : Act} {w0 : World} {l : List Oper} (hm : P.follows .mixedOrders = true)
    (hB : (parB l.toArray ls && decide (((List.range l.toArray.size).filter fun i => !ls.contains i).length + ls.length = l.toArray.size) &&
      seqB l.toArray ls ((List.range l.toArray.size).map fun i => !ls.contains i).toArray && dsB l.toArray ls ds) = true)
    (stab : ∀ i v w w', φ i v w → Below w.heap.size w w' → φ i v w')
    (step : ∀ vals w, Below w0.heap.size w0 w → EachOp ls (fun i o => (∀ e ∈ o.after, Region.binds .any e = true → φ e.on (vals e.on) w) →
      wpList P l.toArray (Exit.then (ParPost (laidF a0 vals ds) o.dst (φ i) w) (fun _ _ _ => False)) [o] (laidF a0 vals ds) w) l 0)
    (fin : ∀ vals w, Below w0.heap.size w0 w → (∀ i, i < l.toArray.size → ls.contains i = false → φ i (vals i) w) → wpList P l.toArray Q (ls.map (opAt l)) (laidF a0 vals ds) w) :
    (Code.region id l.toArray true).wp P Q a0 w0 := by
  simp only [Bool.and_eq_true] at hB
  obtain ⟨⟨⟨h1, h2⟩, h3⟩, h4⟩ := hB
  simp only [dsB, Bool.and_eq_true, beq_iff_eq, List.all_eq_true] at h4
  refine wp_region_par0 ls φ (fun vals => laidF a0 vals ds) hm (by simp only [Bool.and_eq_true]; exact ⟨⟨h1, h2⟩, h3⟩) (fun vals => ?_) stab (fun i o ho hl vals w hb hd => ?_) fin
  · have hmem : ∀ j, j ∈ ds.map (·.2) ↔ j < l.toArray.size ∧ ls.contains j = false := fun j => by
      rw [← h4.1, List.mem_filter, List.mem_range]; simp
    have := laid_fr (ops := l.toArray) (vals := vals) (a0 := a0) ds (fun _ => false) a0 ⟨rfl, rfl, fun i t hs => (by cases hs), fun t _ => rfl⟩ (fun _ _ => rfl) (by rw [← h4.1]; exact List.nodup_range.filter _) h4.2 (fun x hx j t hj hd => by
      rcases hj with hj | ⟨hj, hne⟩
      · cases hj
      · obtain ⟨hxs, hxl⟩ := (hmem x.2).1 (List.mem_map.2 ⟨x, hx, rfl⟩)
        obtain ⟨hjs, hjl⟩ := (hmem j).1 hj
        have ho : l.toArray[x.2]? = some l.toArray[x.2] := Array.getElem?_eq_getElem hxs
        exact (((parB_op h1 ho).2 hxl).2 j hjl hjs t hd).1 hne)
    refine this.sel fun i => ?_
    rw [Bool.false_or, Bool.eq_iff_iff]
    simp only [List.contains_iff_mem, hmem, Bool.and_eq_true, decide_eq_true_eq, Bool.not_eq_true']
  · have := each_get (step vals w hb) (i := i) (o := o) (by simpa using ho) (by simpa using hl)
    rw [Nat.zero_add] at this
    exact this hd
end
end Go.Proofs.YtkiefbldkidobaaDoor
