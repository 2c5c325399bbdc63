/- The program's way to tell all ways to read: a way in which each read has what is first for it, and the reads that have more, in turn. -/
import Derived.Test.YtgffeihfcmbobaaSrcM2
namespace Go.Proofs.Ytgffeihfcmbobaa

def headsL (cs : List (List Int)) : List Int := cs.map fun c => c.headD 0
def opensZ : List (List Int) → Nat → List (Nat × List Int)
  | [], _ => []
  | c :: cs, k => (if 1 < c.length then [(k, c)] else []) ++ opensZ cs (k + 1)
theorem opensZ_append : ∀ (a b : List (List Int)) (k : Nat), opensZ (a ++ b) k = opensZ a k ++ opensZ b (k + a.length)
  | [], b, k => by simp [opensZ]
  | c :: a, b, k => by
    rw [List.cons_append, opensZ, opensZ_append a b (k + 1), opensZ, List.append_assoc, List.length_cons, show k + 1 + a.length = k + (a.length + 1) by omega]
theorem opensZ_next {a : List (List Int)} {k : Nat} {c : List Int} (h : a[k]? = some c) : opensZ (a.take (k + 1)) 0 = opensZ (a.take k) 0 ++ (if 1 < c.length then [(k, c)] else []) := by
  have hk : k < a.length := by
    rcases Nat.lt_or_ge k a.length with h1 | h1
    · exact h1
    · rw [List.getElem?_eq_none h1] at h; cases h
  rw [List.take_add_one, h, Option.toList_some, opensZ_append, opensZ, opensZ, List.append_nil, List.length_take, Nat.min_eq_left (by omega), Nat.zero_add]
theorem opensZ_len : ∀ (a : List (List Int)) (k : Nat), (opensZ a k).length ≤ a.length
  | [], _ => Nat.le_refl _
  | c :: a, k => by
    have := opensZ_len a (k + 1)
    rw [opensZ, List.length_append, List.length_cons]
    split <;> simp <;> omega
theorem opensZ_mem : ∀ {a : List (List Int)} {k : Nat} {p : Nat × List Int}, p ∈ opensZ a k → k ≤ p.1 ∧ p.1 < k + a.length ∧ p.2 ∈ a
  | [], k, p, h => by simp [opensZ] at h
  | c :: a, k, p, h => by
    rw [opensZ, List.mem_append] at h
    rcases h with h | h
    · split at h
      · rw [List.mem_singleton] at h
        subst h
        simp
      · cases h
    · obtain ⟨h1, h2, h3⟩ := opensZ_mem h
      exact ⟨by omega, by simp only [List.length_cons]; omega, List.mem_cons_of_mem _ h3⟩

/-- All ways, by what is left open. -/
def genL : List (Nat × List Int) → List Int → List (List Int)
  | [], u => [u]
  | p :: ps, u => p.2.flatMap fun x => genL ps (u.set p.1 x)
/-- How many they are. -/
def genN : List (Nat × List Int) → Nat
  | [] => 1
  | p :: ps => p.2.length * genN ps
theorem genL_len : ∀ (ps : List (Nat × List Int)) (u : List Int), (genL ps u).length = genN ps
  | [], u => rfl
  | p :: ps, u => by
    rw [genL, genN]
    generalize p.2 = c
    induction c with
    | nil => simp
    | cons x c ih => rw [List.flatMap_cons, List.length_append, ih, genL_len ps, List.length_cons, Nat.succ_mul, Nat.add_comm]
theorem genN_opens : ∀ (a : List (List Int)) (k : Nat), (∀ c ∈ a, 0 < c.length) → genN (opensZ a k) = prodN a
  | [], _, _ => rfl
  | c :: a, k, h => by
    have ih := genN_opens a (k + 1) fun d hd => h d (List.mem_cons_of_mem _ hd)
    have hc := h c List.mem_cons_self
    rw [opensZ, prodN]
    by_cases h1 : 1 < c.length
    · rw [if_pos h1, List.singleton_append, genN, ih]
    · rw [if_neg h1, List.nil_append, ih, show c.length = 1 by omega, Nat.one_mul]
/-- Two ways are the same, but where something is left open. -/
def ButAt (ps : List (Nat × List Int)) (u v : List Int) : Prop := u.length = v.length ∧ ∀ i, (∀ p ∈ ps, p.1 ≠ i) → u[i]? = v[i]?
theorem ButAt.refl (ps : List (Nat × List Int)) (u : List Int) : ButAt ps u u := ⟨rfl, fun _ _ => rfl⟩
theorem ButAt.symm {ps : List (Nat × List Int)} {u v : List Int} (h : ButAt ps u v) : ButAt ps v u := ⟨h.1.symm, fun i hi => (h.2 i hi).symm⟩
theorem ButAt.trans {ps : List (Nat × List Int)} {u v x : List Int} (h : ButAt ps u v) (k : ButAt ps v x) : ButAt ps u x := ⟨h.1.trans k.1, fun i hi => (h.2 i hi).trans (k.2 i hi)⟩
theorem ButAt.set {p : Nat × List Int} {ps : List (Nat × List Int)} {u v : List Int} (h : ButAt (p :: ps) u v) (x : Int) : ButAt ps (u.set p.1 x) (v.set p.1 x) := by
  refine ⟨by simp [h.1], fun i hi => ?_⟩
  rw [List.getElem?_set, List.getElem?_set]
  by_cases e : p.1 = i
  · subst e
    rw [if_pos rfl, if_pos rfl, h.1]
  · rw [if_neg e, if_neg e]
    exact h.2 i fun q hq => by
      rcases List.mem_cons.1 hq with rfl | hq
      · exact e
      · exact hi q hq
theorem ButAt.put (p : Nat × List Int) (ps : List (Nat × List Int)) (u : List Int) (x : Int) : ButAt (p :: ps) u (u.set p.1 x) := by
  refine ⟨by simp, fun i hi => ?_⟩
  rw [List.getElem?_set_ne (hi p List.mem_cons_self)]
theorem ButAt.more {p : Nat × List Int} {ps : List (Nat × List Int)} {u v : List Int} (h : ButAt ps u v) : ButAt (p :: ps) u v := ⟨h.1, fun i hi => h.2 i fun q hq => hi q (List.mem_cons_of_mem _ hq)⟩
theorem genL_but : ∀ {ps : List (Nat × List Int)} {u v : List Int}, ButAt ps u v → genL ps u = genL ps v
  | [], u, v, h => by
    have : u = v := List.ext_getElem? fun i => h.2 i (by simp)
    rw [this]
  | p :: ps, u, v, h => by
    rw [genL, genL]
    congr 1
    funext x
    exact genL_but (h.set x)
theorem set_mid (p : List Int) (a x : Int) (l : List Int) : (p ++ a :: l).set p.length x = (p ++ [x]) ++ l := by
  rw [List.set_append_right _ _ (Nat.le_refl _), Nat.sub_self, List.set_cons_zero, List.append_assoc]
  rfl
theorem genL_opens : ∀ (a : List (List Int)) (p : List Int), (∀ c ∈ a, 0 < c.length) → genL (opensZ a p.length) (p ++ headsL a) = (waysL a).map (p ++ ·)
  | [], p, _ => by simp [opensZ, genL, headsL, waysL]
  | c :: a, p, h => by
    have hc := h c List.mem_cons_self
    have ih := fun x => genL_opens a (p ++ [x]) fun d hd => h d (List.mem_cons_of_mem _ hd)
    have e : headsL (c :: a) = c.headD 0 :: headsL a := rfl
    have key : ∀ x, genL (opensZ a (p.length + 1)) ((p ++ [x]) ++ headsL a) = (waysL a).map fun q => p ++ (x :: q) := fun x => by
      have h1 := ih x
      rw [List.length_append, List.length_singleton] at h1
      rw [h1]
      congr 1
      funext q
      rw [List.append_assoc]
      rfl
    rw [opensZ, e, waysL]
    by_cases h1 : 1 < c.length
    · rw [if_pos h1, List.singleton_append, genL, List.map_flatMap]
      congr 1
      funext x
      rw [List.map_map]
      show genL (opensZ a (p.length + 1)) ((p ++ c.headD 0 :: headsL a).set p.length x) = _
      rw [set_mid, key]
      rfl
    · rw [if_neg h1, List.nil_append]
      match c, hc, h1 with
      | [x], _, _ =>
        have e2 : p ++ [x].headD 0 :: headsL a = (p ++ [x]) ++ headsL a := by simp
        rw [e2, key, List.flatMap_cons, List.flatMap_nil, List.append_nil, List.map_map]
        rfl
      | _ :: _ :: _, _, h1 => simp at h1
/-- What the program tells. -/
theorem genL_src {l : List Ev} {init : List Int} (h : ∀ c ∈ choZ l init, 0 < c.length) (hn : prodN (choZ l init) ≤ 20000) : genL (opensZ (choZ l init) 0) (headsL (choZ l init)) = srcZ l init := by
  have h1 := genL_opens (choZ l init) [] h
  simp only [List.length_nil, List.nil_append] at h1
  rw [h1]
  unfold srcZ
  rw [if_neg (by omega)]
  simp
/-- The way, as far as it is laid. -/
def wayZ (l : List Ev) (init : List Int) (k : Nat) : List Int := headsL ((choZ l init).take k) ++ List.replicate (l.length - k) (-2)
theorem wayZ_len (l : List Ev) (init : List Int) {k : Nat} (h : k ≤ l.length) : (wayZ l init k).length = l.length := by
  unfold wayZ headsL
  rw [List.length_append, List.length_map, List.length_take, List.length_replicate, choZ_len]
  omega
theorem wayZ_zero (l : List Ev) (init : List Int) : wayZ l init 0 = List.replicate l.length (-2) := by simp [wayZ, headsL]
theorem wayZ_all (l : List Ev) (init : List Int) : wayZ l init l.length = headsL (choZ l init) := by
  unfold wayZ
  rw [← choZ_len l init, List.take_length, Nat.sub_self]
  simp
theorem wayZ_next {l : List Ev} {init : List Int} {k : Nat} {x : Ev} (h : l[k]? = some x) : wayZ l init (k + 1) = (wayZ l init k).set k ((choE l init x).headD 0) := by
  have hk : k < l.length := by
    rcases Nat.lt_or_ge k l.length with h1 | h1
    · exact h1
    · rw [List.getElem?_eq_none h1] at h; cases h
  have hc := choZ_at (init := init) h
  unfold wayZ
  rw [List.take_add_one, hc, Option.toList_some]
  have e : List.replicate (l.length - k) (-2 : Int) = -2 :: List.replicate (l.length - (k + 1)) (-2) := by
    rw [show l.length - k = (l.length - (k + 1)) + 1 by omega, List.replicate_succ]
  have hl : (headsL ((choZ l init).take k)).length = k := by
    unfold headsL
    rw [List.length_map, List.length_take, choZ_len]
    omega
  rw [e]
  have := set_mid (headsL ((choZ l init).take k)) (-2) ((choE l init x).headD 0) (List.replicate (l.length - (k + 1)) (-2))
  rw [hl] at this
  rw [this]
  unfold headsL
  rw [List.map_append]
  rfl
theorem wayZ_skip {l : List Ev} {init : List Int} {k : Nat} {x : Ev} (h : l[k]? = some x) (hx : x.kd ≠ 1) : wayZ l init (k + 1) = wayZ l init k := by
  have hk : k < l.length := by
    rcases Nat.lt_or_ge k l.length with h1 | h1
    · exact h1
    · rw [List.getElem?_eq_none h1] at h; cases h
  rw [wayZ_next h]
  have hce : choE l init x = [-2] := by unfold choE; rw [if_neg (by simp [hx])]
  rw [hce]
  refine List.ext_getElem? fun i => ?_
  rw [List.getElem?_set]
  split
  · rename_i e
    subst e
    have hl : (headsL ((choZ l init).take k)).length = k := by
      unfold headsL
      rw [List.length_map, List.length_take, choZ_len]
      omega
    rw [if_pos (by rw [wayZ_len l init (by omega)]; exact hk)]
    unfold wayZ
    rw [List.getElem?_append_right (by omega), hl, Nat.sub_self, List.getElem?_replicate, if_pos (by omega)]
    rfl
  · rfl
theorem prodN_pos : ∀ {a : List (List Int)}, 0 < prodN a → ∀ c ∈ a, 0 < c.length
  | [], _, c, h => by cases h
  | d :: a, hp, c, h => by
    rw [prodN] at hp
    rcases List.mem_cons.1 h with rfl | h
    · exact Nat.pos_of_mul_pos_right hp
    · exact prodN_pos (Nat.pos_of_mul_pos_left hp) c h
theorem src_zero {l : List Ev} {init : List Int} {k : Nat} (h : prodN ((choZ l init).take k) = 0) : srcZ l init = [] := by
  rw [← List.length_eq_zero_iff, srcZ_len]
  · rw [prodN_split _ k, h, Nat.zero_mul]
  · rw [prodN_split _ k, h, Nat.zero_mul]; omega
end Go.Proofs.Ytgffeihfcmbobaa
