/- TestMore: for every test the law answers true. -/
import Derived.Test.YtpmecgagbjphdaaDoorTestChecksW
import Derived.Test.YtpmecgagbjphdaaDoorTestMath2
import Derived.Test.YtpmecgagbjphdaaDoorRepN
import Derived.Test.YtpmecgagbjphdaaDoorPar
namespace Go.Proofs.YtpmecgagbjphdaaDoor
open Go.RowKit

def ldr1 : Ins := ⟨5, 0, -1, 0, 0, 0⟩
def ldr5 : List Ins := [ldr1, ldr1, ldr1, ldr1, ldr1]
def rowOf (xs : List Ins) : Array Value := (xs.map Ins.cells).flatten.toArray

theorem Own.base {α : Type} {A : Nat → Prop} {R : Elem α} {w : World} {base base' : Nat} {e : TypeId} {v : Value} {xs : List α} (h : Own A R w base e v xs) (hb : base' ≤ base) : Own A R w base' e v xs := by
  obtain ⟨cc, h1, h2, h3⟩ := h
  refine ⟨cc, ⟨h1.1, ?_⟩, h2, h3⟩
  rcases h1.2 with h | ⟨g, cap, cur, a, b, c⟩
  · exact .inl h
  · exact .inr ⟨g, cap, cur, a, by omega, c⟩
theorem Own.mono {α : Type} {A B : Nat → Prop} {R : Elem α} {w : World} {base : Nat} {e : TypeId} {v : Value} {xs : List α} (hAB : ∀ b, A b → B b) (h : Own A R w base e v xs) : Own B R w base e v xs := by
  obtain ⟨cc, h1, h2, h3⟩ := h
  exact ⟨cc, h1, h2, fun i hi hi' => R.mono (fun b hb => ⟨hAB b hb.1, hb.2⟩) (h3 i hi hi')⟩
/-- The row of what is owned is of its elements' type. -/
theorem Own.type {α : Type} {A : Nat → Prop} {R : Elem α} {w : World} {base : Nat} {e : TypeId} {v : Value} {xs : List α} (h : Own A R w base e v xs) {b : Nat} {cs : Array Value} {t : TypeId} (hb : Blk w b cs t) (ht : t ≠ e) : some b ≠ v.ownBlock := by
  obtain ⟨cc, h1, _⟩ := h
  rcases h1.2 with ⟨rfl, _⟩ | ⟨g, cap, cur, rfl, _, hg, _⟩
  · simp [Value.ownBlock]
  · intro he
    simp [Value.ownBlock] at he
    subst he
    unfold Blk at hb
    rw [hb] at hg
    injection hg with hg
    injection hg with _ hg
    exact ht hg
theorem ins_blk {A : Nat → Prop} {w : World} {g c : Nat} {t : TypeId} (xs : List Ins) (hb : Blk w g (rowOf xs) t) (hA : A g) (hc : xs.length ≤ c) : SlA A InsE w (.slice (some ⟨g, 0, none⟩) xs.length c) xs := by
  refine ⟨_, c, rfl, ⟨(fun e => by cases e), hc⟩, fun _ => ⟨g, 0, rfl, hA, fun i hi => ⟨xs[i].cells, rfl, fun j u hu => ?_⟩⟩⟩
  have h1 := flat_at (n := 6) (cc := xs.map Ins.cells) (fun c hc => by obtain ⟨x, _, rfl⟩ := List.mem_map.1 hc; rfl) (i := i) (j := j) (by simpa using hi) (u := u) (by simpa using hu)
  have h2 := hb.cell (i * 6 + j)
  rw [show (0 + i * InsE.size + j) = i * 6 + j by rw [show InsE.size = 6 from rfl]; omega, h2]
  simpa [rowOf] using h1
theorem take_part {w : World} {pt : Option Addr} {ct : Nat} {ts : List (List Ins)} {A : Nat → Prop} (h : SlA A ThrE w (.slice pt ts.length ct) ts) {k : Nat} (hk : k ≤ ts.length) (hp : 0 < k) : SlA A ThrE w (.slice pt k ct) (ts.take k) := by
  obtain ⟨b, o, rfl, h2⟩ := h.part (i := 0) (k := k) (c' := ct) (by omega) hp (by have := h.cap; omega)
  simpa using h2

/-- What each operation of the first list that is built gives. -/
def phi9 (nT n0 m : Nat) (pt : Option Addr) (ct : Nat) (ts : List (List Ins)) : Nat → Value → World → Prop
  | 0, v, _ => ∃ g, v = .slice (some g) 0 0
  | 1, v, _ => v = .pointer (some ⟨nT, 1, none⟩)
  | 2, v, _ => v = .slice pt ts.length ct
  | 3, v, _ => v = .pointer (some ⟨nT, 1, none⟩)
  | 4, v, _ => v = .slice pt ts.length ct
  | 5, v, _ => v = .int .i64 ts.length
  | 6, v, _ => v = .int .i64 m
  | 7, v, _ => v = .slice pt m ct
  | 8, v, w => Own (fun b => b < nT) ThrE w n0 37 v (ts.take m)
  | 14, v, w => ∃ g, v = .slice (some ⟨g, 0, none⟩) 5 5 ∧ n0 ≤ g ∧ Blk w g (rowOf ldr5) 40
  | 15, v, w => ∃ g h, v = .slice (some ⟨g, 0, none⟩) 1 1 ∧ n0 ≤ h ∧ Blk w g #[.slice (some ⟨h, 0, none⟩) 5 5] 37 ∧ Blk w h (rowOf ldr5) 40
  | 16, _, _ => True
  | 17, _, _ => True
  | 18, _, _ => True
  | _, v, _ => v = .agg #[.int .i64 5, .int .i64 0, .int .i64 (-1), .int .i64 0, .int .i64 0, .int .i64 0]
theorem phi9_stab (nT n0 m : Nat) (pt : Option Addr) (ct : Nat) (ts : List (List Ins)) (i : Nat) (v : Value) (w w' : World) (h : phi9 nT n0 m pt ct ts i v w) (hb : Below w.heap.size w w') : phi9 nT n0 m pt ct ts i v w' := by
  unfold phi9 at *
  split at h <;> first
    | exact h
    | exact Own.keep h hb
    | (obtain ⟨g, h1, h2, h3⟩ := h; exact ⟨g, h1, h2, h3.keep hb⟩)
    | (obtain ⟨g, k, h1, h2, h3, h4⟩ := h; exact ⟨g, k, h1, h2, h3.keep hb, h4.keep hb⟩)

theorem slO_three {α : Type} {R : Elem α} {A : Nat → Prop} {w : World} {b c : Nat} {v1 v2 v3 : Value} {l1 l2 l3 : List α} (h1 : w.cell? ⟨b, 0, none⟩ = some v1) (h2 : w.cell? ⟨b, 1, none⟩ = some v2) (h3 : w.cell? ⟨b, 2, none⟩ = some v3)
    (k1 : SlA A R w v1 l1) (k2 : SlA A R w v2 l2) (k3 : SlA A R w v3 l3) (hc : 3 ≤ c) : SlO A (SlE R) w (.slice (some ⟨b, 0, none⟩) 3 c) [l1, l2, l3] := by
  refine ⟨_, c, rfl, ⟨(fun e => by cases e), hc⟩, fun _ => ⟨b, 0, rfl, fun i hi => ?_⟩⟩
  have hi' : i = 0 ∨ i = 1 ∨ i = 2 := by simp at hi; omega
  have gen : ∀ (o : Nat) (v : Value), w.cell? ⟨b, o, none⟩ = some v → ∀ j u, [v][j]? = some u → w.cell? ⟨b, o + j, none⟩ = some u := by
    intro o v h j u hu
    match j, hu with
    | 0, hu => simp at hu; subst hu; simpa using h
    | j + 1, hu => simp at hu
  rcases hi' with rfl | rfl | rfl
  · exact ⟨[v1], ⟨v1, rfl, k1⟩, fun j u hu => by simpa [SlE] using gen 0 v1 h1 j u hu⟩
  · exact ⟨[v2], ⟨v2, rfl, k2⟩, fun j u hu => by simpa [SlE] using gen 1 v2 h2 j u hu⟩
  · exact ⟨[v3], ⟨v3, rfl, k3⟩, fun j u hu => by simpa [SlE] using gen 2 v3 h3 j u hu⟩

/-- What each operation of the second list that is built gives. -/
def phi11 (nT n0 : Nat) (pt : Option Addr) (ct : Nat) (ts : List (List Ins)) : Nat → Value → World → Prop
  | 0, v, _ => ∃ g, v = .slice (some g) 0 0
  | 1, v, _ => v = .pointer (some ⟨nT, 1, none⟩)
  | 2, v, _ => v = .slice pt ts.length ct
  | 3, v, w => Own (fun b => b < nT) ThrE w n0 37 v ts
  | 5, v, w => ∃ g, v = .slice (some ⟨g, 0, none⟩) 1 1 ∧ n0 ≤ g ∧ Blk w g (rowOf [ldr1]) 40
  | 7, v, w => ∃ g, v = .slice (some ⟨g, 0, none⟩) 1 1 ∧ n0 ≤ g ∧ Blk w g (rowOf [ldr1]) 40
  | 9, v, w => ∃ g, v = .slice (some ⟨g, 0, none⟩) 1 1 ∧ n0 ≤ g ∧ Blk w g (rowOf [ldr1]) 40
  | 10, v, w => ∃ g h1 h2 h3, v = .slice (some ⟨g, 0, none⟩) 3 3 ∧ (n0 ≤ h1 ∧ n0 ≤ h2 ∧ n0 ≤ h3) ∧ Blk w g #[.slice (some ⟨h1, 0, none⟩) 1 1, .slice (some ⟨h2, 0, none⟩) 1 1, .slice (some ⟨h3, 0, none⟩) 1 1] 37 ∧
      Blk w h1 (rowOf [ldr1]) 40 ∧ Blk w h2 (rowOf [ldr1]) 40 ∧ Blk w h3 (rowOf [ldr1]) 40
  | 11, _, _ => True
  | 12, _, _ => True
  | 13, _, _ => True
  | _, v, _ => v = .agg #[.int .i64 5, .int .i64 0, .int .i64 (-1), .int .i64 0, .int .i64 0, .int .i64 0]
theorem phi11_stab (nT n0 : Nat) (pt : Option Addr) (ct : Nat) (ts : List (List Ins)) (i : Nat) (v : Value) (w w' : World) (h : phi11 nT n0 pt ct ts i v w) (hb : Below w.heap.size w w') : phi11 nT n0 pt ct ts i v w' := by
  unfold phi11 at *
  split at h <;> first
    | exact h
    | exact Own.keep h hb
    | (obtain ⟨g, h1, h2, h3⟩ := h; exact ⟨g, h1, h2, h3.keep hb⟩)
    | (obtain ⟨g, q1, q2, q3, h1, h2, h3, h4, h5, h6⟩ := h; exact ⟨g, q1, q2, q3, h1, h2, h3.keep hb, h4.keep hb, h5.keep hb, h6.keep hb⟩)

theorem ldr_may {locs n : Int} (h : 1 ≤ locs) : mayI ldr1 n locs = true := by
  unfold mayI mayB ldr1
  simp only
  rw [show m4B 5 0 locs = true by unfold m4B; rw [show hasLB 5 = true by decide]; simp; omega]
  rfl
theorem more_a {xs : List Int} {ts : List (List Ins)} (h : (checkZ xs ts).2.2 = 0) {m : Nat} (hm : m ≤ 2) : checkZ xs (ts.take m ++ [ldr5]) = (0, 0, 3) := by
  obtain ⟨h0, h1, h2, h3, h4, h5⟩ := check_parts h
  have hl : (ts.take m ++ [ldr5]).length ≤ 3 := by rw [List.length_append, List.length_take]; simp; omega
  have hl1 : 1 ≤ (ts.take m ++ [ldr5]).length := by rw [List.length_append]; simp
  have hx : 1 ≤ xs.length := by
    unfold initB at h0
    simp only [Bool.and_eq_true, decide_eq_true_eq] at h0
    exact h0.1.1
  have hloc : (1 : Int) ≤ xs.length := by omega
  have ht : thrsE xs.length (ts.take m ++ [ldr5]) 0 = none := thrs_none fun l hl => by
    rcases List.mem_append.1 hl with hl | hl
    · exact thrs_all h3 l (List.mem_of_mem_take hl)
    · simp at hl
      subst hl
      unfold thrE
      rw [if_neg (by decide)]
      have : badAt (xs.length : Int) ldr5 0 = none := by
        unfold ldr5
        simp only [badAt, ldr_may hloc, cond_true]
      rw [this]
  have hr : 5 ≤ (cntTs (ts.take m ++ [ldr5]) 0 0).1 := by
    rw [cntTs_add]
    simp only [(cRs_append _ _).1]
    have := (cRs_bd (ts.take m)).1
    have e : cRs [ldr5] = 5 := by decide
    rw [e]; omega
  unfold checkZ
  rw [if_neg (by rintro (h | h | h); rw [h0] at h; cases h; omega; omega), ht]
  simp only
  rw [if_pos (.inr (by omega))]
theorem more_b {xs : List Int} {ts us : List (List Ins)} (h : 3 < (ts ++ us).length) : checkZ xs (ts ++ us) = (0, 0, 1) := by
  unfold checkZ; rw [if_pos (.inr (.inr h))]
theorem more_c {ts : List (List Ins)} : checkZ [] ts = (0, 0, 1) := by
  unfold checkZ; rw [if_pos (.inl (by decide))]

set_option maxRecDepth 20000 in
set_option maxHeartbeats 4000000 in
theorem TestMore_true (pi pt : Option Addr) (ci ct : Nat) (xs : List Int) (ts : List (List Ins)) (w : World) (T : Tab w) (hi : Sl IntE w (.slice pi xs.length ci) xs) (ht : Sl ThrE w (.slice pt ts.length ct) ts) :
    Calls Tryd.prog 8 #[.agg #[.slice pi xs.length ci, .slice pt ts.length ct]] w fun e w' => e = .returned (.bool true) ∧ Below w.heap.size w w' := by
  have hb1 := ((Below.refl w.heap.size w).alloc (Nat.le_refl _) (.cells #[.slice pi xs.length ci, .slice pt ts.length ct] 25))
  have hK : Blk (w.alloc (.cells #[.slice pi xs.length ci, .slice pt ts.length ct] 25)) w.heap.size #[.slice pi xs.length ci, .slice pt ts.length ct] 25 := Blk.new
  go_enter Tryd.func8, Tryd.ntmps8
  go_wp2_with fail
  refine (shown2_any _ (T.below hb1)).mono ?_
  rintro e w1 ⟨rfl, hb1'⟩
  have hB1 := hb1.trans (hb1'.mono hb1.size)
  have hK1 := hK.keep hb1'
  have k0 := hK1.cell 0
  have k1 := hK1.cell 1
  simp at k0 k1
  go_wp2_with fail
  refine (Few_any _ _ _ _ xs ts _ (ht.keep hB1)).mono ?_
  rintro e w2 ⟨rfl, hb2⟩
  have hB2 := hB1.trans (hb2.mono hB1.size)
  have hK2 := hK1.keep hb2
  cases hfew : fewB xs ts
  · go_wp2
    go_ret
    exact ⟨rfl, hB2⟩
  · have hS : sizeTs ts ≤ 400 := size_few' hfew
    have hT : ts.length ≤ 10 := (few_parts hfew).2.1
    have hX : xs.length ≤ 10 := (few_parts hfew).1
    have HFew : Hid _ := (few_parts hfew).2.2
    clear hfew k0 k1
    have k0 := hK2.cell 0
    have k1 := hK2.cell 1
    have kl := hK2.lt
    simp at k0 k1
    go_wp2_with fail
    refine (Check_any _ _ _ _ xs ts _ (T.below hB2) (hi.keep hB2) (ht.keep hB2) (by omega)).mono ?_
    rintro e w3 ⟨rfl, hb3⟩
    have hB3 := hB2.trans (hb3.mono hB2.size)
    have hK3 := hK2.keep hb3
    clear k0 k1 kl
    have k0 := hK3.cell 0
    have k1 := hK3.cell 1
    have kl := hK3.lt
    simp at k0 k1
    by_cases hok : (checkZ xs ts).2.2 ≠ 0
    · have hok' : ((checkZ xs ts).2.2 != 0) = true := by simpa using hok
      generalize (checkZ xs ts).2.2 = c3 at hok' ⊢
      go_wp2
      go_ret
      exact ⟨rfl, hB3⟩
    · replace hok : (checkZ xs ts).2.2 = 0 := Decidable.not_not.1 hok
      have HOK : Hid _ := hok
      generalize (checkZ xs ts).1 = c1
      generalize (checkZ xs ts).2.1 = c2
      rw [hok]
      clear hok
      have hL1 : 1 ≤ ts.length := (check_parts HOK.out).2.1
      go_wp2
      have hBn : Below w3.heap.size w3 ((w3.alloc (.cells #[.int .i64 5, .int .i64 0, .int .i64 (-1), .int .i64 0, .int .i64 0, .int .i64 0] 40)).alloc (.cells #[.slice pi xs.length ci, .slice pt ts.length ct] 25)) := ((Below.refl _ _).alloc (Nat.le_refl _) _).alloc (by simp) _
      have hKl : Blk ((w3.alloc (.cells #[.int .i64 5, .int .i64 0, .int .i64 (-1), .int .i64 0, .int .i64 0, .int .i64 0] 40)).alloc (.cells #[.slice pi xs.length ci, .slice pt ts.length ct] 25)) w3.heap.size #[.int .i64 5, .int .i64 0, .int .i64 (-1), .int .i64 0, .int .i64 0, .int .i64 0] 40 := (Blk.newAt rfl).alloc _
      have hKa : Blk ((w3.alloc (.cells #[.int .i64 5, .int .i64 0, .int .i64 (-1), .int .i64 0, .int .i64 0, .int .i64 0] 40)).alloc (.cells #[.slice pi xs.length ci, .slice pt ts.length ct] 25)) (w3.heap.size + 1) #[.slice pi xs.length ci, .slice pt ts.length ct] 25 := Blk.newAt (by simp)
      have hK4 := hK3.keep hBn
      have hB4 := hB3.trans (hBn.mono hB3.size)
      generalize hw4 : (w3.alloc (.cells #[.int .i64 5, .int .i64 0, .int .i64 (-1), .int .i64 0, .int .i64 0, .int .i64 0] 40)).alloc (.cells #[.slice pi xs.length ci, .slice pt ts.length ct] 25) = w4 at *
      generalize hn3 : w3.heap.size = n3 at *
      have hneq : ¬ w.heap.size = n3 + 1 := by omega
      have hneq2 : ¬ n3 + 1 = w.heap.size := by omega
      clear hw4 hn3 k0 k1
      have hl4 := hKa.lt
      have hl5 := hK4.lt
      have hcap := ht.cap
      obtain ⟨i0, z0, j1, j2, j3, j4, j5⟩ := info_get info_thr
      have J1 : Hid _ := j1
      have J2 : Hid _ := j2
      have J3 : Hid _ := j3
      have J4 : Hid _ := j4
      have J5 : Hid _ := j5
      clear j1 j2 j3 j4 j5
      obtain ⟨m, hm1, hm2, hm3, hm4⟩ : ∃ m : Nat, 1 ≤ m ∧ m ≤ ts.length ∧ m ≤ 2 ∧ (ts.length ≤ m ∨ m = 2) := ⟨min ts.length 2, by omega, by omega, by omega, by omega⟩
      refine wp_region_par [16, 17, 18] [(36, 0), (37, 1), (38, 2), (39, 3), (40, 4), (41, 5), (42, 6), (43, 7), (44, 8), (45, 9), (46, 10), (47, 11), (48, 12), (49, 13), (50, 14), (51, 15)] (phi9 w.heap.size w4.heap.size m pt ct ts) (by kernel_rfl) (by kernel_rfl) (phi9_stab _ _ _ _ _ _) ?_ ?_
      · intro vals v5 hB5
        have hT5 := hK4.keep hB5
        have hL5 := hKl.keep hB5
        have c1 := hT5.cell 1
        have d0 := hL5.cell 0
        have d1 := hL5.cell 1
        have d2 := hL5.cell 2
        have d3 := hL5.cell 3
        have d4 := hL5.cell 4
        have d5 := hL5.cell 5
        simp only [List.getElem?_toArray, List.getElem?_cons_zero, List.getElem?_cons_succ] at c1 d0 d1 d2 d3 d4 d5
        dsimp only [EachOp, Nat.zero_add, Nat.reduceAdd]
        refine ⟨fun _ hd => ?_, fun _ hd => ?_, fun _ hd => ?_, fun _ hd => ?_, fun _ hd => ?_, fun _ hd => ?_, fun _ hd => ?_, fun _ hd => ?_, fun _ hd => ?_, fun _ hd => ?_, fun _ hd => ?_, fun _ hd => ?_, fun _ hd => ?_, fun _ hd => ?_, fun _ hd => ?_, fun _ hd => ?_, fun h => absurd h (by decide), fun h => absurd h (by decide), fun h => absurd h (by decide), trivial⟩
        · simp only [laidF, List.foldl, Act.put, List.setIfInBounds_toArray, List.set]
          go_wp2
          exact ⟨_, rfl, ⟨_, rfl⟩, by go_grown⟩
        · simp only [laidF, List.foldl, Act.put, List.setIfInBounds_toArray, List.set]
          go_wp2
          exact ⟨_, rfl, rfl, Below.refl _ _⟩
        · have h1 := hd ⟨1, .data⟩ (by simp) rfl
          have g1 : vals 1 = _ := h1
          simp only [laidF, List.foldl, Act.put, List.setIfInBounds_toArray, List.set, g1]
          go_wp2
          exact ⟨_, rfl, rfl, Below.refl _ _⟩
        · simp only [laidF, List.foldl, Act.put, List.setIfInBounds_toArray, List.set]
          go_wp2
          exact ⟨_, rfl, rfl, Below.refl _ _⟩
        · have h3 := hd ⟨3, .data⟩ (by simp) rfl
          have g3 : vals 3 = _ := h3
          simp only [laidF, List.foldl, Act.put, List.setIfInBounds_toArray, List.set, g3]
          go_wp2
          exact ⟨_, rfl, rfl, Below.refl _ _⟩
        · have h4 := hd ⟨4, .data⟩ (by simp) rfl
          have g4 : vals 4 = _ := h4
          simp only [laidF, List.foldl, Act.put, List.setIfInBounds_toArray, List.set, g4]
          go_wp2
          exact ⟨_, rfl, rfl, Below.refl _ _⟩
        · have h5 := hd ⟨5, .data⟩ (by simp) rfl
          have g5 : vals 5 = _ := h5
          simp only [laidF, List.foldl, Act.put, List.setIfInBounds_toArray, List.set, g5]
          by_cases hlen : ts.length ≤ 2
          all_goals
            go_wp2
            exact ⟨_, rfl, by show Value.int .i64 _ = Value.int .i64 _; congr 1; omega, Below.refl _ _⟩
        · have h2 := hd ⟨2, .data⟩ (by simp) rfl
          have h6 := hd ⟨6, .data⟩ (by simp) rfl
          have g2 : vals 2 = _ := h2
          have g6 : vals 6 = _ := h6
          simp only [laidF, List.foldl, Act.put, List.setIfInBounds_toArray, List.set, g2, g6]
          go_wp2
          exact ⟨_, rfl, rfl, Below.refl _ _⟩
        · obtain ⟨g, h0⟩ := hd ⟨0, .data⟩ (by simp) rfl
          have h7 : vals 7 = _ := hd ⟨7, .data⟩ (by simp) rfl
          simp only [laidF, List.foldl, Act.put, List.setIfInBounds_toArray, List.set, h0, h7]
          have hsrc : SlO (fun b => b < w.heap.size) ThrE v5 (.slice pt m ct) (ts.take m) := (take_part (k := m) (SlA.keep (SlA.keep ht.old hB4) hB5) hm2 (by omega)).o
          go_wp2_with (at_builtin; refine wpList_appNew (R := ThrE) (B := fun b => b < w.heap.size) (ys := ts.take m) (by rfl) (.tmp 36) (.tmp 43) 23 37 i0 z0 24 (by rfl) Tryd.underlying23 J1.out J2.out J4.out J5.out J3.out g (.slice pt m ct) (by rfl) (by rfl) hsrc (fun e => by have := congrArg List.length e; rw [List.length_take, List.length_nil] at this; omega) (by rw [List.length_take]; omega) (by decide) ?_; intro p6 c6 v6 hO6 hb6)
          have hO7 : Own (fun b => b < w.heap.size) ThrE v6 w4.heap.size 37 (.slice p6 m c6) (ts.take m) := by have := hO6.base hB5.size; rwa [List.length_take, Nat.min_eq_left hm2] at this
          exact ⟨_, rfl, hO7, hb6⟩
        · simp only [laidF, List.foldl, Act.put, List.setIfInBounds_toArray, List.set]
          go_wp2
          exact ⟨_, rfl, rfl, Below.refl _ _⟩
        · simp only [laidF, List.foldl, Act.put, List.setIfInBounds_toArray, List.set]
          go_wp2
          exact ⟨_, rfl, rfl, Below.refl _ _⟩
        · simp only [laidF, List.foldl, Act.put, List.setIfInBounds_toArray, List.set]
          go_wp2
          exact ⟨_, rfl, rfl, Below.refl _ _⟩
        · simp only [laidF, List.foldl, Act.put, List.setIfInBounds_toArray, List.set]
          go_wp2
          exact ⟨_, rfl, rfl, Below.refl _ _⟩
        · simp only [laidF, List.foldl, Act.put, List.setIfInBounds_toArray, List.set]
          go_wp2
          exact ⟨_, rfl, rfl, Below.refl _ _⟩
        · have h9 : vals 9 = _ := hd ⟨9, .data⟩ (by simp) rfl
          have h10 : vals 10 = _ := hd ⟨10, .data⟩ (by simp) rfl
          have h11 : vals 11 = _ := hd ⟨11, .data⟩ (by simp) rfl
          have h12 : vals 12 = _ := hd ⟨12, .data⟩ (by simp) rfl
          have h13 : vals 13 = _ := hd ⟨13, .data⟩ (by simp) rfl
          simp only [laidF, List.foldl, Act.put, List.setIfInBounds_toArray, List.set, h9, h10, h11, h12, h13]
          go_wp2
          exact ⟨_, rfl, ⟨_, rfl, hB5.size, Blk.new⟩, by go_grown⟩
        · obtain ⟨g, h14, hg14, hK14⟩ := hd ⟨14, .data⟩ (by simp) rfl
          simp only [laidF, List.foldl, Act.put, List.setIfInBounds_toArray, List.set, h14]
          go_wp2
          exact ⟨_, rfl, ⟨_, _, rfl, hg14, Blk.new, hK14.alloc _⟩, by go_grown⟩
      · intro vals v5 hB5 hφ
        have h8 : Own (fun b => b < w.heap.size) ThrE v5 w4.heap.size 37 (vals 8) (ts.take m) := hφ 8 (by show 8 < 19; decide) rfl
        obtain ⟨g, q, e15, hq, hKg, hKq⟩ : ∃ g q, vals 15 = .slice (some ⟨g, 0, none⟩) 1 1 ∧ w4.heap.size ≤ q ∧ Blk v5 g #[.slice (some ⟨q, 0, none⟩) 5 5] 37 ∧ Blk v5 q (rowOf ldr5) 40 := hφ 15 (by show 15 < 19; decide) rfl
        obtain ⟨p8, c8, e8⟩ := h8.len
        rw [List.length_take, Nat.min_eq_left hm2] at e8
        rw [e8] at h8
        have hne8 : some q ≠ (Value.slice p8 m c8).ownBlock := h8.type hKq (by decide)
        have hown := fun b (hb : (Value.slice p8 m c8).ownBlock = some b) => h8.lt b hb
        have hsrc : SlO (fun b => (b < w.heap.size ∨ b = q) ∧ some b ≠ (Value.slice p8 m c8).ownBlock) ThrE v5 (.slice (some ⟨g, 0, none⟩) 1 1) [ldr5] :=
          slO_one (hKg.cell 0) (SlA.mono (A := fun b => b = q) (fun b hb => ⟨.inr hb, by rw [hb]; exact hne8⟩) (ins_blk ldr5 hKq rfl (by decide))) (Nat.le_refl _)
        have hA5 := hKa.keep hB5
        have hT5 := hK4.keep hB5
        have hL5 := hKl.keep hB5
        simp only [laidF, List.foldl, Act.put, List.setIfInBounds_toArray, List.set, e8, e15, List.map, opAt]
        clear e8 e15 hφ
        have hOm : Own (fun b => b < w.heap.size ∨ b = q) ThrE v5 w4.heap.size 37 (.slice p8 m c8) (ts.take m) := h8.mono (fun b hb => .inl hb)
        go_wp2_with (at_builtin; refine wpList_appO (R := ThrE) (A := fun b => b < w.heap.size ∨ b = q) (xs := ts.take m) (ys := [ldr5]) (by rfl) (.tmp 44) (.tmp 51) 23 37 i0 z0 24 (by rfl) Tryd.underlying23 J1.out J2.out J4.out J5.out J3.out w4.heap.size (.slice p8 m c8) (.slice (some ⟨g, 0, none⟩) 1 1) (by rfl) (by rfl) hOm hsrc (by rw [List.length_take, List.length_singleton]; omega) (by decide) hB5.size ?_; intro p6 c6 v6 hO6 hg6 hat6; have hA6 : Blk v6 (n3 + 1) #[.slice pi xs.length ci, .slice pt ts.length ct] 25 := hA5.grown hg6 (fun e => by have := hown _ e.symm; omega); have a1 := hA6.cell 1; have a2 := hA6.frozen 1; have hT6 : Blk v6 w.heap.size #[.slice pi xs.length ci, .slice pt ts.length ct] 25 := hT5.grown hg6 (fun e => by have := hown _ e.symm; omega); have b0 := hT6.cell 0; have b1 := hT6.cell 1; simp only [List.getElem?_toArray, List.getElem?_cons_zero, List.getElem?_cons_succ] at a1 b0 b1)
        have hL6 : Blk v6 n3 #[.int .i64 5, .int .i64 0, .int .i64 (-1), .int .i64 0, .int .i64 0, .int .i64 0] 40 := hL5.grown hg6 (fun e => by have := hown _ e.symm; omega)
        have hlen1 : (ts.take m ++ [ldr5]).length = m + 1 := by rw [List.length_append, List.length_take, List.length_singleton]; omega
        rw [hlen1] at hO6
        have g7 := grownBy_set v6 ⟨n3 + 1, 1, none⟩ (.slice p6 (m + 1) c6)
        have hA7 : Blk (v6.setCell ⟨n3 + 1, 1, none⟩ (.slice p6 (m + 1) c6)) (n3 + 1) #[.slice pi xs.length ci, .slice p6 (m + 1) c6] 25 := by simpa using hA6.set (i := 1) (.slice p6 (m + 1) c6)
        have hT7 := hT6.grown g7 (by simp; omega)
        have hL7 := hL6.grown g7 (by simp)
        have hO7 := hO6.agree g7 (fun b hb => by simp at hb; subst hb; exact ⟨by omega, fun e => by have := (hO6.lt _ e).1; omega⟩)
        have hB7 : Below w.heap.size w (v6.setCell ⟨n3 + 1, 1, none⟩ (.slice p6 (m + 1) c6)) := ((hB4.trans (hB5.mono hB4.size)).grown hg6 (by have := hB4.size; have := hB5.size; omega) (fun b hb => by have := (hown b hb).1; have := hB4.size; omega)).setCell (by simp; omega) _
        have hAs : Sl ThrE (v6.setCell ⟨n3 + 1, 1, none⟩ (.slice p6 (m + 1) c6)) (.slice p6 (m + 1) c6) (ts.take m ++ [ldr5]) := hO7.sl.any
        have hsz6 : v6.heap.size = (v6.setCell ⟨n3 + 1, 1, none⟩ (.slice p6 (m + 1) c6)).heap.size := by simp
        rw [hsz6]
        generalize hw7 : v6.setCell ⟨n3 + 1, 1, none⟩ (.slice p6 (m + 1) c6) = w7 at *
        clear hw7 a1 a2 b0 b1 hsz6 hO6 hO7 hg6 g7 hA6 hT6 hL6 hA5 hT5 hL5 hOm hsrc hown hne8 h8 hKg hKq
        have hBm : Below w7.heap.size w7 (w7.alloc (.cells #[.slice pi xs.length ci, .slice pt ts.length ct] 25)) := (Below.refl _ _).alloc (Nat.le_refl _) _
        have hKb : Blk (w7.alloc (.cells #[.slice pi xs.length ci, .slice pt ts.length ct] 25)) w7.heap.size #[.slice pi xs.length ci, .slice pt ts.length ct] 25 := Blk.new
        generalize hw8 : w7.alloc (.cells #[.slice pi xs.length ci, .slice pt ts.length ct] 25) = w8 at hBm hKb ⊢
        generalize hn7 : w7.heap.size = n7 at hKb ⊢
        have hn7l : n3 + 1 < n7 := by rw [← hn7]; exact hA7.lt
        have hn7t : w.heap.size < n7 := by rw [← hn7]; exact hT7.lt
        have hA8 := hA7.keep hBm
        have hT8 := hT7.keep hBm
        have hL8 := hL7.keep hBm
        have hAs8 : SlA (fun b => b < n7) ThrE w8 (.slice p6 (m + 1) c6) (ts.take m ++ [ldr5]) := by rw [← hn7]; exact hAs.old.keep hBm
        have hB8 := hB7.trans (hBm.mono hB7.size)
        clear hw8 hn7
        have hsA : sizeTs (ts.take m ++ [ldr5]) ≤ 1000 := by
          rw [size_append]
          have h1 := size_append (ts.take m) (ts.drop m)
          rw [List.take_append_drop] at h1
          have h2 : sizeTs [ldr5] = 5 := by decide
          omega
        generalize hua : ts.take m ++ [ldr5] = ua at hAs8 hlen1 hsA
        have HUA : Hid _ := hua
        clear hua
        have hu1 : ua.length = m + 1 := hlen1
        have HU1 : Hid _ := hu1
        clear hlen1 hu1 hAs hA7 hT7 hL7
        refine wp_region_par [11, 12, 13] [(55, 0), (56, 1), (57, 2), (58, 3), (59, 4), (60, 5), (61, 6), (62, 7), (63, 8), (64, 9), (65, 10)] (phi11 w.heap.size w8.heap.size pt ct ts) (by kernel_rfl) (by kernel_rfl) (phi11_stab _ _ _ _ _) ?_ ?_
        · intro vals2 v9 hB9
          have hT9 := hT8.keep hB9
          have hL9 := hL8.keep hB9
          have c1 := hT9.cell 1
          have d0 := hL9.cell 0
          have d1 := hL9.cell 1
          have d2 := hL9.cell 2
          have d3 := hL9.cell 3
          have d4 := hL9.cell 4
          have d5 := hL9.cell 5
          simp only [List.getElem?_toArray, List.getElem?_cons_zero, List.getElem?_cons_succ] at c1 d0 d1 d2 d3 d4 d5
          dsimp only [EachOp, Nat.zero_add, Nat.reduceAdd]
          refine ⟨fun _ hd => ?_, fun _ hd => ?_, fun _ hd => ?_, fun _ hd => ?_, fun _ hd => ?_, fun _ hd => ?_, fun _ hd => ?_, fun _ hd => ?_, fun _ hd => ?_, fun _ hd => ?_, fun _ hd => ?_, fun h => absurd h (by decide), fun h => absurd h (by decide), fun h => absurd h (by decide), trivial⟩
          · simp only [laidF, List.foldl, Act.put, List.setIfInBounds_toArray, List.set]
            go_wp2
            exact ⟨_, rfl, ⟨_, rfl⟩, by go_grown⟩
          · simp only [laidF, List.foldl, Act.put, List.setIfInBounds_toArray, List.set]
            go_wp2
            exact ⟨_, rfl, rfl, Below.refl _ _⟩
          · have g1 : vals2 1 = _ := hd ⟨1, .data⟩ (by simp) rfl
            simp only [laidF, List.foldl, Act.put, List.setIfInBounds_toArray, List.set, g1]
            go_wp2
            exact ⟨_, rfl, rfl, Below.refl _ _⟩
          · obtain ⟨g, h0⟩ := hd ⟨0, .data⟩ (by simp) rfl
            have h2 : vals2 2 = _ := hd ⟨2, .data⟩ (by simp) rfl
            simp only [laidF, List.foldl, Act.put, List.setIfInBounds_toArray, List.set, h0, h2]
            have hsrc : SlO (fun b => b < w.heap.size) ThrE v9 (.slice pt ts.length ct) ts := (SlA.keep (SlA.keep ht.old hB8) hB9).o
            go_wp2_with (at_builtin; refine wpList_appNew (R := ThrE) (B := fun b => b < w.heap.size) (ys := ts) (by rfl) (.tmp 55) (.tmp 57) 23 37 i0 z0 24 (by rfl) Tryd.underlying23 J1.out J2.out J4.out J5.out J3.out g (.slice pt ts.length ct) (by rfl) (by rfl) hsrc (fun e => by have := congrArg List.length e; rw [List.length_nil] at this; omega) (by omega) (by decide) ?_; intro p6 c6 v6 hO6 hb6)
            exact ⟨_, rfl, hO6.base hB9.size, hb6⟩
          · simp only [laidF, List.foldl, Act.put, List.setIfInBounds_toArray, List.set]
            go_wp2
            exact ⟨_, rfl, rfl, Below.refl _ _⟩
          · have g4 : vals2 4 = _ := hd ⟨4, .data⟩ (by simp) rfl
            simp only [laidF, List.foldl, Act.put, List.setIfInBounds_toArray, List.set, g4]
            go_wp2
            exact ⟨_, rfl, ⟨_, rfl, hB9.size, Blk.new⟩, by go_grown⟩
          · simp only [laidF, List.foldl, Act.put, List.setIfInBounds_toArray, List.set]
            go_wp2
            exact ⟨_, rfl, rfl, Below.refl _ _⟩
          · have g6 : vals2 6 = _ := hd ⟨6, .data⟩ (by simp) rfl
            simp only [laidF, List.foldl, Act.put, List.setIfInBounds_toArray, List.set, g6]
            go_wp2
            exact ⟨_, rfl, ⟨_, rfl, hB9.size, Blk.new⟩, by go_grown⟩
          · simp only [laidF, List.foldl, Act.put, List.setIfInBounds_toArray, List.set]
            go_wp2
            exact ⟨_, rfl, rfl, Below.refl _ _⟩
          · have g8 : vals2 8 = _ := hd ⟨8, .data⟩ (by simp) rfl
            simp only [laidF, List.foldl, Act.put, List.setIfInBounds_toArray, List.set, g8]
            go_wp2
            exact ⟨_, rfl, ⟨_, rfl, hB9.size, Blk.new⟩, by go_grown⟩
          · obtain ⟨q1, h5, hq1, hK1⟩ := hd ⟨5, .data⟩ (by simp) rfl
            obtain ⟨q2, h7, hq2, hK2⟩ := hd ⟨7, .data⟩ (by simp) rfl
            obtain ⟨q3, h9, hq3, hK3⟩ := hd ⟨9, .data⟩ (by simp) rfl
            simp only [laidF, List.foldl, Act.put, List.setIfInBounds_toArray, List.set, h5, h7, h9]
            go_wp2
            exact ⟨_, rfl, ⟨_, q1, q2, q3, rfl, ⟨hq1, hq2, hq3⟩, Blk.new, hK1.alloc _, hK2.alloc _, hK3.alloc _⟩, by go_grown⟩
        · intro vals2 v9 hB9 hφ
          have h3 : Own (fun b => b < w.heap.size) ThrE v9 w8.heap.size 37 (vals2 3) ts := hφ 3 (by show 3 < 14; decide) rfl
          obtain ⟨g, q1, q2, q3, e10, ⟨hq1, hq2, hq3⟩, hKg, hK1, hK2, hK3⟩ : ∃ g q1 q2 q3, vals2 10 = .slice (some ⟨g, 0, none⟩) 3 3 ∧ (w8.heap.size ≤ q1 ∧ w8.heap.size ≤ q2 ∧ w8.heap.size ≤ q3) ∧ Blk v9 g #[.slice (some ⟨q1, 0, none⟩) 1 1, .slice (some ⟨q2, 0, none⟩) 1 1, .slice (some ⟨q3, 0, none⟩) 1 1] 37 ∧ Blk v9 q1 (rowOf [ldr1]) 40 ∧ Blk v9 q2 (rowOf [ldr1]) 40 ∧ Blk v9 q3 (rowOf [ldr1]) 40 := hφ 10 (by show 10 < 14; decide) rfl
          obtain ⟨p3, c3, e3⟩ := h3.len
          rw [e3] at h3
          have hn1 : some q1 ≠ (Value.slice p3 ts.length c3).ownBlock := h3.type hK1 (by decide)
          have hn2 : some q2 ≠ (Value.slice p3 ts.length c3).ownBlock := h3.type hK2 (by decide)
          have hn3 : some q3 ≠ (Value.slice p3 ts.length c3).ownBlock := h3.type hK3 (by decide)
          have hown := fun b (hb : (Value.slice p3 ts.length c3).ownBlock = some b) => h3.lt b hb
          have hsrc : SlO (fun b => (b < w.heap.size ∨ b = q1 ∨ b = q2 ∨ b = q3) ∧ some b ≠ (Value.slice p3 ts.length c3).ownBlock) ThrE v9 (.slice (some ⟨g, 0, none⟩) 3 3) [[ldr1], [ldr1], [ldr1]] :=
            slO_three (hKg.cell 0) (hKg.cell 1) (hKg.cell 2) (SlA.mono (A := fun b => b = q1) (fun b hb => ⟨.inr (.inl hb), by rw [hb]; exact hn1⟩) (ins_blk [ldr1] hK1 rfl (by decide)))
              (SlA.mono (A := fun b => b = q2) (fun b hb => ⟨.inr (.inr (.inl hb)), by rw [hb]; exact hn2⟩) (ins_blk [ldr1] hK2 rfl (by decide))) (SlA.mono (A := fun b => b = q3) (fun b hb => ⟨.inr (.inr (.inr hb)), by rw [hb]; exact hn3⟩) (ins_blk [ldr1] hK3 rfl (by decide))) (by decide)
          have hA9 := hA8.keep hB9
          have hT9 := hT8.keep hB9
          have hE9 := hKb.keep hB9
          have hAs9 := SlA.keep hAs8 hB9
          simp only [laidF, List.foldl, Act.put, List.setIfInBounds_toArray, List.set, e3, e10, List.map, opAt]
          clear e3 e10 hφ
          have hOm : Own (fun b => b < w.heap.size ∨ b = q1 ∨ b = q2 ∨ b = q3) ThrE v9 w8.heap.size 37 (.slice p3 ts.length c3) ts := h3.mono (fun b hb => .inl hb)
          have hlt8 := hKb.lt
          have hne3 : ¬ n3 + 1 = n7 := by omega
          have hne4 : ¬ n7 = n3 + 1 := by omega
          have hne1 : ¬ w.heap.size = n7 := by omega
          have hne2 : ¬ n7 = w.heap.size := by omega
          go_wp2_with (at_builtin; refine wpList_appO (R := ThrE) (A := fun b => b < w.heap.size ∨ b = q1 ∨ b = q2 ∨ b = q3) (xs := ts) (ys := [[ldr1], [ldr1], [ldr1]]) (by rfl) (.tmp 58) (.tmp 65) 23 37 i0 z0 24 (by rfl) Tryd.underlying23 J1.out J2.out J4.out J5.out J3.out w8.heap.size (.slice p3 ts.length c3) (.slice (some ⟨g, 0, none⟩) 3 3) (by rfl) (by rfl) hOm hsrc (by simp only [List.length_cons, List.length_nil]; omega) (by decide) hB9.size ?_; intro p10 c10 v10 hO10 hg10 hat10; have hE10 : Blk v10 n7 #[.slice pi xs.length ci, .slice pt ts.length ct] 25 := hE9.grown hg10 (fun e => by have := hown _ e.symm; omega); have a1 := hE10.cell 1; have a2 := hE10.frozen 1; have hT10 : Blk v10 w.heap.size #[.slice pi xs.length ci, .slice pt ts.length ct] 25 := hT9.grown hg10 (fun e => by have := hown _ e.symm; omega); have b0 := hT10.cell 0; have b1 := hT10.cell 1; have hA10 : Blk v10 (n3 + 1) #[.slice pi xs.length ci, .slice p6 (m + 1) c6] 25 := hA9.grown hg10 (fun e => by have := hown _ e.symm; omega); have f0 := hA10.cell 0; have f1 := hA10.cell 1; have f2 := hA10.lt; have f3 := hT10.lt; have f4 := hE10.lt; simp only [List.getElem?_toArray, List.getElem?_cons_zero, List.getElem?_cons_succ] at a1 b0 b1 f0 f1)
          have hlen2 : (ts ++ [[ldr1], [ldr1], [ldr1]]).length = ts.length + 3 := by simp
          rw [hlen2] at hO10
          have g11 := grownBy_set v10 ⟨n7, 1, none⟩ (.slice p10 (ts.length + 3) c10)
          have hE11 : Blk (v10.setCell ⟨n7, 1, none⟩ (.slice p10 (ts.length + 3) c10)) n7 #[.slice pi xs.length ci, .slice p10 (ts.length + 3) c10] 25 := by simpa using hE10.set (i := 1) (.slice p10 (ts.length + 3) c10)
          have hA11 := hA10.grown g11 (by simp; omega)
          have hO11 := hO10.agree g11 (fun b hb => by simp at hb; subst hb; exact ⟨by omega, fun e => by have := (hO10.lt _ e).1; omega⟩)
          have hAs10 := hAs9.agree (grownBy_agree hg10 (fun b hb e => by have := hown b e.symm; omega))
          have hAs11 : Sl ThrE (v10.setCell ⟨n7, 1, none⟩ (.slice p10 (ts.length + 3) c10)) (.slice p6 (m + 1) c6) ua := (hAs10.agree (grownBy_agree g11 (fun b hb e => by simp at e; omega))).any
          have hB10 : Below w.heap.size w (v10.setCell ⟨n7, 1, none⟩ (.slice p10 (ts.length + 3) c10)) := ((hB8.trans (hB9.mono hB8.size)).grown hg10 (by have := hB8.size; have := hB9.size; omega) (fun b hb => by have := (hown b hb).1; have := hB8.size; omega)).setCell (by simp; omega) _
          have hBs11 : Sl ThrE (v10.setCell ⟨n7, 1, none⟩ (.slice p10 (ts.length + 3) c10)) (.slice p10 (ts.length + 3) c10) (ts ++ [[ldr1], [ldr1], [ldr1]]) := hO11.sl.any
          generalize hw11 : v10.setCell ⟨n7, 1, none⟩ (.slice p10 (ts.length + 3) c10) = w11 at *
          have hsz : v10.heap.size = w11.heap.size := by rw [← hw11]; simp
          rw [hsz]
          have hBk : Below w11.heap.size w11 (w11.alloc (.cells #[.slice none 0 0, .slice pt ts.length ct] 25)) := (Below.refl _ _).alloc (Nat.le_refl _) _
          have hC12 : Blk (w11.alloc (.cells #[.slice none 0 0, .slice pt ts.length ct] 25)) w11.heap.size #[.slice none 0 0, .slice pt ts.length ct] 25 := Blk.new
          have hE12 := hE11.keep hBk
          have hAs12 := hAs11.keep hBk
          have hBs12 := hBs11.keep hBk
          have hB12 := hB10.trans (hBk.mono hB10.size)
          have hsB : sizeTs (ts ++ [[ldr1], [ldr1], [ldr1]]) ≤ 1000 := by
            rw [size_append]
            have h2 : sizeTs [[ldr1], [ldr1], [ldr1]] = 3 := by decide
            omega
          have eA : checkZ xs ua = (0, 0, 3) := by rw [← HUA.out]; exact more_a HOK.out hm3
          have eB : checkZ xs (ts ++ [[ldr1], [ldr1], [ldr1]]) = (0, 0, 1) := more_b (by rw [hlen2]; omega)
          have EA : Hid _ := eA
          have EB : Hid _ := eB
          clear eA eB
          generalize hw12 : w11.alloc (.cells #[.slice none 0 0, .slice pt ts.length ct] 25) = w12 at hC12 hE12 hAs12 hBs12 hB12 ⊢
          generalize hn11 : w11.heap.size = n11 at hC12 ⊢
          generalize hub : ts ++ [[ldr1], [ldr1], [ldr1]] = ub at hBs12 hlen2 hsB EB
          have HLen2 : Hid _ := hlen2
          clear hw11 hw12 hn11 hub hlen2 a1 a2 b0 b1 f0 f1 f2 f3 f4 hO10 hO11 hg10 g11 hBk hA11 hE11 hAs11 hBs11 hB10
          have C := Check_any pi p6 ci c6 xs ua w12 (T.below hB12) (hi.keep hB12) (by rw [HU1.out]; exact hAs12) (by omega)
          rw [EA.out, HU1.out] at C
          refine C.mono ?_
          clear C
          rintro e w13 ⟨rfl, hb13⟩
          have hB13 := hB12.trans (hb13.mono hB12.size)
          have hE13 := hE12.keep hb13
          have hC13 := hC12.keep hb13
          have f0 := hE13.cell 0
          have f1 := hE13.cell 1
          simp only [List.getElem?_toArray, List.getElem?_cons_zero, List.getElem?_cons_succ] at f0 f1
          go_wp2_with fail
          have C := Check_any pi p10 ci c10 xs ub w13 (T.below hB13) (hi.keep hB13) (by rw [HLen2.out]; exact hBs12.keep hb13) (by omega)
          rw [EB.out, HLen2.out] at C
          refine C.mono ?_
          clear C
          rintro e w14 ⟨rfl, hb14⟩
          have hB14 := hB13.trans (hb14.mono hB13.size)
          have hC14 := hC13.keep hb14
          have f2 := hC14.cell 0
          have f3 := hC14.cell 1
          simp only [List.getElem?_toArray, List.getElem?_cons_zero, List.getElem?_cons_succ] at f2 f3
          go_wp2_with fail
          have C := Check_any none pt 0 ct [] ts w14 (T.below hB14) SlA.nil (ht.keep hB14) (by omega)
          rw [more_c] at C
          refine C.mono ?_
          clear C
          rintro e w15 ⟨rfl, hb15⟩
          go_wp2
          go_ret
          exact ⟨rfl, hB14.trans (hb15.mono hB14.size)⟩
end Go.Proofs.YtpmecgagbjphdaaDoor
