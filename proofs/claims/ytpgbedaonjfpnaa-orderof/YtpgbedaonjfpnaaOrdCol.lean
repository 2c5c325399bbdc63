/- The contracts of order.linear, slices.AppendSeq, slices.Collect at rows, order.Linear. -/
import Derived.Test.YtpgbedaonjfpnaaOrdSeq
import Derived.Test.YtpgbedaonjfpnaaOrdRows
namespace Go.Proofs.Ytpgbedaonjfpnaa
open Go.RowKit Go.Shelf
attribute [local go_sem] Oper.semAt_some

theorem Own.ltA {α : Type} {R : Elem α} {A : Nat → Prop} {w : World} {base : Nat} {e : TypeId} {v : Value} {xs : List α} (h : Own A R w base e v xs) : Own (fun b => A b ∧ b < w.heap.size) R w base e v xs := by
  obtain ⟨cc, h1, h2, h3⟩ := h
  exact ⟨cc, h1, h2, fun i hi hi' => R.mono (fun b hb => ⟨⟨hb.1.1, hb.2⟩, hb.1.2⟩) (R.lt (h3 i hi hi'))⟩
/-- A row's block is one of A, unless it has none. -/
theorem own_rows {e t : TypeId} {A : Nat → Prop} {w : World} {base : Nat} {v : Value} {xs : List (List Nat × Nat)} (h : Own A (RowE e) w base t v xs) : ∀ x ∈ xs, x.1 ≠ [] → A x.2 := by
  intro x hx hne
  obtain ⟨i, hi, rfl⟩ := List.getElem_of_mem hx
  obtain ⟨cc, _, h2, h3⟩ := h
  obtain ⟨u, _, hu, hA⟩ := h3 i hi (by omega)
  rcases hu.2 with h | ⟨_, h⟩
  · exact (hA h).1
  · exact absurd h hne

/-- What slices.AppendSeq has gathered: B is its box. -/
def ColI (B base : Nat) : RowsOf := fun A items W => ∃ v, Blk W B #[v] 25 ∧ A B ∧ Own (fun b => A b ∧ b ≠ B) (RowE 3) W base 24 v items ∧ (∀ b, v.ownBlock = some b → A b ∧ b ≠ B) ∧ items.Pairwise (fun x y => x.1 ≠ [] → x.2 ≠ y.2)
theorem ColI.stays (B base : Nat) : Stays (ColI B base) := by
  rintro A items W W' ⟨v, h1, h2, h3, h4, h5⟩ ho
  exact ⟨v, h1.only ho (fun h => h h2), h2, h3.only ho (fun b hb hn => hn hb.1) (fun b hb hn => hn (h4 b hb).1), h4, h5⟩

theorem col_step {B base : Nat} {A : Nat → Prop} {pre : List (List Nat × Nat)} {x : List Nat × Nat} {W w6 : World} {vc : Value} {p6 : Option Addr} {k6 : Nat} {o : Obj}
    (hbl : Blk W B #[vc] 25) (hAB : A B) (hvc : ∀ b, vc.ownBlock = some b → A b ∧ b ≠ B) (hpw : pre.Pairwise (fun x y => x.1 ≠ [] → x.2 ≠ y.2)) (hrows : ∀ y ∈ pre, y.1 ≠ [] → A y.2) (hAlt : ∀ b, A b → b < W.heap.size) (hx : ¬ A x.2)
    (hO : Own (fun b => (A b ∨ b = x.2) ∧ b ≠ B) (RowE 3) w6 base 24 (.slice p6 (pre ++ [x]).length k6) (pre ++ [x])) (hg : (W.alloc o).grownBy w6 vc.ownBlock)
    (hw : (Value.slice p6 (pre ++ [x]).length k6).ownBlock = vc.ownBlock ∨ (Value.slice p6 (pre ++ [x]).length k6).ownBlock = some (W.heap.size + 1)) :
    RoundLeft (ColI B base) A pre x W (w6.setCell ⟨B, 0, none⟩ (.slice p6 (pre ++ [x]).length k6)) := by
  have hb1 : Below W.heap.size W (W.alloc o) := (Below.refl _ _).alloc (Nat.le_refl _) _
  have hs1 : (W.alloc o).heap.size = W.heap.size + 1 := by simp
  have hs6 := hg.size
  have hset := grownBy_set w6 ⟨B, 0, none⟩ (.slice p6 (pre ++ [x]).length k6)
  have hs7 : (w6.setCell ⟨B, 0, none⟩ (.slice p6 (pre ++ [x]).length k6)).heap.size = w6.heap.size := by simp [World.setCell]
  have hBl := hAlt B hAB
  have hvl := hO.lt
  have hvB : ∀ b, (Value.slice p6 (pre ++ [x]).length k6).ownBlock = some b → (A b ∨ W.heap.size ≤ b) ∧ b ≠ B := fun b e => by
    rcases hw with h | h
    · rw [h] at e; exact ⟨.inl (hvc b e).1, (hvc b e).2⟩
    · rw [h] at e; injection e with e; exact ⟨.inr (by omega), by omega⟩
  have hblk : Blk w6 B #[vc] 25 := (hbl.keep hb1).grown hg fun e => (hvc B e.symm).2 rfl
  refine ⟨fun b => (A b ∨ b = x.2 ∨ W.heap.size ≤ b) ∧ b < w6.heap.size, fun b h => by rw [hs7]; exact h.2, fun b h => h.1, ?_, .slice p6 (pre ++ [x]).length k6, ?_, ⟨.inl hAB, by omega⟩, ?_, ?_, ?_⟩
  · exact ((Below.only hb1).trans (grownBy_only (A := A) hg fun k e => (hvc k e).1) fun b h => .inl h).trans (grownBy_only (A := A) hset fun k e => by cases e; exact hAB) fun b h => .inl h
  · have := Blk.set (i := 0) hblk (.slice p6 (pre ++ [x]).length k6)
    rw [show (#[vc] : Array Value).setIfInBounds 0 (.slice p6 (pre ++ [x]).length k6) = #[.slice p6 (pre ++ [x]).length k6] from rfl] at this
    exact this
  · refine Own.mono (hO.ltA.agree hset fun k e => ?_) fun b h => ⟨⟨?_, h.2⟩, h.1.2⟩
    · cases e
      exact ⟨fun h => h.1.2 rfl, fun e => (hvB B e).2 rfl⟩
    · rcases h.1.1 with h | h
      · exact .inl h
      · exact .inr (.inl h)
  · intro b e
    have h1 := hvB b e
    refine ⟨⟨?_, (hvl b e).2⟩, h1.2⟩
    rcases h1.1 with h | h
    · exact .inl h
    · exact .inr (.inr h)
  · rw [List.pairwise_append]
    refine ⟨hpw, List.pairwise_singleton _ _, fun y hy z hz hne => ?_⟩
    simp at hz
    subst hz
    intro e
    exact hx (e ▸ hrows y hy hne)

set_option maxHeartbeats 1000000 in
theorem linear_ret (p : Option Addr) (c : Nat) (xs : List Nat) (w : World) : Calls Try.prog 25 #[.slice p xs.length c] w fun e w' => e = .returned (.func (.func 36) #[] #[.pointer (some ⟨w.heap.size, 0, none⟩)]) ∧ w' = w.alloc (.cells #[.slice p xs.length c] 33) := by
  go_enter Try.func25, Try.ntmps25
  go_wp2
  go_ret
  exact ⟨rfl, rfl⟩

theorem info_sl : ((Try.prog.info? 24).map fun i => (i.zero, i.size, i.bytes)) = some (some (.slice none 0 0), 1, 24) := by kernel_rfl
theorem sl_row1 {e : TypeId} {w : World} {b : Nat} {v : Value} {x : List Nat × Nat} (h : w.cell? ⟨b, 0, none⟩ = some v) (hv : RowV e w v x) : SlA (fun k => k = b ∨ k = x.2) (RowE e) w (.slice (some ⟨b, 0, none⟩) 1 1) [x] := by
  refine ⟨_, 1, rfl, ⟨(fun e => by cases e), Nat.le_refl _⟩, fun _ => ⟨b, 0, rfl, .inl rfl, fun i hi => ⟨[v], ?_, fun j u hu => ?_⟩⟩⟩
  · have : i = 0 := by simp at hi; omega
    subst this
    exact ⟨v, rfl, hv, fun _ => .inr rfl⟩
  · have : i = 0 := by simp at hi; omega
    subst this
    match j, hu with
    | 0, hu => simp at hu; subst hu; simpa using h
    | j + 1, hu => simp at hu

set_option maxRecDepth 100000 in
set_option maxHeartbeats 4000000 in
theorem AppendSeq_any (gf : FuncId) (lb : Array Value) (ls : List (List Nat)) (N : Nat) (w : World) (hseq : SeqRows Try.prog 3 gf lb ls N w.heap.size w) (eg : ∀ args w, (callFunc gf args).run Try.prog w = .ok (.enter gf args) w) (hN : N ≤ 1000000) :
    Calls Try.prog 35 #[.slice none 0 0, .func (.func gf) #[] lb] w fun e w' => ∃ v items A, e = .returned v ∧ items.map Prod.fst = ls ∧ Own A (RowE 3) w' w.heap.size 24 v items ∧ (∀ b, A b → w.heap.size ≤ b) ∧ items.Pairwise (fun x y => x.1 ≠ [] → x.2 ≠ y.2) ∧ Below w.heap.size w w' := by
  obtain ⟨i0, j1, j2, j3, j4⟩ := get_info info_sl
  have J1 : Hid _ := j1
  have J2 : Hid _ := j2
  have J3 : Hid _ := j3
  have J4 : Hid _ := j4
  clear j1 j2 j3 j4
  have hb1 : Below w.heap.size w (w.alloc (.cells #[.slice none 0 0] 25)) := (Below.refl _ _).alloc (Nat.le_refl _) _
  refine (callsIn_wide (n := 3)).1 ?_
  refine callsIn_of_wp_marks Try.func35 rfl trivial ?_
  simp only [Try.ntmps35, List.size_toArray, List.length_cons, List.length_nil, Nat.reduceAdd, Nat.reduceSub, Array.replicate_succ, Array.replicate_zero, List.push_toArray, List.append_toArray, List.nil_append, List.cons_append]
  gi_wp2
  refine wpIn_rows (e := 3) (w0 := w) (gf := gf) (lb := lb) rfl eg hseq (Nat.le_refl _) hb1 rfl (ColI w.heap.size w.heap.size) (fun _ _ _ _ => False) (ColI.stays _ _) (fun _ _ _ _ _ h _ => h) (fun b => b = w.heap.size) (fun b h => by subst h; simp) ⟨.slice none 0 0, Blk.new, rfl, Own.nil, fun b h => by simp [Value.ownBlock] at h, List.Pairwise.nil⟩ ?a1 ?assign ?body ?done ?stop
  case a1 => exact fun v => { tmps := #[.slice none 0 0, .func (.func gf) #[] lb, .pointer (some ⟨w.heap.size, 0, none⟩), undef, .slice none 0 0, v, .func (.func gf) #[] lb, v, undef, undef, undef, undef, undef], defers := [] }
  case assign =>
    intro l v W K hK
    gi_wp2
    exact hK
  case body =>
    rintro l A pre x v W ⟨vc, h1, h2, h3, h4, h5⟩ hAlt hv hx hlen
    have hbs := hb1.size
    have c1 := h1.cell 0
    simp only [List.getElem?_toArray, List.getElem?_cons_zero] at c1
    obtain ⟨pc, kc, rfl⟩ := h3.len
    obtain ⟨pv, kv, rfl⟩ := hv.1.len
    have hrows := own_rows h3
    have hal : Below W.heap.size W (W.alloc (.cells #[.slice pv x.1.length kv] 24)) := (Below.refl _ _).alloc (Nat.le_refl _) _
    have hO : Own (fun b => (A b ∨ b = x.2) ∧ b ≠ w.heap.size) (RowE 3) (W.alloc (.cells #[.slice pv x.1.length kv] 24)) w.heap.size 24 (.slice pc pre.length kc) pre := Own.mono (h3.keep hal) fun b h => ⟨.inl h.1, h.2⟩
    have hsrc : SlA (fun k => k = W.heap.size ∨ k = x.2) (RowE 3) (W.alloc (.cells #[.slice pv x.1.length kv] 24)) (.slice (some ⟨W.heap.size, 0, none⟩) 1 1) [x] :=
      sl_row1 (by simp) (RowV.only (A := fun _ => False) hv (Below.only hal) (fun h => h))
    have hfit : ∀ y ∈ [x], ∀ c, (RowE 3).cs (fun k => k = W.heap.size ∨ k = x.2) (W.alloc (.cells #[.slice pv x.1.length kv] 24)) y c → (RowE 3).cs (fun b => ((A b ∨ b = x.2) ∧ b ≠ w.heap.size) ∧ some b ≠ (Value.slice pc pre.length kc).ownBlock) (W.alloc (.cells #[.slice pv x.1.length kv] 24)) y c := by
      rintro y hy c ⟨u, rfl, hu, _⟩
      simp only [List.mem_singleton] at hy
      subst hy
      exact ⟨u, rfl, hu, fun _ => ⟨⟨.inr rfl, fun e => hx (e ▸ h2)⟩, fun e => hx (h4 _ e.symm).1⟩⟩
    have HO : Hid _ := hO
    have HS : Hid _ := hsrc
    have HF : Hid _ := hfit
    clear hO hsrc hfit
    have hWs : w.heap.size < W.heap.size := hAlt _ h2
    gi_wp2_with (gi_at_builtin; refine wpListIn_appB (R := RowE 3) (by rfl) (.tmp 8) (.tmp 10) 25 24 i0 (.slice none 0 0) 24 (by rfl) Try.underlying25 J1.out J2.out J3.out J4.out (by rfl) w.heap.size (.slice pc pre.length kc) (.slice (some ⟨W.heap.size, 0, none⟩) 1 1) (by rfl) (by rfl) HO.out HS.out HF.out (by simp only [List.length_cons, List.length_nil]; unfold maxLen; omega) (by simp only [List.length_cons, List.length_nil]; omega) (by simp; omega) ?_; intro p6 k6 w6 hO6 hg6 hw6; have B6 := Blk.grown (h1.keep hal) hg6 (fun e => (h4 _ e.symm).2 rfl); have c6 := B6.cell 0; have f6 := B6.frozen 0; simp only [List.getElem?_toArray, List.getElem?_cons_zero] at c6)
    have hR := col_step h1 h2 h4 h5 (fun y hy hn => (hrows y hy hn).1) hAlt hx hO6 hg6 (by simpa using hw6)
    rw [show (pre ++ [x]).length = pre.length + 1 by simp] at hR
    exact hR
  case done =>
    rintro D A items W hD hnD hit ⟨vc, h1, h2, h3, h4, h5⟩ hA hB hK
    have c1 := h1.cell 0
    simp only [List.getElem?_toArray, List.getElem?_cons_zero] at c1
    gi_wp2
    have oD : Only (fun b => b = D) W (W.putObj D (.deferred none)) := only_putObj _ rfl
    have hnv : ∀ b, vc.ownBlock = some b → ¬ b = D := fun b e h => hnD (h ▸ (h4 b e).1)
    have h3' := h3.only oD (fun b hb e => hnD (e ▸ hb.1)) hnv
    have hD' : w.heap.size ≤ D := by simp at hD; omega
    have hBz := hB.size
    refine ⟨by simp, .inl ⟨_, _, rfl, run_takeDeferred hK, ?_⟩⟩
    exact ⟨_, results_tmp rfl _ _ _, _, items, _, rfl, hit, h3', fun b h => (hA b h.1).1, h5, hB.trans (oD.below hBz fun b e => by omega)⟩
  case stop =>
    rintro D c A items W _ _ _ h
    exact h.elim
/-- Rows, told. -/
def RowsT (w : World) (ls : List (List Nat)) (e : Ending) (w' : World) : Prop :=
  ∃ v items A, e = .returned v ∧ items.map Prod.fst = ls ∧ Own A (RowE 3) w' w.heap.size 24 v items ∧ (∀ b, A b → w.heap.size ≤ b) ∧ items.Pairwise (fun x y => x.1 ≠ [] → x.2 ≠ y.2) ∧ Below w.heap.size w w'
theorem RowsT.after {w w1 w' : World} {ls : List (List Nat)} {e : Ending} (h : RowsT w1 ls e w') (hb : Below w.heap.size w w1) : RowsT w ls e w' := by
  obtain ⟨v, items, A, h1, h2, h3, h4, h5, h6⟩ := h
  have hs := hb.size
  refine ⟨v, items, A, h1, h2, ?_, fun b h => by have := h4 b h; omega, h5, Below.thru hb h6 (Nat.le_refl _)⟩
  obtain ⟨cc, ⟨k1, k2⟩, k3⟩ := h3
  refine ⟨cc, ⟨k1, ?_⟩, k3⟩
  rcases k2 with k2 | ⟨g, cap, cur, hv, hg, k4⟩
  · exact .inl k2
  · exact .inr ⟨g, cap, cur, hv, by omega, k4⟩
set_option maxHeartbeats 1000000 in
theorem Collect_any (gf : FuncId) (lb : Array Value) (ls : List (List Nat)) (N : Nat) (w : World) (hseq : SeqRows Try.prog 3 gf lb ls N w.heap.size w) (eg : ∀ args w, (callFunc gf args).run Try.prog w = .ok (.enter gf args) w) (hN : N ≤ 1000000) :
    Calls Try.prog 24 #[.func (.func gf) #[] lb] w (RowsT w ls) := by
  have C := AppendSeq_any gf lb ls N w hseq eg hN
  clear hseq
  go_enter Try.func24, Try.ntmps24
  go_wp2_with (go_at_call 35; refine C.mono ?_; rintro e w1 ⟨v, items, A, rfl, h1, h2, h3, h4, h5⟩)
  go_ret
  exact ⟨v, items, A, rfl, h1, h2, h3, h4, h5⟩

/-- All linear orders, told of six things at most. -/
def linL (xs : List Nat) : List (List Nat) := if szR xs ≤ 6 then linF (szR xs) (hasR xs) else []
theorem lin_count {n : Nat} {f : Nat → Nat → Bool} (hn : n ≤ 6) : (linF n f).length ≤ 46656 := by
  unfold linF
  split
  · refine Nat.le_trans (ext_count n []) ?_
    have : n ^ n ≤ 6 ^ 6 := Nat.le_trans (Nat.pow_le_pow_left hn n) (Nat.pow_le_pow_right (by decide) hn)
    omega
  · simp
set_option maxHeartbeats 1000000 in
theorem Linear_any (p : Option Addr) (c : Nat) (xs : List Nat) (w : World) (hx : Sl U32E w (.slice p xs.length c) xs) : Calls Try.prog 8 #[.slice p xs.length c] w (RowsT w (linL xs)) := by
  have C := things_ord p c xs w
  by_cases hn : szR xs ≤ 6
  · have hn' : ¬ (6 : Int) < (szR xs : Int) := by omega
    have el : Hid _ := (show linL xs = linF (szR xs) (hasR xs) by unfold linL; rw [if_pos hn])
    have hc := lin_count (f := hasR xs) hn
    go_enter Try.func8, Try.ntmps8
    go_wp2_with (first
      | (go_at_call 23; refine C.mono ?_; clear C; rintro e w1 ⟨rfl, hb1⟩)
      | (go_at_call 25; refine (linear_ret p c xs w1).mono ?_; rintro e w2 ⟨rfl, rfl⟩; have hb2 := (Below.refl w1.heap.size w1).alloc (Nat.le_refl _) (.cells #[.slice p xs.length c] 33); have CC := Collect_any 36 #[.pointer (some ⟨w1.heap.size, 0, none⟩)] _ _ _ (linear1_any p c w1.heap.size _ _ xs (w1.alloc (.cells #[.slice p xs.length c] 33)) (Nat.le_refl _) Blk.new ((hx.keep hb1).keep hb2) (Nat.le_refl _)) (enters_of Try.func36 (by kernel_rfl) rfl) (by omega))
      | (go_at_call 24; refine CC.mono ?_; clear CC; rintro e w3 hT; obtain ⟨v, items, A, rfl, h⟩ := hT.after (Below.thru hb1 hb2 (Nat.le_refl _))))
    go_ret
    rw [el.out]
    exact ⟨v, items, A, rfl, h⟩
  · have hn' : (6 : Int) < (szR xs : Int) := by omega
    have el : Hid _ := (show linL xs = [] by unfold linL; rw [if_neg hn])
    go_enter Try.func8, Try.ntmps8
    go_wp2_with (first
      | (go_at_call 23; refine C.mono ?_; clear C; rintro e w1 ⟨rfl, hb1⟩))
    go_ret
    rw [el.out]
    exact ⟨_, [], fun b => False, rfl, rfl, Own.nil, fun b h => h.elim, List.Pairwise.nil, hb1⟩

/-- Rows as lists. -/
theorem own_lists {e t : TypeId} {A : Nat → Prop} {w : World} {base : Nat} {v : Value} {items : List (List Nat × Nat)} (h : Own A (RowE e) w base t v items) : SlA (fun b => base ≤ b ∨ A b) (SlE NatE) w v (items.map Prod.fst) := by
  obtain ⟨p, cap, rfl, h0, h1⟩ := h.sl
  refine ⟨p, cap, by simp, by simpa using h0, fun hne => ?_⟩
  obtain ⟨b, o, rfl, hA, h2⟩ := h1 (fun e => hne (by simp [e]))
  refine ⟨b, o, rfl, hA, fun i hi => ?_⟩
  obtain ⟨c, ⟨u, rfl, hu, hAu⟩, h4⟩ := h2 i (by simpa using hi)
  refine ⟨[u], ⟨u, rfl, ?_⟩, h4⟩
  have := hu.1.sl
  simp only [List.getElem_map]
  refine SlA.mono (fun b hb => ?_) this
  rcases hu.2 with h | ⟨rfl, _⟩
  · rw [h] at hb; injection hb with hb; subst hb; exact hAu h
  · simp [Value.ownBlock] at hb
/-- Lists of numbers, told. -/
def ListsT (w : World) (ls : List (List Nat)) (e : Ending) (w' : World) : Prop := ∃ p c, e = .returned (.slice p ls.length c) ∧ SlA (fun b => w.heap.size ≤ b) (SlE NatE) w' (.slice p ls.length c) ls ∧ Below w.heap.size w w'
theorem RowsT.lists {w w' : World} {ls : List (List Nat)} {e : Ending} (h : RowsT w ls e w') : ListsT w ls e w' := by
  obtain ⟨v, items, A, rfl, rfl, h3, h4, _, h6⟩ := h
  have := SlA.mono (B := fun b => w.heap.size ≤ b) (fun b hb => by rcases hb with h | h; exact h; exact h4 b h) (own_lists h3)
  obtain ⟨p, c, rfl⟩ := this.len
  exact ⟨p, c, rfl, this, h6⟩
theorem Linear_l (p : Option Addr) (c : Nat) (xs : List Nat) (w : World) (hx : Sl U32E w (.slice p xs.length c) xs) : Calls Try.prog 8 #[.slice p xs.length c] w (ListsT w (linL xs)) := (Linear_any p c xs w hx).mono fun _ _ h => h.lists
end Go.Proofs.Ytpgbedaonjfpnaa
