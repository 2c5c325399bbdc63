/- Laws of no program: a range over an iterator that hands rows on, each in memory of its own. -/
import Derived.Test.YtpgbedaonjfpnaaOrdRep
namespace Go.Proofs.Ytpgbedaonjfpnaa
open Go.RowKit Go.Shelf

/-- A way of rows and their blocks. -/
def RowsOf := (Nat → Prop) → List (List Nat × Nat) → World → Prop
/-- An iterator that hands on the rows ls, in turn, and lays each anew. -/
def SeqRows (P : Program) (e : TypeId) (g : FuncId) (lb : Array Value) (ls : List (List Nat)) (N lo : Nat) (w0 : World) : Prop :=
  ∀ (lp : Nat) (J Jx : RowsOf) (A : Nat → Prop) (W : World), Below w0.heap.size w0 W → Stays J → Stays Jx → Yields P e lp N J Jx → J A [] W → (∀ b, A b → lo ≤ b ∧ b < W.heap.size) →
    Calls P g (#[.func (.yield lp) #[] #[]] ++ lb) W fun en W' => (∃ v, en = .returned v) ∧ ∃ A' items, (∀ b, A' b → lo ≤ b ∧ b < W'.heap.size) ∧ Below lo w0 W' ∧ ((items.map Prod.fst = ls ∧ J A' items W') ∨ (items.map Prod.fst <+: ls ∧ Jx A' items W'))

/-- What a round leaves. -/
def RoundLeft (I : RowsOf) (A : Nat → Prop) (pre : List (List Nat × Nat)) (x : List Nat × Nat) (W W' : World) : Prop :=
  ∃ A', (∀ b, A' b → b < W'.heap.size) ∧ (∀ b, A' b → A b ∨ b = x.2 ∨ W.heap.size ≤ b) ∧ Only A W W' ∧ I A' (pre ++ [x]) W'
def rowPost (I : RowsOf) (Ix : Code → RowsOf) (A : Nat → Prop) (pre : List (List Nat × Nat)) (x : List Nat × Nat) (W : World) : Exit → Act → World → Prop
  | .normal, _, W' => RoundLeft I A pre x W W'
  | .ret, _, W' => RoundLeft (Ix .ret) A pre x W W'
  | .exit id, _, W' => RoundLeft (Ix (.exit id)) A pre x W W'
  | .goto t, _, W' => RoundLeft (Ix (.goto t)) A pre x W W'
  | .panic _, _, _ => False
  | .outgrown, _, _ => False

theorem only_putObj {A : Nat → Prop} {W : World} {l : Nat} (o : Obj) (hl : A l) : Only A W (W.putObj l o) :=
  ⟨rfl, rfl, rfl, by simp, fun b _ hb => World.putObj_heap_other (by rintro rfl; exact hb hl)⟩
theorem RowV.only {e : TypeId} {A : Nat → Prop} {w w' : World} {v : Value} {x : List Nat × Nat} (h : RowV e w v x) (ho : Only A w w') (ha : ¬ A x.2) : RowV e w' v x := by
  obtain ⟨h1, h2⟩ := h
  refine ⟨h1.only ho fun b hb => ?_, h2⟩
  rcases h2 with h2 | ⟨rfl, _⟩
  · rw [h2] at hb; injection hb with hb; subst hb; exact ha
  · simp [Value.ownBlock] at hb

/-- The caller's blocks with the loop's own two. -/
def with2 (A : Nat → Prop) (D : Nat) : Nat → Prop := fun b => A b ∨ b = D ∨ b = D + 1
def Loop2 (I : RowsOf) (rec : Loop) (D : Nat) : RowsOf := fun A pre W => ∃ A1, A = with2 A1 D ∧ ¬ A1 D ∧ ¬ A1 (D + 1) ∧ W.heap[D + 1]? = some (.loop rec) ∧ W.heap[D]? = some (.deferred (some [])) ∧ I A1 pre W
theorem Loop2.stays {I : RowsOf} (hI : Stays I) (rec : Loop) (D : Nat) : Stays (Loop2 I rec D) := by
  rintro A pre W W' ⟨A1, rfl, h1, h2, h3, h4, h5⟩ ho
  refine ⟨A1, rfl, h1, h2, ?_, ?_, hI _ _ _ _ h5 (ho.mono fun b hb ha => hb (.inl ha))⟩
  · rw [ho.block _ (Array.getElem?_eq_some_iff.1 h3).1 (fun h => h (.inr (.inr rfl)))]; exact h3
  · rw [ho.block _ (Array.getElem?_eq_some_iff.1 h4).1 (fun h => h (.inr (.inl rfl)))]; exact h4

theorem exists_stays {β : Type} {I : β → RowsOf} (h : ∀ c, Stays (I c)) : Stays fun A pre W => ∃ c, I c A pre W := by
  rintro A pre W W' ⟨c, hc⟩ ho
  exact ⟨c, h c _ _ _ _ hc ho⟩

/-- THE LAW. -/
theorem wpIn_rows {P : Program} {e : TypeId} {g : Operand} {ps : Array Tmp} {assign body : Code} {Q : Exit → Act → World → Prop} {a : Act} {w : World} {n : Nat}
    {gf : Nat} {lb : Array Value} (hg : a.eval g = .func (.func gf) #[] lb) (eg : ∀ args w, (callFunc gf args).run P w = .ok (.enter gf args) w)
    {ls : List (List Nat)} {N lo : Nat} {w0 : World} (hseq : SeqRows P e gf lb ls N lo w0) (hlo : lo ≤ w0.heap.size) (hb0 : Below w0.heap.size w0 w) (hps : ps.size = 1)
    (I : RowsOf) (Ix : Code → RowsOf) (hI : Stays I) (hIx : ∀ c, Stays (Ix c)) (A0 : Nat → Prop) (hA0 : ∀ b, A0 b → lo ≤ b ∧ b < w.heap.size) (h0 : I A0 [] w) (a₁ : Value → Act)
    (hassign : ∀ (l : Nat) (v : Value) (W : World) (K : Act → World → Prop), K (a₁ v) W →
      assign.wpIn (Fence.wide.inRound l) 0 P (Exit.then K (fun _ _ _ => False)) { tmps := (ps.zip #[v]).foldl (fun t (p, v) => t.setIfInBounds p v) a.tmps, defers := [] } W)
    (hbody : ∀ (l : Nat) (A : Nat → Prop) (pre : List (List Nat × Nat)) (x : List Nat × Nat) (v : Value) (W : World), I A pre W → (∀ b, A b → b < W.heap.size) → RowV e W v x → ¬ A x.2 → pre.length < N → body.wpIn (Fence.wide.inRound l) 0 P (rowPost I Ix A pre x W) (a₁ v) W)
    (hdone : ∀ (D : Nat) (A : Nat → Prop) (items : List (List Nat × Nat)) (W : World), w.heap.size ≤ D → ¬ A D → items.map Prod.fst = ls → I A items W → (∀ b, A b → lo ≤ b ∧ b < W.heap.size) → Below lo w0 W → W.heap[D]? = some (.deferred (some [])) → Q .normal { a with defers := { target := .collected D, args := #[] } :: a.defers } W)
    (hstop : ∀ (D : Nat) (c : Code) (A : Nat → Prop) (items : List (List Nat × Nat)) (W : World), w.heap.size ≤ D → ¬ A D → items.map Prod.fst <+: ls → Ix c A items W → (∀ b, A b → lo ≤ b ∧ b < W.heap.size) → Below lo w0 W → W.heap[D]? = some (.deferred (some [])) → c.wpIn Fence.wide n P Q { a with defers := { target := .collected D, args := #[] } :: a.defers } W) :
    (Code.rangeFunc g ps assign body).wpIn Fence.wide n P Q a w := by
  refine wpIn_rangeFunc ?_
  intro fn hfn
  show ∃ l mark w₁ d w₁' f args w₂, (Instr.enterLoop fn a.tmps ps assign body none).run P w = .ok (l, mark) w₁ ∧ _
  obtain ⟨rec, hrec⟩ : ∃ rec : LoopState → Option Code → Loop, rec = fun st pe => { state := st, pending := pe, fn, tmps := a.tmps, params := ps, assign, body, defers := w.heap.size } := ⟨_, rfl⟩
  obtain ⟨W1, hW1⟩ : ∃ W1, (w.alloc (.deferred (some []))).alloc (.loop (rec .ready none)) = W1 := ⟨_, rfl⟩
  have hL1 : W1.heap[w.heap.size + 1]? = some (.loop (rec .ready none)) := by
    rw [← hW1]; have := World.alloc_heap_new (w.alloc (.deferred (some []))) (.loop (rec .ready none)); rwa [World.size_alloc] at this
  have hK1 : W1.heap[w.heap.size]? = some (.deferred (some [])) := by
    rw [← hW1]; exact (Below.heap_alloc _ _ _ (by simp)).trans (World.alloc_heap_new w _)
  have hB1 : Below w.heap.size w W1 := by rw [← hW1]; exact ((Below.refl _ w).alloc (Nat.le_refl _) _).alloc (by simp) _
  have hs1 : W1.heap.size = w.heap.size + 2 := by rw [← hW1]; simp
  have hI1 : I A0 [] W1 := hI _ _ _ _ h0 (Below.only hB1)
  have hb1 : Below w0.heap.size w0 W1 := hb0.trans (hB1.mono hb0.size)
  have hnD : ¬ A0 w.heap.size := fun h => by have := (hA0 _ h).2; omega
  have hnL : ¬ A0 (w.heap.size + 1) := fun h => by have := (hA0 _ h).2; omega
  refine ⟨w.heap.size + 1, [{ target := .collected w.heap.size, args := #[] }], W1, { target := .fn (.func gf) lb, args := #[.func (.yield (w.heap.size + 1)) #[] #[]] }, W1, gf,
    #[.func (.yield (w.heap.size + 1)) #[] #[]] ++ lb, W1, ?_, ?_, fun _ _ => trivial, ?_, (fun h => by cases h), ?_⟩
  · rw [← hW1, hrec]; exact run_enterLoop_outer _ _ _ _ _
  · simp only [resolve, hg]
    simp [go_sem]
  · simp [invoke, go_sem, eg]
  · refine (callsIn_wide.2 (hseq (w.heap.size + 1) (Loop2 I (rec .ready none) w.heap.size) (fun A pre W => ∃ c, Loop2 (Ix c) (rec .done (some c)) w.heap.size A pre W) (with2 A0 w.heap.size) W1 hb1 (Loop2.stays hI _ _) (exists_stays fun c => Loop2.stays (hIx c) _ _) ?_
      ⟨A0, rfl, hnD, hnL, hL1, hK1, hI1⟩ ?_)).mono ?_
    · rintro A pre x v W ⟨A1, rfl, hd1, hl1, hl, hk, hi⟩ hAlt hv hnx hlen
      have hlt : w.heap.size + 1 < W.heap.size := (Array.getElem?_eq_some_iff.1 hl).1
      have hy := run_yield (P := P) (args := #[v]) hl (by rw [hrec]; exact hps.symm)
      rw [hrec] at hy
      refine ⟨fn, _, assign, body, hy, roundIn_of_wpIn hfn (hassign _ v W _ ?_)⟩
      clear hy
      refine ⟨_, run_beginRound hl (by rw [hrec]), ?_⟩
      have o2 : Only (with2 (fun _ => False) w.heap.size) W (W.putObj (w.heap.size + 1) (.loop { rec .ready none with state := .busy })) := only_putObj _ (.inr (.inr rfl))
      have hl2 : (W.putObj (w.heap.size + 1) (.loop { rec .ready none with state := .busy })).heap[w.heap.size + 1]? = some (.loop { rec .ready none with state := .busy }) := World.putObj_heap_same hlt
      have hk2 : (W.putObj (w.heap.size + 1) (.loop { rec .ready none with state := .busy })).heap[w.heap.size]? = some (.deferred (some [])) := (World.putObj_heap_other (by omega)).trans hk
      have hsz2 : (W.putObj (w.heap.size + 1) (.loop { rec .ready none with state := .busy })).heap.size = W.heap.size := by simp
      generalize W.putObj (w.heap.size + 1) (.loop { rec .ready none with state := .busy }) = W2 at *
      have hnx1 : ¬ A1 x.2 := fun h => hnx (.inl h)
      have hno1 : ∀ b, with2 (fun _ => False) w.heap.size b → ¬ A1 b := by
        rintro b (h | rfl | rfl)
        · exact h.elim
        · exact hd1
        · exact hl1
      refine wpIn_mono (hbody _ A1 pre x v W2 (hI _ _ _ _ hi (o2.mono hno1)) (fun b hb => by rw [hsz2]; exact hAlt b (.inl hb)) (hv.only o2 fun h => hnx (by rcases h with h | h; exact h.elim; exact .inr h)) hnx1 hlen) ?_
      have fin : ∀ (Z : RowsOf), Stays Z → ∀ (jump : Option Code) (W3 : World), RoundLeft Z A1 pre x W2 W3 →
          ∃ W4, (Instr.endRound (w.heap.size + 1) jump).run P W3 = .ok (.bool jump.isNone) W4 ∧ ∃ A', (∀ b, A' b → b < W4.heap.size) ∧ (∀ b, A' b → with2 A1 w.heap.size b ∨ b = x.2 ∨ W.heap.size ≤ b) ∧ Only (with2 A1 w.heap.size) W W4 ∧
            Loop2 Z (rec (if jump.isNone then .ready else .done) jump) w.heap.size A' (pre ++ [x]) W4 := by
        rintro Z hZ jump W3 ⟨A', ha1, ha2, ho, hz⟩
        have hl3 : W3.heap[w.heap.size + 1]? = some (.loop { rec .ready none with state := .busy }) := by rw [ho.block _ (by omega) hl1]; exact hl2
        have hk3 : W3.heap[w.heap.size]? = some (.deferred (some [])) := by rw [ho.block _ (by omega) hd1]; exact hk2
        have hr := run_endRound (P := P) jump hl3
        have hsz3 := ho.size
        have hdA : ¬ A' w.heap.size := fun h => by
          rcases ha2 _ h with h | h | h
          · exact hd1 h
          · exact hnx (.inr (.inl h.symm))
          · omega
        have hlA : ¬ A' (w.heap.size + 1) := fun h => by
          rcases ha2 _ h with h | h | h
          · exact hl1 h
          · exact hnx (.inr (.inr h.symm))
          · omega
        have e4 : (rec (if jump.isNone then .ready else .done) jump) = { rec .ready none with state := (if jump.isNone then .ready else .done), pending := jump } := by rw [hrec]
        rw [e4]
        refine ⟨_, hr, with2 A' w.heap.size, ?_, ?_, ?_, A', rfl, hdA, hlA, World.putObj_heap_same (by omega), (World.putObj_heap_other (by omega)).trans hk3, hZ _ _ _ _ hz (only_putObj _ hlA)⟩
        · rintro b (h | rfl | rfl)
          · simpa using ha1 b h
          · simp; omega
          · simp; omega
        · rintro b (h | h | h)
          · rcases ha2 b h with h | h | h
            · exact .inl (.inl h)
            · exact .inr (.inl h)
            · exact .inr (.inr (by omega))
          · exact .inl (.inr (.inl h))
          · exact .inl (.inr (.inr h))
        · refine ((o2.mono ?_).trans (ho.mono fun b h => .inl h) fun b h => .inl h).trans (only_putObj (A := with2 A1 w.heap.size) _ (.inr (.inr rfl))) fun b h => .inl h
          rintro b (h | h)
          · exact h.elim
          · exact .inr h
      rintro en a3 W3 hp
      cases en with
      | normal =>
        obtain ⟨W4, hr, A', h1, h2, h3, h4⟩ := fin I hI none W3 hp
        exact ⟨_, _, hr, A', h1, h2, h3, .inl ⟨rfl, h4⟩⟩
      | ret =>
        obtain ⟨W4, hr, A', h1, h2, h3, h4⟩ := fin _ (hIx _) (some .ret) W3 hp
        exact ⟨_, _, hr, A', h1, h2, h3, .inr ⟨rfl, _, h4⟩⟩
      | exit id =>
        obtain ⟨W4, hr, A', h1, h2, h3, h4⟩ := fin _ (hIx _) (some (.exit id)) W3 hp
        exact ⟨_, _, hr, A', h1, h2, h3, .inr ⟨rfl, _, h4⟩⟩
      | goto t =>
        obtain ⟨W4, hr, A', h1, h2, h3, h4⟩ := fin _ (hIx _) (some (.goto t)) W3 hp
        exact ⟨_, _, hr, A', h1, h2, h3, .inr ⟨rfl, _, h4⟩⟩
      | panic ch => exact hp.elim
      | outgrown => exact hp.elim
    · have := hb0.size
      rintro b (h | rfl | rfl)
      · have := hA0 b h; omega
      · omega
      · omega
    · rintro en W2 ⟨⟨v, rfl⟩, A', items, hA', hB2, h⟩
      have fin : ∀ (Z : RowsOf), Stays Z → ∀ (st : LoopState) (pe : Option Code), st ≠ .busy → Loop2 Z (rec st pe) w.heap.size A' items W2 → ∃ W4, (Instr.endLoop (w.heap.size + 1)).run P W2 = .ok pe W4 ∧ ∃ A1, ¬ A1 w.heap.size ∧ Z A1 items W4 ∧ (∀ b, A1 b → lo ≤ b ∧ b < W4.heap.size) ∧ Below lo w0 W4 ∧ W4.heap[w.heap.size]? = some (.deferred (some [])) := by
        rintro Z hZ st pe hst ⟨A1, rfl, h1, h2, h3, h4, h5⟩
        have hr := run_endLoop (P := P) h3 (by rw [hrec]; exact hst)
        have hpe : (rec st pe).pending = pe := by rw [hrec]
        rw [hpe] at hr
        have hsz := hb0.size
        refine ⟨_, hr, A1, h1, hZ _ _ _ _ h5 (only_putObj _ h2), fun b hb => by simpa using hA' b (.inl hb), ?_, (World.putObj_heap_other (by omega)).trans h4⟩
        exact hB2.trans (Only.below (A := fun b => b = w.heap.size + 1) (only_putObj _ rfl) (Nat.le_trans hlo hB2.size) (by rintro b rfl; omega))
      rcases h with ⟨hit, h⟩ | ⟨hit, c, h⟩
      · obtain ⟨W4, hr, A1, h1, h2, h3, h4, h5⟩ := fin I hI _ _ (by simp) h
        exact ⟨none, W4, hr, hdone _ A1 items W4 (Nat.le_refl _) h1 hit h2 h3 h4 h5⟩
      · obtain ⟨W4, hr, A1, h1, h2, h3, h4, h5⟩ := fin (Ix c) (hIx c) _ _ (by simp) h
        exact ⟨some c, W4, hr, hstop _ c A1 items W4 (Nat.le_refl _) h1 hit h2 h3 h4 h5⟩
end Go.Proofs.Ytpgbedaonjfpnaa
