/- Values that may be read, as plain data: rising lists, what traces write, and what is closed. -/
import Derived.Test.YtgaannoghefbbaaDoorValsMath
namespace Go.Proofs.YtgaannoghefbbaaDoor
open Go.RowKit

/-- A list that rises. -/
def Up (l : List Int) : Prop := l.Pairwise (· < ·)
theorem Up.tail {x : Int} {l : List Int} (h : Up (x :: l)) : Up l := (List.pairwise_cons.1 h).2
theorem Up.head {x y : Int} {l : List Int} (h : Up (x :: l)) (hy : y ∈ l) : x < y := (List.pairwise_cons.1 h).1 y hy
/-- Two lists that rise and have the same are the same. -/
theorem up_ext : ∀ {l m : List Int}, Up l → Up m → (∀ x, x ∈ l ↔ x ∈ m) → l = m
  | [], [], _, _, _ => rfl
  | [], y :: m, _, _, h => by have := (h y).2 (by simp); simp at this
  | x :: l, [], _, _, h => by have := (h x).1 (by simp); simp at this
  | x :: l, y :: m, hl, hm, h => by
    have e : x = y := by
      have h1 := (h x).1 (by simp)
      have h2 := (h y).2 (by simp)
      rcases List.mem_cons.1 h1 with e | h1
      · exact e
      · rcases List.mem_cons.1 h2 with e | h2
        · exact e.symm
        · have := hm.head h1
          have := hl.head h2
          omega
    subst e
    rw [up_ext hl.tail hm.tail fun z => ?_]
    have hz := h z
    rw [List.mem_cons, List.mem_cons] at hz
    refine ⟨fun k => ?_, fun k => ?_⟩
    · rcases hz.1 (.inr k) with e | k'
      · have := hl.head k; omega
      · exact k'
    · rcases hz.2 (.inr k) with e | k'
      · have := hm.head k; omega
      · exact k'
/-- With one more, once. -/
def putN : List Int → Int → List Int
  | [], n => [n]
  | x :: l, n => if x < n then x :: putN l n else if x = n then x :: l else n :: x :: l
theorem mem_putN {n y : Int} : ∀ {l : List Int}, y ∈ putN l n ↔ y = n ∨ y ∈ l
  | [] => by simp [putN]
  | x :: l => by
    unfold putN
    split
    · rw [List.mem_cons, mem_putN, List.mem_cons]
      exact ⟨fun h => by rcases h with h | h | h <;> simp [h], fun h => by rcases h with h | h | h <;> simp [h]⟩
    · split
      · rename_i e
        subst e
        rw [List.mem_cons]
        exact ⟨fun h => .inr h, fun h => h.elim .inl id⟩
      · rw [List.mem_cons]
theorem up_putN {n : Int} : ∀ {l : List Int}, Up l → Up (putN l n)
  | [], _ => by simp [putN, Up]
  | x :: l, h => by
    unfold putN
    split
    · rename_i hx
      refine List.pairwise_cons.2 ⟨fun y hy => ?_, up_putN h.tail⟩
      rcases mem_putN.1 hy with rfl | hy
      · exact hx
      · exact h.head hy
    · split
      · exact h
      · refine List.pairwise_cons.2 ⟨fun y hy => ?_, h⟩
        rcases List.mem_cons.1 hy with rfl | hy
        · omega
        · have := h.head hy; omega
theorem putN_len {n : Int} : ∀ {l : List Int}, (putN l n).length ≤ l.length + 1
  | [] => Nat.le_refl _
  | x :: l => by
    unfold putN
    split
    · rw [List.length_cons, List.length_cons]; exact Nat.succ_le_succ putN_len
    · split
      · exact Nat.le_succ _
      · exact Nat.le_refl _
def putsN (l ns : List Int) : List Int := ns.foldl putN l
theorem mem_putsN {y : Int} : ∀ {ns l : List Int}, y ∈ putsN l ns ↔ y ∈ ns ∨ y ∈ l
  | [], l => by simp [putsN]
  | n :: ns, l => by
    show y ∈ putsN (putN l n) ns ↔ _
    rw [mem_putsN, mem_putN, List.mem_cons]
    exact ⟨fun h => by rcases h with h | h | h <;> simp [h], fun h => by rcases h with (h | h) | h <;> simp [h]⟩
theorem up_putsN : ∀ {ns l : List Int}, Up l → Up (putsN l ns)
  | [], _, h => h
  | _ :: ns, _, h => up_putsN (ns := ns) (up_putN h)
theorem putsN_len : ∀ {ns l : List Int}, (putsN l ns).length ≤ l.length + ns.length
  | [], l => Nat.le_refl _
  | n :: ns, l => by
    have h1 : (putsN (putN l n) ns).length ≤ _ := putsN_len
    have h2 : (putN l n).length ≤ l.length + 1 := putN_len
    show (putsN (putN l n) ns).length ≤ _
    rw [List.length_cons]
    omega
theorem putsN_app (l a b : List Int) : putsN l (a ++ b) = putsN (putsN l a) b := List.foldl_append
theorem putsN_same {l ns : List Int} (hl : Up l) (h : ∀ x ∈ ns, x ∈ l) : putsN l ns = l :=
  up_ext (up_putsN hl) hl fun x => by rw [mem_putsN]; exact ⟨fun k => k.elim (h x) id, .inr⟩

/-- What a trace writes; what traces write. -/
def wroteS (s : St) : List Int := (s.evs.filter fun e => e.kd == 2).map Ev.vl
def wroteT (l : List St) : List Int := l.flatMap wroteS
theorem wroteS_len {s : St} (h : s.evs.length ≤ 8) : (wroteS s).length ≤ 8 := by
  unfold wroteS
  rw [List.length_map]
  exact Nat.le_trans (List.length_filter_le _ _) h
theorem wroteT_len : ∀ {l : List St}, (∀ s ∈ l, s.evs.length ≤ 8) → (wroteT l).length ≤ l.length * 8
  | [], _ => Nat.le_refl _
  | s :: l, h => by
    unfold wroteT
    rw [List.flatMap_cons, List.length_append, List.length_cons, Nat.succ_mul]
    have h1 := wroteS_len (h s (by simp))
    have h2 := wroteT_len (l := l) fun t ht => h t (by simp [ht])
    unfold wroteT at h2
    omega
theorem tracesT_evs {th : List Ins} {locs : Int} {l : List Int} {s : St} (h : s ∈ tracesT th locs l) : s.evs.length ≤ 8 := by
  obtain ⟨v, b, rfl, _⟩ := tracesT_mem h
  exact (runT_ok th locs v b).2
theorem wroteT_sub {th : List Ins} {locs : Int} {l m : List Int} (hlm : ∀ x ∈ l, x ∈ m) {y : Int} (h : y ∈ wroteT (tracesT th locs l)) : y ∈ wroteT (tracesT th locs m) := by
  unfold wroteT at h ⊢
  rw [List.mem_flatMap] at h ⊢
  obtain ⟨s, hs, h⟩ := h
  exact ⟨s, tracesT_sub hlm hs, h⟩
/-- Once more: with all that the threads write on these. -/
def nextN (ts : List (List Ins)) (locs : Int) (l : List Int) : List Int := ts.foldl (fun a th => putsN a (wroteT (tracesT th locs l))) l
theorem foldl_puts (locs : Int) (l : List Int) : ∀ (ts : List (List Ins)) (a : List Int), ts.foldl (fun a th => putsN a (wroteT (tracesT th locs l))) a = putsN a (ts.flatMap fun th => wroteT (tracesT th locs l))
  | [], a => rfl
  | th :: ts, a => by rw [List.foldl_cons, foldl_puts, List.flatMap_cons, putsN_app]
theorem nextN_is (ts : List (List Ins)) (locs : Int) (l : List Int) : nextN ts locs l = putsN l (ts.flatMap fun th => wroteT (tracesT th locs l)) := foldl_puts locs l ts l
theorem up_nextN {ts : List (List Ins)} {locs : Int} {l : List Int} (h : Up l) : Up (nextN ts locs l) := by rw [nextN_is]; exact up_putsN h
theorem nextN_has {ts : List (List Ins)} {locs : Int} {l : List Int} {x : Int} (h : x ∈ l) : x ∈ nextN ts locs l := by rw [nextN_is]; exact mem_putsN.2 (.inr h)
theorem nextN_wrote {ts : List (List Ins)} {locs : Int} {l : List Int} {th : List Ins} (ht : th ∈ ts) {x : Int} (h : x ∈ wroteT (tracesT th locs l)) : x ∈ nextN ts locs l := by
  rw [nextN_is]
  exact mem_putsN.2 (.inl (List.mem_flatMap.2 ⟨th, ht, h⟩))
/-- As often as n says, or too many. -/
def closeN (ts : List (List Ins)) (locs : Int) : Nat → List Int → Option (List Int)
  | 0, l => some l
  | n + 1, l => if 8 < (nextN ts locs l).length then none else closeN ts locs n (nextN ts locs l)
theorem up_closeN {ts : List (List Ins)} {locs : Int} : ∀ {n : Nat} {l m : List Int}, Up l → closeN ts locs n l = some m → Up m
  | 0, l, m, hl, h => by cases h; exact hl
  | n + 1, l, m, hl, h => by
    unfold closeN at h
    split at h
    · cases h
    · exact up_closeN (up_nextN hl) h
theorem closeN_has {ts : List (List Ins)} {locs : Int} : ∀ {n : Nat} {l m : List Int} {x : Int}, closeN ts locs n l = some m → x ∈ l → x ∈ m
  | 0, l, m, x, h, hx => by cases h; exact hx
  | n + 1, l, m, x, h, hx => by
    unfold closeN at h
    split at h
    · cases h
    · exact closeN_has h (nextN_has hx)
theorem closeN_len {ts : List (List Ins)} {locs : Int} : ∀ {n : Nat} {l m : List Int}, l.length ≤ 8 → closeN ts locs n l = some m → m.length ≤ 8
  | 0, l, m, hl, h => by cases h; exact hl
  | n + 1, l, m, hl, h => by
    unfold closeN at h
    split at h
    · cases h
    · exact closeN_len (by omega) h
theorem closeN_wrote {ts : List (List Ins)} {locs : Int} {n : Nat} {l m : List Int} {th : List Ins} (ht : th ∈ ts) {x : Int} (h : closeN ts locs (n + 1) l = some m) (hx : x ∈ wroteT (tracesT th locs l)) : x ∈ m := by
  unfold closeN at h
  split at h
  · cases h
  · exact closeN_has h (nextN_wrote ht hx)
/-- What is closed stays as it is. -/
theorem closeN_same {ts : List (List Ins)} {locs : Int} {l : List Int} (hl : l.length ≤ 8) (h : nextN ts locs l = l) : ∀ n, closeN ts locs n l = some l
  | 0 => rfl
  | n + 1 => by unfold closeN; rw [h, if_neg (by omega)]; exact closeN_same hl h n
/-- Without loads it is closed behind one time. -/
theorem nextN_noload {ts : List (List Ins)} {locs : Int} {l : List Int} (hl : Up l) (h0 : ∀ th ∈ ts, loadsN th = 0) : nextN ts locs (nextN ts locs l) = nextN ts locs l := by
  rw [nextN_is ts locs (nextN ts locs l)]
  refine putsN_same (up_nextN hl) fun x hx => ?_
  rw [List.mem_flatMap] at hx
  obtain ⟨th, ht, hx⟩ := hx
  rw [tracesT_noload (m := l) (h0 th ht)] at hx
  exact nextN_wrote ht hx
end Go.Proofs.YtgaannoghefbbaaDoor
