/- Contracts of the document's answers: Put and In. -/
import Derived.Test.YtgaannoghefbbaaDoorValsMath2
import Derived.Test.YtgaannoghefbbaaDoorRegsP
import Derived.Laws.Slices
namespace Go.Proofs.YtgaannoghefbbaaDoor
open Go.RowKit
attribute [local go_sem] Ext.cell Ext.frozen

theorem own_none {α : Type} {A : Nat → Prop} {R : Elem α} {w : World} {base g : Nat} {e : TypeId} (hb : base ≤ g) (h : Blk w g #[] e) : Own A R w base e (.slice (some ⟨g, 0, none⟩) 0 0) [] :=
  ⟨[], ⟨by simp, .inr ⟨g, 0, #[], rfl, hb, h, Nat.le_refl _, by unfold maxLen; omega, by simp, by simp⟩⟩, rfl, fun i h => by simp at h⟩
/-- l[:k] and l[k:]. -/
theorem cuts {α : Type} {R : Elem α} {A : Nat → Prop} {w : World} {q : Option Addr} {l : List α} {d k : Nat} {T e : TypeId} (he : Tryd.prog.elem T = e) (ht : Tryd.prog.underlying T = some (.slice e)) (hs : ∀ w, (Go.sizeOf e).run Tryd.prog w = .ok R.size w) (h : SlA A R w (.slice q l.length d) l) (hk : k ≤ l.length) :
    ∃ a1 a2 c1 c2, (∀ w, (Instr.slice T (.slice q l.length d) none (some (.int .i64 (k : Int))) none).run Tryd.prog w = .ok (.slice a1 (l.take k).length c1) w) ∧
    (∀ w, (Instr.slice T (.slice q l.length d) (some (.int .i64 (k : Int))) none none).run Tryd.prog w = .ok (.slice a2 (l.drop k).length c2) w) ∧ SlA A R w (.slice a1 (l.take k).length c1) (l.take k) ∧ SlA A R w (.slice a2 (l.drop k).length c2) (l.drop k) := by
  have hc := h.cap
  have hs' : ∀ w, (Go.sizeOf (Tryd.prog.elem T)).run Tryd.prog w = .ok R.size w := fun w => by rw [he]; exact hs w
  obtain ⟨p', c', hq, h0, _⟩ := id h
  simp only [Value.slice.injEq, true_and] at hq
  obtain ⟨rfl, rfl⟩ := hq
  refine ⟨q, if d = k then q else q.map (·.add (k * R.size)), d, d - k, fun w => ?_, fun w => ?_, ?_, ?_⟩
  · rw [run_slice_h (ht := by rw [he]; exact ht) (h0 := by omega) (h2 := by omega), hs']
    simp [sliced, Result.andThen, List.length_take, Nat.min_eq_left hk]
    intro _
    cases q <;> simp [Addr.add]
  · rw [run_slice_l (ht := by rw [he]; exact ht) (h0 := by omega) (h1 := by omega), hs']
    simp [sliced, Result.andThen]
  · by_cases h1 : k = 0
    · subst h1
      exact ⟨_, _, rfl, ⟨h0.1, by simp⟩, fun e => absurd rfl e⟩
    · obtain ⟨b, o, rfl, hp⟩ := h.part (i := 0) (k := k) (c' := d) (by omega) (by omega) (by omega)
      simpa [List.length_take, Nat.min_eq_left hk] using hp
  · by_cases h1 : k = l.length
    · subst h1
      simp only [List.drop_length]
      refine ⟨_, _, rfl, ⟨fun e => ?_, by simp⟩, fun e => absurd rfl e⟩
      split at e
      · omega
      · cases q with
        | none => have := h0.1 rfl; omega
        | some a => simp at e
    · obtain ⟨b, o, rfl, hp⟩ := h.part (i := k) (k := l.length - k) (c' := d - k) (by omega) (by omega) (by omega)
      rw [if_neg (by omega)]
      have e : (l.drop k).take (l.length - k) = l.drop k := List.take_of_length_le (by simp)
      rw [e] at hp
      simpa [addr_add] using hp

theorem putN_low {n x : Int} {l r : List Int} (h : l = x :: r) (hc : x < n) : putN l n = x :: putN r n := by subst h; rw [putN, if_pos hc]
theorem putN_eq {n x : Int} {l r : List Int} (h : l = x :: r) (hc : x = n) : putN l n = l := by subst h; rw [putN, if_neg (by omega), if_pos hc]
theorem putN_high {n x : Int} {l r : List Int} (h : l = x :: r) (hc : n < x) : putN l n = n :: l := by subst h; rw [putN, if_neg (by omega), if_neg (by omega)]
theorem take_nextZ {α : Type} {l r : List α} {x : α} {k : Nat} (h : l.drop k = x :: r) : l.take (k + 1) = l.take k ++ [x] := by
  have hx : l[k]? = some x := by have := congrArg (·[0]?) h; simpa using this
  rw [List.take_add_one, hx]; rfl

theorem elemI64 : Tryd.prog.elem 23 = 2 := by kernel_rfl
theorem info_i64z : ∃ i, Tryd.prog.info? 2 = some i ∧ i.zero = some (.int .i64 0) ∧ i.size = 1 ∧ i.bytes = 8 := by
  have h := info_i64
  cases hi : Tryd.prog.info? 2 with
  | none => rw [hi] at h; cases h
  | some i =>
    rw [hi] at h
    simp only [Option.map_some, Option.some.injEq, Prod.mk.injEq] at h
    exact ⟨i, rfl, h.1, h.2.1, h.2.2⟩

set_option maxRecDepth 20000 in
set_option maxHeartbeats 4000000 in
theorem refPutN_any (q : Option Addr) (d : Nat) (l : List Int) (n : Int) (w : World) (hl : Sl IntE w (.slice q l.length d) l) (hn : l.length ≤ 1000000) :
    Calls Tryd.prog 16 #[.slice q l.length d, .int .i64 n] w fun e w' => ∃ v, e = .returned v ∧ Sl IntE w' v (putN l n) ∧ Below w.heap.size w w' := by
  obtain ⟨i0, j1, j2, j4, j5⟩ := info_i64z
  have J1 : Hid _ := j1
  have J2 : Hid _ := j2
  have J4 : Hid _ := j4
  have J5 : Hid _ := j5
  clear j1 j2 j4 j5
  go_enter Tryd.func16, Tryd.ntmps16
  go_wp2
  go_loop [5] (fun i => ∃ k : Nat, k ≤ l.length ∧ i = .int .i64 k ∧ l.take k ++ putN (l.drop k) n = putN l n) (fun i => l.length - (intOf i).toNat)
  case atStart => exact ⟨0, Nat.zero_le _, rfl, by simp⟩
  case round =>
    obtain ⟨k, hk, rfl, hF⟩ := hrel
    have HF : Hid _ := hF
    clear hF
    by_cases hlt : k < l.length
    · obtain ⟨b2, o2, rfl, g1⟩ := (ints_at hl).2 k hlt
      generalize hy : l[k] = y at g1
      have HY : Hid (l.drop k = y :: l.drop (k + 1)) := by rw [← hy]; exact drop_at hlt
      clear hy
      have hlt' : (k : Int) < (l.length : Int) := by omega
      by_cases hc : y < n
      · go_wp2
        go_round
        case rel => exact ⟨k + 1, by omega, by go_num, by have := HF.out; rw [putN_low HY.out hc] at this; rw [take_nextZ HY.out, List.append_assoc]; exact this⟩
        case measure => simp [intOf]; omega
      · by_cases he : y = n
        · have heb : (y == n) = true := by simp [he]
          go_wp2
          go_ret
          exact ⟨_, rfl, by rw [← HF.out, putN_eq HY.out he, List.take_append_drop]; exact hl, Below.refl _ _⟩
        · have heb : (y == n) = false := by simp [he]
          obtain ⟨a1, a2, d1, d2, S1, S2, hs1, hs2⟩ := cuts (k := k) elemI64 Tryd.underlying23 Tryd.sizeOf2 hl hk
          have kk : Blk (w.alloc (.cells #[] 2)) w.heap.size #[] 2 := Blk.new
          have hb4 := (Below.refl w.heap.size w).alloc (Nat.le_refl _) (.cells #[] 2)
          have HL1 : Hid ((l.take k).length ≤ 1000000) := show (l.take k).length ≤ 1000000 by rw [List.length_take]; omega
          have HL2 : Hid ((l.drop k).length ≤ 1000000) := show (l.drop k).length ≤ 1000000 by rw [List.length_drop]; omega
          have HG : Hid (l.take k ++ [n] ++ l.drop k = putN l n) := by rw [← HF.out, putN_high HY.out (by omega), List.append_assoc]; rfl
          generalize l.take k = t1 at *
          generalize l.drop k = t2 at *
          have F1 := trivial
          go_wp2_with (first
            | (at_builtin; clear F1; refine wpList_app (R := IntE) (A := F0) (B := fun _ => True) (xs := []) (ys := t1) (by rfl) (.tmp 34) (.tmp 37) 23 2 i0 (.int .i64 0) 8 (by rfl) Tryd.underlying23 J1.out J2.out J4.out J5.out (by rfl) w.heap.size (.slice (some ⟨w.heap.size, 0, none⟩) 0 0) (.slice a1 t1.length d1) (by rfl) (by rfl) (own_none (Nat.le_refl _) kk) (hs1.keep hb4) (fun _ _ _ h => h) (by have := HL1.out; simp only [List.length_nil]; omega) (by decide) (by simp) ?_; intro p6 c6 w6 hO6 hg6 _; simp only [List.nil_append] at hO6 ⊢; have hb6 : Below w.heap.size w w6 := hb4.grown hg6 (by simp) (fun k hk => by simp [Value.ownBlock] at hk; omega); have F2 := trivial)
            | (at_builtin; clear F2; refine wpList_push (R := IntE) (xs := t1) (x := n) (by rfl) (.tmp 39) (.tmp 41) 23 2 i0 (.int .i64 0) 8 (by rfl) Tryd.underlying23 J1.out J2.out J4.out J5.out (by rfl) w.heap.size (.slice p6 t1.length c6) w6.heap.size (by rfl) (by rfl) (hO6.keep ((Below.refl _ _).alloc (Nat.le_refl _) _)) [.int .i64 n] (fun _ _ => rfl) (fun _ _ _ _ _ h => h) (fun j u hu => by rw [Blk.cell Blk.new]; simpa using hu) HL1.out (by decide) (by have := hb6.size; simp; omega) ?_; intro p7 c7 w7 hO7 hg7 _; have hb7 : Below w.heap.size w w7 := (hb6.alloc hb6.size _).grown hg7 (by have := hb6.size; simp; omega) (fun k hk => (hO6.lt k hk).1); obtain ⟨t3, ht3⟩ : ∃ t3, t1 ++ [n] = t3 := ⟨_, rfl⟩; have HL3 : Hid (t3.length = t1.length + 1) := (by rw [← ht3, List.length_append, List.length_singleton]; exact rfl); rw [ht3, ← HL3.out] at hO7; rw [← HL3.out]; have HG3 : Hid (t3 ++ t2 = putN l n) := ht3 ▸ HG; clear ht3; have F3 := trivial)
            | (at_builtin; clear F3; refine wpList_app (R := IntE) (A := F0) (B := fun _ => True) (xs := t3) (ys := t2) (by rfl) (.tmp 43) (.tmp 46) 23 2 i0 (.int .i64 0) 8 (by rfl) Tryd.underlying23 J1.out J2.out J4.out J5.out (by rfl) w.heap.size (.slice p7 t3.length c7) (.slice a2 t2.length d2) (by rfl) (by rfl) hO7 (hs2.keep hb7) (fun _ _ _ h => h) (by have := HL3.out; have := HL1.out; have := HL2.out; omega) (by decide) (by have := hb7.size; omega) ?_; intro p8 c8 w8 hO8 hg8 _; have hb8 : Below w.heap.size w w8 := hb7.grown hg8 (by have := hb7.size; omega) (fun k hk => (hO7.lt k hk).1)))
          go_ret
          exact ⟨_, rfl, by have e := hO8.sl.any; rw [List.length_append] at e; rw [← HG3.out]; exact e, hb8⟩
    · have hlt' : ¬ (k : Int) < (l.length : Int) := by omega
      obtain ⟨a1, a2, d1, d2, S1, S2, hs1, hs2⟩ := cuts (k := k) elemI64 Tryd.underlying23 Tryd.sizeOf2 hl hk
      have kk : Blk (w.alloc (.cells #[] 2)) w.heap.size #[] 2 := Blk.new
      have hb4 := (Below.refl w.heap.size w).alloc (Nat.le_refl _) (.cells #[] 2)
      have HL1 : Hid ((l.take k).length ≤ 1000000) := show (l.take k).length ≤ 1000000 by rw [List.length_take]; omega
      have HL2 : Hid ((l.drop k).length ≤ 1000000) := show (l.drop k).length ≤ 1000000 by rw [List.length_drop]; omega
      have HG : Hid (l.take k ++ [n] ++ l.drop k = putN l n) := by have e := HF.out; rw [List.drop_of_length_le (show l.length ≤ k by omega)] at e ⊢; rw [← e, List.append_nil]; rfl
      generalize l.take k = t1 at *
      generalize l.drop k = t2 at *
      have F1 := trivial
      go_wp2_with (first
        | (at_builtin; clear F1; refine wpList_app (R := IntE) (A := F0) (B := fun _ => True) (xs := []) (ys := t1) (by rfl) (.tmp 34) (.tmp 37) 23 2 i0 (.int .i64 0) 8 (by rfl) Tryd.underlying23 J1.out J2.out J4.out J5.out (by rfl) w.heap.size (.slice (some ⟨w.heap.size, 0, none⟩) 0 0) (.slice a1 t1.length d1) (by rfl) (by rfl) (own_none (Nat.le_refl _) kk) (hs1.keep hb4) (fun _ _ _ h => h) (by have := HL1.out; simp only [List.length_nil]; omega) (by decide) (by simp) ?_; intro p6 c6 w6 hO6 hg6 _; simp only [List.nil_append] at hO6 ⊢; have hb6 : Below w.heap.size w w6 := hb4.grown hg6 (by simp) (fun k hk => by simp [Value.ownBlock] at hk; omega); have F2 := trivial)
        | (at_builtin; clear F2; refine wpList_push (R := IntE) (xs := t1) (x := n) (by rfl) (.tmp 39) (.tmp 41) 23 2 i0 (.int .i64 0) 8 (by rfl) Tryd.underlying23 J1.out J2.out J4.out J5.out (by rfl) w.heap.size (.slice p6 t1.length c6) w6.heap.size (by rfl) (by rfl) (hO6.keep ((Below.refl _ _).alloc (Nat.le_refl _) _)) [.int .i64 n] (fun _ _ => rfl) (fun _ _ _ _ _ h => h) (fun j u hu => by rw [Blk.cell Blk.new]; simpa using hu) HL1.out (by decide) (by have := hb6.size; simp; omega) ?_; intro p7 c7 w7 hO7 hg7 _; have hb7 : Below w.heap.size w w7 := (hb6.alloc hb6.size _).grown hg7 (by have := hb6.size; simp; omega) (fun k hk => (hO6.lt k hk).1); obtain ⟨t3, ht3⟩ : ∃ t3, t1 ++ [n] = t3 := ⟨_, rfl⟩; have HL3 : Hid (t3.length = t1.length + 1) := (by rw [← ht3, List.length_append, List.length_singleton]; exact rfl); rw [ht3, ← HL3.out] at hO7; rw [← HL3.out]; have HG3 : Hid (t3 ++ t2 = putN l n) := ht3 ▸ HG; clear ht3; have F3 := trivial)
        | (at_builtin; clear F3; refine wpList_app (R := IntE) (A := F0) (B := fun _ => True) (xs := t3) (ys := t2) (by rfl) (.tmp 43) (.tmp 46) 23 2 i0 (.int .i64 0) 8 (by rfl) Tryd.underlying23 J1.out J2.out J4.out J5.out (by rfl) w.heap.size (.slice p7 t3.length c7) (.slice a2 t2.length d2) (by rfl) (by rfl) hO7 (hs2.keep hb7) (fun _ _ _ h => h) (by have := HL3.out; have := HL1.out; have := HL2.out; omega) (by decide) (by have := hb7.size; omega) ?_; intro p8 c8 w8 hO8 hg8 _; have hb8 : Below w.heap.size w w8 := hb7.grown hg8 (by have := hb7.size; omega) (fun k hk => (hO7.lt k hk).1)))
      go_ret
      exact ⟨_, rfl, by have e := hO8.sl.any; rw [List.length_append] at e; rw [← HG3.out]; exact e, hb8⟩
end Go.Proofs.YtgaannoghefbbaaDoor
