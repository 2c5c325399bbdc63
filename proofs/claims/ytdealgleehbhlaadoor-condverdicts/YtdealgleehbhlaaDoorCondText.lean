/- Contracts of cond's Text and of what it calls. -/
import Derived.Test.YtdealgleehbhlaaDoorCondRep
import Derived.Test.YtdealgleehbhlaaDoorBuild
namespace Go.Proofs.YtdealgleehbhlaaDoor
open Go.RowKit

/-- An atom's numbers are int64s. -/
def Asz (a : Atm) : Prop := in64 a.thr ∧ in64 a.pos ∧ in64 a.val
theorem wordL_len {a : Atm} (h : Asz a) : (wordL a).length ≤ 67 := by
  have h1 := itoa_len h.1
  have h2 := itoa_len h.2.1
  have h3 := itoa_len h.2.2
  unfold wordL
  split <;> cases a.neg <;> simp <;> omega
theorem andL_len {l : List Atm} : ∀ {first}, (∀ a ∈ l, Asz a) → (andL first l).length ≤ 68 * l.length := by
  induction l with
  | nil => intro first _; simp [andL]
  | cons a l ih =>
    intro first h
    have h1 := wordL_len (h a (by simp))
    have h2 := ih (first := false) (fun a ha => h a (by simp [ha]))
    cases first <;> simp [andL] <;> omega

/-- What stands while the Builder in b is written to: it holds m; the box of an atom is as it was. -/
structure WA (b k : Nat) (w : World) (a : Atm) (w1 : World) (m : List UInt8) : Prop where
  kept : KeptB b w w1
  blk : Blk w1 k #[.int .i64 a.thr, .int .i64 a.pos, .int .i64 a.val, .bool a.neg] 49
  pow : Pow w1
  bld : Bld w1 b m
theorem WA.cells {b k : Nat} {w w1 : World} {t p v : Int} {n : Bool} {m : List UInt8} (h : WA b k w ⟨t, p, v, n⟩ w1 m) : w1.cell? ⟨k, 0, none⟩ = some (.int .i64 t) ∧ w1.cell? ⟨k, 1, none⟩ = some (.int .i64 p) ∧ w1.cell? ⟨k, 2, none⟩ = some (.int .i64 v) ∧ w1.cell? ⟨k, 3, none⟩ = some (.bool n) :=
  ⟨h.blk.cell 0, h.blk.cell 1, h.blk.cell 2, h.blk.cell 3⟩
theorem WA.ws {b k : Nat} {w w1 : World} {a : Atm} {m : List UInt8} (h : WA b k w a w1 m) (hg : gTop < b) (hk : k ≠ b) (r : List UInt8) (hl : m.length + r.length ≤ 1000000) :
    Calls Tryd.prog 27 #[.pointer (some ⟨b, 0, none⟩), .string ⟨r.toArray⟩] w1 fun e w' => e = .returned (.tuple #[.int .i64 r.length, .nilIface]) ∧ WA b k w a w' (m ++ r) :=
  (WriteString_any b m r w1 h.bld hl).mono fun _ _ ⟨h1, h2, h3⟩ => ⟨h1, h.kept.trans h3, h3.blk h.blk hk (by decide), h.pow.belowAt h3.below hg, h2⟩
theorem WA.keep {b k : Nat} {w w1 w2 : World} {a : Atm} {m : List UInt8} (h : WA b k w a w1 m) (hb : Below w1.heap.size w1 w2) : WA b k w a w2 m :=
  ⟨h.kept.trans (KeptB.of hb (Nat.le_of_lt h.bld.lt)), h.blk.keep hb, h.pow.below hb, h.bld.keep hb⟩
theorem WA.itoa {b k : Nat} {w w1 : World} {a : Atm} {m : List UInt8} (h : WA b k w a w1 m) {n : Int} (hn : in64 n) :
    Calls Tryd.prog 52 #[.int .i64 n] w1 fun e w' => e = .returned (.string ⟨(Lib.itoa n).toArray⟩) ∧ WA b k w a w' m :=
  (Itoa_any n hn w1 h.pow).mono fun _ _ ⟨h1, h2⟩ => ⟨h1, h.keep h2⟩
theorem WA.fmt {b k : Nat} {w w1 : World} {a : Atm} {m : List UInt8} (h : WA b k w a w1 m) {n : Int} (hn : in64 n) :
    Calls Tryd.prog 53 #[.int .i64 n, .int .i64 10] w1 fun e w' => e = .returned (.string ⟨(Lib.itoa n).toArray⟩) ∧ WA b k w a w' m :=
  (FormatInt_any n hn w1 h.pow).mono fun _ _ ⟨h1, h2⟩ => ⟨h1, h.keep h2⟩

set_option maxHeartbeats 1000000 in
theorem writeAtom_any (b : Nat) (l : List UInt8) (a : Atm) (w : World) (E : Pow w) (ha : Asz a) (h : Bld w b l) (hlen : l.length ≤ 900000) (hg : gTop < b) :
    Calls Tryd.prog 41 #[.pointer (some ⟨b, 0, none⟩), a.v] w fun e w' => e = .returned (.tuple #[]) ∧ Bld w' b (l ++ wordL a) ∧ KeptB b w w' := by
  obtain ⟨t, p, v, n⟩ := a
  obtain ⟨h1, h2, h3⟩ : in64 t ∧ in64 p ∧ in64 v := ha
  have l1 := itoa_len h1
  have l2 := itoa_len h2
  have l3 := itoa_len h3
  have hb0 := (Below.refl w.heap.size w).alloc (Nat.le_refl _) (.cells #[.int .i64 t, .int .i64 p, .int .i64 v, .bool n] 49)
  have hbw := h.lt
  have S : WA b w.heap.size w ⟨t, p, v, n⟩ (w.alloc (.cells #[.int .i64 t, .int .i64 p, .int .i64 v, .bool n] 49)) l := ⟨KeptB.of hb0 (Nat.le_of_lt hbw), Blk.new, E.below hb0, h.keep hb0⟩
  have hne : w.heap.size ≠ b := by omega
  unfold Atm.v
  dsimp only
  clear h E hb0
  have E9 : wordL ⟨t, p, v, n⟩ = (if t = -1 then [120] else Lib.itoa t ++ [58]) ++ Lib.itoa p ++ (bif n then [33] else []) ++ [61] ++ Lib.itoa v := rfl
  by_cases ht : t = -1
  · subst ht
    rw [if_pos rfl] at E9
    have hh : ((-1 : Int) == -1) = true := rfl
    cases n
    all_goals
      have E9 : Hid _ := E9
      go_enter Tryd.func41, Tryd.ntmps41
      go_wp2_with (first
        | (go_at_call 27; refine (S.ws hg hne _ (by first | omega | (simp; omega))).mono ?_; rintro e w1 ⟨rfl, S'⟩; clear S; have S := S'; clear S'; obtain ⟨f0, f1, f2, f3⟩ := S.cells)
        | (go_at_call 52; refine (S.itoa h2).mono ?_; rintro e w1 ⟨rfl, S'⟩; clear S; have S := S'; clear S'; obtain ⟨f0, f1, f2, f3⟩ := S.cells)
        | (go_at_call 53; refine (S.fmt h3).mono ?_; rintro e w1 ⟨rfl, S'⟩; clear S; have S := S'; clear S'; obtain ⟨f0, f1, f2, f3⟩ := S.cells))
      go_end0
      refine ⟨rfl, ?_, S.kept⟩
      rw [E9.out]
      have := S.bld
      simpa using this
  · rw [if_neg ht] at E9
    have hh : (t == -1) = false := by simpa using ht
    cases n
    all_goals
      have E9 : Hid _ := E9
      go_enter Tryd.func41, Tryd.ntmps41
      go_wp2_with (first
        | (go_at_call 27; refine (S.ws hg hne _ (by first | omega | (simp; omega))).mono ?_; rintro e w1 ⟨rfl, S'⟩; clear S; have S := S'; clear S'; obtain ⟨f0, f1, f2, f3⟩ := S.cells)
        | (go_at_call 52; refine (S.itoa (by assumption)).mono ?_; rintro e w1 ⟨rfl, S'⟩; clear S; have S := S'; clear S'; obtain ⟨f0, f1, f2, f3⟩ := S.cells)
        | (go_at_call 53; refine (S.fmt h3).mono ?_; rintro e w1 ⟨rfl, S'⟩; clear S; have S := S'; clear S'; obtain ⟨f0, f1, f2, f3⟩ := S.cells))
      go_end0
      refine ⟨rfl, ?_, S.kept⟩
      rw [E9.out]
      have := S.bld
      simpa using this
end Go.Proofs.YtdealgleehbhlaaDoor
