/- Outcomes and conditions, as plain data: which of two outcomes is lower, sets of outcomes, what a condition says of them, its text. No program. -/
import Derived.Test.YtdealgleehbhlaaDoorFigs
namespace Go.Proofs.YtdealgleehbhlaaDoor

/-- An outcome. -/
structure Out where
  regs : List (List Int)
  mem : List Int

theorem Out.ext' {a b : Out} (h1 : a.regs = b.regs) (h2 : a.mem = b.mem) : a = b := by cases a; cases b; simp_all

/-- Which of two lists is lower: -1, 0, 1. -/
def cmpL : List Int → List Int → Int
  | [], [] => 0
  | [], _ :: _ => -1
  | _ :: _, [] => 1
  | x :: a, y :: b => if x < y then -1 else if y < x then 1 else cmpL a b
def cmpR : List (List Int) → List (List Int) → Int
  | [], [] => 0
  | [], _ :: _ => -1
  | _ :: _, [] => 1
  | x :: a, y :: b => if cmpL x y ≠ 0 then cmpL x y else cmpR a b
def cmpO (a b : Out) : Int := if cmpR a.regs b.regs ≠ 0 then cmpR a.regs b.regs else cmpL a.mem b.mem

theorem cmpL_range : ∀ a b, cmpL a b = -1 ∨ cmpL a b = 0 ∨ cmpL a b = 1
  | [], [] => by simp [cmpL]
  | [], _ :: _ => by simp [cmpL]
  | _ :: _, [] => by simp [cmpL]
  | x :: a, y :: b => by
    have := cmpL_range a b
    simp only [cmpL]
    split
    · simp
    · split
      · simp
      · exact this
theorem cmpR_range : ∀ a b, cmpR a b = -1 ∨ cmpR a b = 0 ∨ cmpR a b = 1
  | [], [] => by simp [cmpR]
  | [], _ :: _ => by simp [cmpR]
  | _ :: _, [] => by simp [cmpR]
  | x :: a, y :: b => by
    have := cmpR_range a b
    have := cmpL_range x y
    simp only [cmpR]
    split <;> assumption
theorem cmpO_range (a b : Out) : cmpO a b = -1 ∨ cmpO a b = 0 ∨ cmpO a b = 1 := by
  have := cmpR_range a.regs b.regs
  have := cmpL_range a.mem b.mem
  unfold cmpO
  split <;> assumption
theorem cmpL_eq : ∀ {a b}, cmpL a b = 0 ↔ a = b
  | [], [] => by simp [cmpL]
  | [], _ :: _ => by simp [cmpL]
  | _ :: _, [] => by simp [cmpL]
  | x :: a, y :: b => by
    have ih := cmpL_eq (a := a) (b := b)
    simp only [cmpL, List.cons.injEq]
    split
    · constructor
      · intro h; cases h
      · rintro ⟨rfl, _⟩; omega
    · split
      · constructor
        · intro h; cases h
        · rintro ⟨rfl, _⟩; omega
      · rw [ih]
        constructor
        · intro h; exact ⟨by omega, h⟩
        · exact fun h => h.2
theorem cmpR_eq : ∀ {a b}, cmpR a b = 0 ↔ a = b
  | [], [] => by simp [cmpR]
  | [], _ :: _ => by simp [cmpR]
  | _ :: _, [] => by simp [cmpR]
  | x :: a, y :: b => by
    have ih := cmpR_eq (a := a) (b := b)
    have h0 := cmpL_eq (a := x) (b := y)
    simp only [cmpR, List.cons.injEq]
    split
    · rename_i h
      constructor
      · intro e; exact absurd e h
      · rintro ⟨e, _⟩; exact absurd (h0.2 e) h
    · rename_i h
      have h : cmpL x y = 0 := Classical.byContradiction h
      rw [ih]
      exact ⟨fun e => ⟨h0.1 h, e⟩, fun e => e.2⟩
theorem cmpO_eq {a b : Out} : cmpO a b = 0 ↔ a = b := by
  have h1 := cmpR_eq (a := a.regs) (b := b.regs)
  have h2 := cmpL_eq (a := a.mem) (b := b.mem)
  unfold cmpO
  split
  · rename_i h
    constructor
    · intro e; exact absurd e h
    · rintro rfl; exact absurd (h1.2 rfl) h
  · rename_i h
    have h : cmpR a.regs b.regs = 0 := Classical.byContradiction h
    rw [h2]
    exact ⟨fun e => Out.ext' (h1.1 h) e, fun e => by rw [e]⟩
theorem cmpL_swap : ∀ a b, cmpL a b = -cmpL b a
  | [], [] => by simp [cmpL]
  | [], _ :: _ => by simp [cmpL]
  | _ :: _, [] => by simp [cmpL]
  | x :: a, y :: b => by
    have ih := cmpL_swap a b
    simp only [cmpL]
    by_cases h1 : x < y
    · rw [if_pos h1, if_neg (by omega), if_pos h1]
    · by_cases h2 : y < x
      · rw [if_neg h1, if_pos h2, if_pos h2]; rfl
      · rw [if_neg h1, if_neg h2, if_neg h2, if_neg h1]; exact ih
theorem cmpR_swap : ∀ a b, cmpR a b = -cmpR b a
  | [], [] => by simp [cmpR]
  | [], _ :: _ => by simp [cmpR]
  | _ :: _, [] => by simp [cmpR]
  | x :: a, y :: b => by
    have ih := cmpR_swap a b
    have h0 := cmpL_swap x y
    simp only [cmpR]
    by_cases h : cmpL x y = 0
    · rw [if_neg (by simpa using h), if_neg (by simp; omega)]; exact ih
    · rw [if_pos h, if_pos (by omega)]; exact h0
theorem cmpO_swap (a b : Out) : cmpO a b = -cmpO b a := by
  have h1 := cmpR_swap a.regs b.regs
  have h2 := cmpL_swap a.mem b.mem
  unfold cmpO
  by_cases h : cmpR a.regs b.regs = 0
  · rw [if_neg (by simpa using h), if_neg (by simp; omega)]; exact h2
  · rw [if_pos h, if_pos (by omega)]; exact h1
theorem cmpL_trans : ∀ {a b c}, cmpL a b = -1 → cmpL b c = -1 → cmpL a c = -1
  | [], [], c, h, _ => by simp [cmpL] at h
  | [], _ :: _, [], _, h => by simp [cmpL] at h
  | [], _ :: _, _ :: _, _, _ => by simp [cmpL]
  | _ :: _, [], c, h, _ => by simp [cmpL] at h
  | _ :: _, _ :: _, [], _, h => by simp [cmpL] at h
  | x :: a, y :: b, z :: c, h1, h2 => by
    have ih := cmpL_trans (a := a) (b := b) (c := c)
    simp only [cmpL] at h1 h2 ⊢
    by_cases p1 : x < y
    · by_cases p2 : y < z
      · rw [if_pos (by omega)]
      · rw [if_neg p2] at h2
        by_cases p3 : z < y
        · rw [if_pos p3] at h2; cases h2
        · rw [if_pos (by omega)]
    · rw [if_neg p1] at h1
      by_cases p3 : y < x
      · rw [if_pos p3] at h1; cases h1
      · rw [if_neg p3] at h1
        by_cases p2 : y < z
        · rw [if_pos (by omega)]
        · rw [if_neg p2] at h2
          by_cases p4 : z < y
          · rw [if_pos p4] at h2; cases h2
          · rw [if_neg p4] at h2
            rw [if_neg (by omega), if_neg (by omega)]
            exact ih h1 h2
theorem cmpR_trans : ∀ {a b c}, cmpR a b = -1 → cmpR b c = -1 → cmpR a c = -1
  | [], [], c, h, _ => by simp [cmpR] at h
  | [], _ :: _, [], _, h => by simp [cmpR] at h
  | [], _ :: _, _ :: _, _, _ => by simp [cmpR]
  | _ :: _, [], c, h, _ => by simp [cmpR] at h
  | _ :: _, _ :: _, [], _, h => by simp [cmpR] at h
  | x :: a, y :: b, z :: c, h1, h2 => by
    have ih := cmpR_trans (a := a) (b := b) (c := c)
    simp only [cmpR] at h1 h2 ⊢
    by_cases p1 : cmpL x y = 0
    · have e := cmpL_eq.1 p1
      subst e
      rw [if_neg (by simpa using p1)] at h1
      by_cases p2 : cmpL x z = 0
      · rw [if_neg (by simpa using p2)] at h2 ⊢
        exact ih h1 h2
      · rw [if_pos p2] at h2 ⊢
        exact h2
    · rw [if_pos p1] at h1
      by_cases p2 : cmpL y z = 0
      · have e := cmpL_eq.1 p2
        subst e
        rw [if_pos p1]; exact h1
      · rw [if_pos p2] at h2
        have := cmpL_trans h1 h2
        rw [if_pos (by omega)]; exact this
theorem cmpO_trans {a b c : Out} (h1 : cmpO a b = -1) (h2 : cmpO b c = -1) : cmpO a c = -1 := by
  unfold cmpO at *
  by_cases p1 : cmpR a.regs b.regs = 0
  · rw [if_neg (by simpa using p1)] at h1
    have e := cmpR_eq.1 p1
    rw [e]
    by_cases p2 : cmpR b.regs c.regs = 0
    · rw [if_neg (by simpa using p2)] at h2 ⊢
      exact cmpL_trans h1 h2
    · rw [if_pos p2] at h2 ⊢; exact h2
  · rw [if_pos p1] at h1
    by_cases p2 : cmpR b.regs c.regs = 0
    · have e := cmpR_eq.1 p2
      rw [← e, if_pos p1]; exact h1
    · rw [if_pos p2] at h2
      have := cmpR_trans h1 h2
      rw [if_pos (by omega)]; exact this
theorem cmpO_self (a : Out) : cmpO a a = 0 := cmpO_eq.2 rfl

/-- Rising, each once. -/
def rises : List Out → Prop
  | [] => True
  | a :: l => (∀ b ∈ l, cmpO a b = -1) ∧ rises l
/-- A list that rises, with one more. -/
def putO (o : Out) : List Out → List Out
  | [] => [o]
  | a :: l => if cmpO a o = -1 then a :: putO o l else if cmpO a o = 0 then a :: l else o :: a :: l
def setO : List Out → List Out → List Out
  | acc, [] => acc
  | acc, o :: l => setO (putO o acc) l
theorem put_mem {o x : Out} : ∀ {l}, x ∈ putO o l ↔ x = o ∨ x ∈ l
  | [] => by simp [putO]
  | a :: l => by
    have ih := put_mem (o := o) (x := x) (l := l)
    simp only [putO]
    split
    · simp only [List.mem_cons, ih]
      constructor
      · rintro (h | h | h)
        · exact .inr (.inl h)
        · exact .inl h
        · exact .inr (.inr h)
      · rintro (h | h | h)
        · exact .inr (.inl h)
        · exact .inl h
        · exact .inr (.inr h)
    · split
      · rename_i h
        have e := cmpO_eq.1 h
        subst e
        simp only [List.mem_cons]
        constructor
        · exact fun h => .inr h
        · rintro (h | h)
          · exact .inl h
          · exact h
      · simp only [List.mem_cons]
theorem put_rises {o : Out} : ∀ {l}, rises l → rises (putO o l)
  | [], _ => by simp [putO, rises]
  | a :: l, h => by
    have ih := put_rises (o := o) h.2
    simp only [putO]
    split
    · rename_i h1
      refine ⟨fun b hb => ?_, ih⟩
      rcases put_mem.1 hb with rfl | hb
      · exact h1
      · exact h.1 b hb
    · split
      · exact h
      · rename_i h1 h2
        have h3 : cmpO o a = -1 := by
          have := cmpO_swap o a
          have := cmpO_range a o
          omega
        refine ⟨fun b hb => ?_, h⟩
        simp only [List.mem_cons] at hb
        rcases hb with rfl | hb
        · exact h3
        · exact cmpO_trans h3 (h.1 b hb)
theorem set_rises : ∀ {l acc}, rises acc → rises (setO acc l)
  | [], _, h => h
  | o :: l, acc, h => set_rises (l := l) (acc := putO o acc) (put_rises h)
theorem set_mem {x : Out} : ∀ {l acc}, x ∈ setO acc l ↔ x ∈ acc ∨ x ∈ l
  | [], acc => by simp [setO]
  | o :: l, acc => by
    rw [setO, set_mem, put_mem]
    simp only [List.mem_cons]
    constructor
    · rintro ((h | h) | h)
      · exact .inr (.inl h)
      · exact .inl h
      · exact .inr (.inr h)
    · rintro (h | h | h)
      · exact .inl (.inr h)
      · exact .inl (.inl h)
      · exact .inr h
theorem rises_head {a : Out} {l : List Out} (h : rises (a :: l)) {x : Out} (hx : x ∈ a :: l) : cmpO a x = 0 ∨ cmpO a x = -1 := by
  simp only [List.mem_cons] at hx
  rcases hx with rfl | hx
  · exact .inl (cmpO_self _)
  · exact .inr (h.1 x hx)
/-- Two lists that rise and have the same are the same. -/
theorem rises_same : ∀ {a b : List Out}, rises a → rises b → (∀ x, x ∈ a ↔ x ∈ b) → a = b
  | [], [], _, _, _ => rfl
  | [], y :: b, _, _, h => absurd ((h y).2 (by simp)) (by simp)
  | x :: a, [], _, _, h => absurd ((h x).1 (by simp)) (by simp)
  | x :: a, y :: b, ha, hb, h => by
    have e : x = y := by
      have h1 := rises_head ha ((h y).2 (by simp))
      have h2 := rises_head hb ((h x).1 (by simp))
      have h3 := cmpO_swap x y
      rcases h1 with h1 | h1
      · exact cmpO_eq.1 h1
      · rcases h2 with h2 | h2
        · exact (cmpO_eq.1 h2).symm
        · omega
    subst e
    have ne : ∀ {l : List Out}, rises (x :: l) → x ∉ l := fun hl hx => by
      have h1 := hl.1 x hx
      have h2 := cmpO_self x
      omega
    congr 1
    refine rises_same ha.2 hb.2 fun z => ?_
    have hz := h z
    simp only [List.mem_cons] at hz
    constructor
    · intro hm
      rcases hz.1 (.inr hm) with rfl | h'
      · exact absurd hm (ne ha)
      · exact h'
    · intro hm
      rcases hz.2 (.inr hm) with rfl | h'
      · exact absurd hm (ne hb)
      · exact h'
/-- Whatever rises and has the same as l, is its set. -/
theorem set_only {l s : List Out} (h : rises s) (hm : ∀ x, x ∈ s ↔ x ∈ l) : s = setO [] l :=
  rises_same h (set_rises (by trivial)) fun x => by rw [hm, set_mem]; simp
theorem set_of_rises {l : List Out} (h : rises l) : setO [] l = l := (set_only h fun _ => Iff.rfl).symm
theorem set_again (l : List Out) : setO [] (setO [] l) = setO [] l := set_of_rises (set_rises (by trivial))
theorem set_parts (a b : List Out) : setO [] (a ++ b) = setO [] (setO [] b ++ setO [] a) :=
  set_only (set_rises (by trivial)) fun x => by
    simp only [set_mem, List.mem_append, List.not_mem_nil, false_or]
    exact or_comm

/-- An atom: what a register, or a place of memory, is, or isn't. -/
structure Atm where
  thr : Int
  pos : Int
  val : Int
  neg : Bool
def atL (l : List Int) (i : Int) : Int := if i < 0 then 0 else l.getD i.toNat 0
def valO (a : Atm) (o : Out) : Int := if a.thr = -1 then atL o.mem a.pos else if a.thr < 0 then 0 else atL (o.regs.getD a.thr.toNat []) a.pos
def holdsB (a : Atm) (o : Out) : Bool := bif a.neg then !(valO a o == a.val) else valO a o == a.val
def evalB (ls : List (List Atm)) (o : Out) : Bool := ls.any fun l => l.all fun a => holdsB a o
def verdictB (all : Bool) (ls : List (List Atm)) (os : List Out) : Bool := bif all then os.all (evalB ls) else os.any (evalB ls)

/-- Whom a text is of: the words of a condition. -/
def wordL (a : Atm) : List UInt8 := (if a.thr = -1 then [120] else Lib.itoa a.thr ++ [58]) ++ Lib.itoa a.pos ++ (bif a.neg then [33] else []) ++ [61] ++ Lib.itoa a.val
def andL : Bool → List Atm → List UInt8
  | _, [] => []
  | first, a :: l => (bif first then [] else [38]) ++ wordL a ++ andL false l
def listL (l : List Atm) : List UInt8 := (if l = [] then [116, 114, 117, 101] else []) ++ andL true l
def orL : Bool → List (List Atm) → List UInt8
  | _, [] => []
  | first, l :: ls => (bif first then [] else [32, 124]) ++ [32] ++ listL l ++ orL false ls
def condL (all : Bool) (ls : List (List Atm)) : List UInt8 := (bif all then [102, 111, 114, 97, 108, 108] else [101, 120, 105, 115, 116, 115]) ++ orL true ls

theorem verdict_mem {all : Bool} {ls : List (List Atm)} {a b : List Out} (h : ∀ x, x ∈ a ↔ x ∈ b) : verdictB all ls a = verdictB all ls b := by
  unfold verdictB
  cases all
  · simp only [cond_false]
    rw [Bool.eq_iff_iff, List.any_eq_true, List.any_eq_true]
    exact ⟨fun ⟨x, h1, h2⟩ => ⟨x, (h x).1 h1, h2⟩, fun ⟨x, h1, h2⟩ => ⟨x, (h x).2 h1, h2⟩⟩
  · simp only [cond_true]
    rw [Bool.eq_iff_iff, List.all_eq_true, List.all_eq_true]
    exact ⟨fun g x hx => g x ((h x).2 hx), fun g x hx => g x ((h x).1 hx)⟩
theorem verdict_set (all : Bool) (ls : List (List Atm)) (l : List Out) : verdictB all ls (setO [] l) = verdictB all ls l := verdict_mem fun x => by rw [set_mem]; simp
theorem verdict_app (all : Bool) (ls : List (List Atm)) (a b : List Out) : verdictB all ls (a ++ b) = bif all then verdictB all ls a && verdictB all ls b else verdictB all ls a || verdictB all ls b := by
  unfold verdictB
  cases all <;> simp
theorem holds_not (a : Atm) (o : Out) : holdsB { a with neg := !a.neg } o = !holdsB a o := by
  unfold holdsB
  have e : valO { a with neg := !a.neg } o = valO a o := rfl
  rw [e]
  cases a.neg <;> simp
theorem eval_more (ls : List (List Atm)) (a : Atm) (o : Out) : evalB (ls ++ [[a]]) o = (evalB ls o || holdsB a o) := by simp [evalB]
theorem eval_less (l : List Atm) (a : Atm) (o : Out) : evalB [l ++ [a]] o = (evalB [l] o && holdsB a o) := by simp [evalB]
end Go.Proofs.YtdealgleehbhlaaDoor
