/- The numbers of package ins: names, kinds, fields, what may be. -/
namespace Go.Proofs.YtkiefbldkidobaaDoor

/-- The name of an operation. -/
def nameS (op : Int) : ByteArray :=
  if op = 1 then ⟨#[109, 111, 118]⟩ else if op = 2 then ⟨#[97, 100, 100]⟩ else if op = 3 then ⟨#[101, 111, 114]⟩ else if op = 4 then ⟨#[97, 110, 100]⟩
  else if op = 5 then ⟨#[108, 100, 114]⟩ else if op = 6 then ⟨#[115, 116, 114]⟩ else if op = 7 then ⟨#[108, 100, 97, 114]⟩ else if op = 8 then ⟨#[115, 116, 108, 114]⟩
  else if op = 9 then ⟨#[108, 100, 120, 114]⟩ else if op = 10 then ⟨#[115, 116, 120, 114]⟩ else if op = 11 then ⟨#[100, 109, 98]⟩ else if op = 12 then ⟨#[105, 115, 98]⟩
  else if op = 13 then ⟨#[99, 98, 122]⟩ else if op = 14 then ⟨#[99, 98, 110, 122]⟩ else ⟨#[]⟩
def kindZ (op : Int) : Int := if op = 5 ∨ op = 7 ∨ op = 9 then 1 else if op = 6 ∨ op = 8 ∨ op = 10 then 2 else 0
def fieldsZ (op : Int) : Int :=
  if op = 1 then 17 else if op = 2 ∨ op = 3 ∨ op = 4 then 7 else if op = 5 ∨ op = 7 ∨ op = 9 then 11 else if op = 6 ∨ op = 8 then 14
  else if op = 10 then 15 else if op = 11 then 16 else if op = 13 ∨ op = 14 then 18 else 0
def hasDB (op : Int) : Bool := decide (1 ≤ op ∧ op ≤ 5 ∨ op = 7 ∨ op = 9 ∨ op = 10)
def hasAB (op : Int) : Bool := decide (2 ≤ op ∧ op ≤ 10 ∨ op = 13 ∨ op = 14)
def hasBB (op : Int) : Bool := decide (2 ≤ op ∧ op ≤ 4 ∨ op = 6 ∨ op = 8 ∨ op = 10)
def hasLB (op : Int) : Bool := decide (5 ≤ op ∧ op ≤ 10)
def hasIB (op : Int) : Bool := decide (op = 1 ∨ op = 11 ∨ op = 13 ∨ op = 14)
def regB (n : Int) : Bool := decide (0 ≤ n) && decide (n < 4)
def baseB (op a : Int) : Bool := regB a || (kindZ op != 0 && (a == -1))
def immB (op imm behind : Int) : Bool :=
  if op = 1 then decide (-1000 ≤ imm) && decide (imm ≤ 1000) else if op = 11 then decide (0 ≤ imm) && decide (imm ≤ 2) else decide (0 ≤ imm) && decide (imm ≤ behind)
def m1B (op d : Int) : Bool := bif hasDB op then regB d else (d == 0)
def m2B (op a : Int) : Bool := bif hasAB op then baseB op a else (a == 0)
def m3B (op b : Int) : Bool := bif hasBB op then regB b else (b == 0)
def m4B (op l locs : Int) : Bool := bif hasLB op then decide (0 ≤ l) && decide (l < locs) else (l == 0)
def m5B (op i behind : Int) : Bool := bif hasIB op then immB op i behind else (i == 0)
def mayB (op d a b l i behind locs : Int) : Bool := decide (1 ≤ op ∧ op ≤ 14) && (m1B op d && (m2B op a && (m3B op b && (m4B op l locs && m5B op i behind))))
/-- Which registers an instruction reads. -/
def usesL (op a b : Int) : List Int := (if hasAB op = true ∧ 0 ≤ a then [a] else []) ++ (if hasBB op = true ∧ 0 ≤ b then [b] else [])
def givesZ (op d : Int) : Int := bif hasDB op then d else -1

/-- What there is of operations. -/
theorem op_cases (op : Int) : (op ≤ 0 ∨ 15 ≤ op) ∨ op = 1 ∨ op = 2 ∨ op = 3 ∨ op = 4 ∨ op = 5 ∨ op = 6 ∨ op = 7 ∨ op = 8 ∨ op = 9 ∨ op = 10 ∨ op = 11 ∨ op = 12 ∨ op = 13 ∨ op = 14 := by omega

end Go.Proofs.YtkiefbldkidobaaDoor
