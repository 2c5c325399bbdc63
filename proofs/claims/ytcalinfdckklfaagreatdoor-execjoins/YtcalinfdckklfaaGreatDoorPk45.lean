/- The document's Join: its innermost loop's body, its frame, and what a round leaves. -/
import Derived.Test.YtcalinfdckklfaaGreatDoorPk44
import Derived.Test.YtcalinfdckklfaaGreatDoorPk17
namespace Go.Proofs.YtcalinfdckklfaaGreatDoor
open Go.RowKit

def loopsOf : Code → List Code
  | .loop c => c :: loopsOf c
  | .seq a b => loopsOf a ++ loopsOf b
  | .block _ c => loopsOf c
  | .scope c => loopsOf c
  | .cond _ a b => loopsOf a ++ loopsOf b
  | _ => []
def nthC : List Code → Nat → Code
  | [], _ => .skip
  | c :: _, 0 => c
  | _ :: l, n + 1 => nthC l n
noncomputable def jbody : Code := nthC ((Tryz.f8.body.map loopsOf).getD []) 4
set_option maxRecDepth 1000000 in
def jfrm (k f r : Nat → Value) (F m j bt : Nat) : Array Value := #[k 0, k 1, k 2, k 3, k 4, k 5, k 6, k 7, r 0, r 1, r 2, r 3, r 4, k 13, .int .i64 (F : Int), .pointer (some ⟨bt, 0, none⟩), .int .i64 (m : Int), k 17, .int .i64 (j : Int), f 19, k 20, k 21, k 22, k 23, k 24, k 25, k 26, k 27, k 28, k 29, k 30, k 31, k 32, k 33, k 34, k 35, k 36, k 37, k 38, k 39, k 40, k 41, k 42, k 43, k 44, k 45, k 46, k 47, k 48, k 49, k 50, k 51, k 52, k 53, k 54, k 55, k 56, k 57, k 58, k 59, k 60, k 61, k 62, k 63, k 64, k 65, k 66, k 67, k 68, k 69, k 70, k 71, k 72, k 73, k 74, k 75, k 76, k 77, k 78, k 79, k 80, k 81, k 82, k 83, f 84, f 85, f 86, f 87, f 88, f 89, f 90, f 91, f 92, f 93, f 94, f 95, f 96, f 97, f 98, f 99, f 100, f 101, f 102, f 103, f 104, f 105, f 106, f 107, f 108, f 109, f 110, f 111, f 112, f 113, f 114, f 115, f 116, f 117, f 118, f 119, f 120, f 121, f 122, f 123, f 124, f 125, f 126, f 127, f 128, f 129, f 130, f 131, f 132, f 133, f 134, f 135, f 136, f 137, f 138, f 139, f 140, f 141, f 142, f 143, k 144, k 145, k 146, k 147, k 148, k 149, k 150, k 151, k 152, k 153, k 154, k 155, k 156, k 157, k 158, k 159, k 160, k 161, k 162, k 163, k 164, k 165, k 166, k 167, k 168, k 169, k 170, k 171, k 172, k 173, k 174, k 175, k 176, k 177, k 178, k 179, k 180, k 181, k 182, k 183, k 184, k 185, k 186]
theorem JI.congr {w wr : World} {r : Nat → Value} {ps qs : Nat → List (Nat × Nat)} {evs fvs : List Ev} {regs : List (List Int)} (J : JI w wr r ps evs regs) (h : ∀ q, q < 5 → ps q = qs q) (he : evs = fvs) : JI w wr r qs fvs regs := by
  subst he
  exact ⟨⟨fun i hi => by rw [← h i hi]; exact J.jn.o i hi, J.jn.o5, J.jn.o6, J.jn.dis⟩, J.ke, J.kr, J.B, J.sz⟩
def selB (b1 b2 b3 b4 : Bool) : Nat → Bool
  | 0 => true
  | 1 => b1
  | 2 => b2
  | 3 => b3
  | _ => b4
/-- The pairs behind a round. -/
def nxX (X : Nat → List (Nat × Nat)) (F m j : Nat) (b : Nat → Bool) : Nat → List (Nat × Nat) := fun q => if b q then X q ++ [(F + j, F + m)] else X q
def JNext (w : World) (rt : Nat → Value) (t : Tr) (bt F m j : Nat) (Y : Nat → List (Nat × Nat)) (V : List Ev) (G : List (List Int)) (k : Nat → Value) (K : Act → World → Prop) : Prop :=
  ∀ (f' r' : Nat → Value) (w' : World), JI w w' r' Y V G → Apart (fun b => b = bt) w' r' → Blk w' bt (tgC rt t) 34 → K ⟨jfrm k f' r' F m (j + 1) bt, []⟩ w'
theorem jnext_of {w w' : World} {rt : Nat → Value} {t : Tr} {bt F m j : Nat} {Y Z : Nat → List (Nat × Nat)} {V : List Ev} {G : List (List Int)} {k : Nat → Value} {K : Act → World → Prop} (h : JNext w rt t bt F m j Y V G k K) {fr : Array Value} (r' : Nat → Value) (J : JI w w' r' Z V G) (hz : ∀ q, q < 5 → Z q = Y q) (A : Apart (fun b => b = bt) w' r') (B : Blk w' bt (tgC rt t) 34)
    (ht : fr = jfrm k (fun i => fr.getD i undef) r' F m (j + 1) bt) : K ⟨fr, []⟩ w' := by
  have := h (fun i => fr.getD i undef) r' w' (J.congr hz rfl) A B
  rw [← ht] at this
  exact this
/-- What a round reads of the trace. -/
structure JE (w : World) (rt : Nat → Value) (t : Tr) (F m j : Nat) (qb1 qo1 qb2 qo2 qb3 qo3 qb4 qo4 d1 d2 d3 d4 n1 n2 n3 : Nat) (P4 : Int) : Prop where
  e1 : rt 1 = .slice (some ⟨qb1, qo1, none⟩) t.ad.length d1
  e2 : rt 2 = .slice (some ⟨qb2, qo2, none⟩) t.da.length d2
  e3 : rt 3 = .slice (some ⟨qb3, qo3, none⟩) t.ct.length d3
  e4 : rt 4 = .slice (some ⟨qb4, qo4, none⟩) t.pa.length d4
  x1 : n1 < 4294967296
  x2 : n2 < 4294967296
  x3 : n3 < 4294967296
  g1 : w.cell? ⟨qb1, qo1 + m, none⟩ = some (.int .u32 (n1 : Int))
  g2 : w.cell? ⟨qb2, qo2 + m, none⟩ = some (.int .u32 (n2 : Int))
  g3 : w.cell? ⟨qb3, qo3 + m, none⟩ = some (.int .u32 (n3 : Int))
  g4 : w.cell? ⟨qb4, qo4 + m, none⟩ = some (.int .i64 P4)
  l1 : (m : Int) < (t.ad.length : Int)
  l2 : (m : Int) < (t.da.length : Int)
  l3 : (m : Int) < (t.ct.length : Int)
  l4 : (m : Int) < (t.pa.length : Int)
  jm : (j : Int) < (m : Int)
  j24 : (j : Int) ≤ 100
  m24 : (m : Int) ≤ 100
  f24 : (F : Int) ≤ 100
/-- What stands in a round. -/
structure JS (w wc : World) (rt : Nat → Value) (t : Tr) (bt bp F m j : Nat) (X : Nat → List (Nat × Nat)) (V : List Ev) (G : List (List Int)) (r : Nat → Value) : Prop where
  J : JI w wc r X V G
  AP : Apart (fun b => b = bt ∨ b = bp) wc r
  kT : Blk wc bt (tgC rt t) 34
  kP : Blk wc bp #[.int .i64 ((F : Int) + (j : Int)), .int .i64 ((F : Int) + (m : Int))] 83
theorem JS.keep {w wc wb : World} {rt : Nat → Value} {t : Tr} {bt bp F m j : Nat} {X : Nat → List (Nat × Nat)} {V : List Ev} {G : List (List Int)} {r : Nat → Value} (S : JS w wc rt t bt bp F m j X V G r) (hb : Below wc.heap.size wc wb) : JS w wb rt t bt bp F m j X V G r :=
  ⟨S.J.keep hb, S.AP.keep hb.size, S.kT.keep hb, S.kP.keep hb⟩
theorem JS.first {w wc wa : World} {rt : Nat → Value} {t : Tr} {bt F m j : Nat} {X : Nat → List (Nat × Nat)} {V : List Ev} {G : List (List Int)} {r : Nat → Value} (J : JI w wc r X V G) (AP : Apart (fun b => b = bt) wc r) (kT : Blk wc bt (tgC rt t) 34) (kP : Blk wa wc.heap.size #[.int .i64 ((F : Int) + (j : Int)), .int .i64 ((F : Int) + (m : Int))] 83) (ba : Below wc.heap.size wc wa) : JS w wa rt t bt wc.heap.size F m j X V G r :=
  ⟨J.keep ba, ⟨fun b hb => hb.elim (fun e => by have := kT.lt; have := ba.size; omega) (fun e => by rw [e]; exact kP.lt), fun i b hi hb e => e.elim (AP.aw i b hi hb) (fun e => by have := (J.lt hi hb).2; omega)⟩, kT.keep ba, kP⟩
theorem JS.facts {w wc : World} {rt : Nat → Value} {t : Tr} {bt bp F m j qb1 qo1 qb2 qo2 qb3 qo3 qb4 qo4 d1 d2 d3 d4 n1 n2 n3 : Nat} {P4 : Int} {X : Nat → List (Nat × Nat)} {V : List Ev} {G : List (List Int)} {r : Nat → Value} (E : JE w rt t F m j qb1 qo1 qb2 qo2 qb3 qo3 qb4 qo4 d1 d2 d3 d4 n1 n2 n3 P4) (S : JS w wc rt t bt bp F m j X V G r) :
    wc.cell? ⟨bt, 1, none⟩ = some (.slice (some ⟨qb1, qo1, none⟩) t.ad.length d1) ∧ wc.cell? ⟨bt, 2, none⟩ = some (.slice (some ⟨qb2, qo2, none⟩) t.da.length d2) ∧ wc.cell? ⟨bt, 3, none⟩ = some (.slice (some ⟨qb3, qo3, none⟩) t.ct.length d3) ∧ wc.cell? ⟨bt, 4, none⟩ = some (.slice (some ⟨qb4, qo4, none⟩) t.pa.length d4) ∧ wc.cell? ⟨bp, 0, none⟩ = some (.int .i64 ((F : Int) + (j : Int))) ∧ wc.cell? ⟨bp, 1, none⟩ = some (.int .i64 ((F : Int) + (m : Int))) ∧ bt < wc.heap.size ∧ bp < wc.heap.size ∧ wc.cell? ⟨qb1, qo1 + m, none⟩ = some (.int .u32 (n1 : Int)) ∧ wc.cell? ⟨qb2, qo2 + m, none⟩ = some (.int .u32 (n2 : Int)) ∧ wc.cell? ⟨qb3, qo3 + m, none⟩ = some (.int .u32 (n3 : Int)) ∧ wc.cell? ⟨qb4, qo4 + m, none⟩ = some (.int .i64 P4) ∧ qb1 < wc.heap.size ∧ qb2 < wc.heap.size ∧ qb3 < wc.heap.size ∧ qb4 < wc.heap.size := by
  have g1 := cell_keep E.g1 S.J.B
  have g2 := cell_keep E.g2 S.J.B
  have g3 := cell_keep E.g3 S.J.B
  have g4 := cell_keep E.g4 S.J.B
  exact ⟨by rw [← E.e1]; exact S.kT.cell 1, by rw [← E.e2]; exact S.kT.cell 2, by rw [← E.e3]; exact S.kT.cell 3, by rw [← E.e4]; exact S.kT.cell 4, S.kP.cell 0, S.kP.cell 1, S.kT.lt, S.kP.lt, g1, g2, g3, g4, cell_lt g1, cell_lt g2, cell_lt g3, cell_lt g4⟩
theorem wpList_jpush {w wc : World} {rt : Nat → Value} {t : Tr} {bt bp F m j : Nat} {X : Nat → List (Nat × Nat)} {V : List Ev} {G : List (List Int)} {r : Nat → Value} {ops : Array Oper} {rest : List Oper} {o : Oper} {a : Act} {Q : Exit → Act → World → Prop} (S : JS w wc rt t bt bp F m j X V G r) (i : Nat) (hi : i < 5) (hX : (X i).length ≤ 1000000) (hgd : o.guard = none) (s x : Operand)
    (ho : o.op = .call { callee := .builtin .append, args := #[s, x], argTypes := #[74, 74] }) (hs : a.eval s = r i) (hx : a.eval x = .slice (some ⟨wc.heap.size, 0, none⟩) 1 1)
    (h : ∀ pz cz wz, JS w wz rt t bt bp F m j (updL X i (X i ++ [(F + j, F + m)])) V G (updV r i (.slice pz ((X i).length + 1) cz)) → wpList Tryz.prog ops Q rest (a.put o.dst (.slice pz ((X i).length + 1) cz)) wz) : wpList Tryz.prog ops Q (o :: rest) a (wc.alloc (.cells #[.int .i64 ((F : Int) + (j : Int)), .int .i64 ((F : Int) + (m : Int))] 83)) := by
  obtain ⟨i1, zz1, j1, j2, j3, j4, j5⟩ := cl_get (show ((Tryz.prog.info? 83).map fun i => (i.zero.map (·.cells.size), i.size, i.bytes)) = some (some 2, 2, 16) by kernel_rfl)
  have b7 := below_new wc (.cells #[.int .i64 ((F : Int) + (j : Int)), .int .i64 ((F : Int) + (m : Int))] 83)
  have kN : Blk (wc.alloc (.cells #[.int .i64 ((F : Int) + (j : Int)), .int .i64 ((F : Int) + (m : Int))] 83)) wc.heap.size #[.int .i64 ((F : Int) + (j : Int)), .int .i64 ((F : Int) + (m : Int))] 83 := Blk.new
  have J7 := S.J.keep b7
  refine wpList_push (R := PairE) (xs := X i) (x := (F + j, F + m)) hgd s x 74 83 i1 zz1 16 ho Tryz.underlying74 j1 j2 j4 j5 j3 (w.heap.size + 2) (r i) wc.heap.size hs hx (J7.jn.o i hi) [.int .i64 ((F + j : Nat) : Int), .int .i64 ((F + m : Nat) : Int)] (fun _ _ => rfl) (fun _ _ _ _ _ h => h) (fun z u hu => (kN.cell z).trans (by simpa using hu)) hX (by decide) J7.sz ?_
  intro pz cz wz hOz hgz hvz
  have hi7 : i < 7 := by omega
  have ap7 := S.AP.keep (w' := wc.alloc (.cells #[.int .i64 ((F : Int) + (j : Int)), .int .i64 ((F : Int) + (m : Int))] 83)) b7.size
  exact h pz cz wz ⟨J7.push hi hgz hOz hvz, ap7.grow hi7 hgz.size hvz, ap7.blk hi7 (.inl rfl) (S.kT.keep b7) hgz, ap7.blk hi7 (.inr rfl) (S.kP.keep b7) hgz⟩

attribute [local go_sem] Ext.cell Ext.frozen

set_option maxRecDepth 1000000 in
set_option maxHeartbeats 16000000 in
theorem jr_0000 (w wc : World) (rt : Nat → Value) (t : Tr) (bt F m j : Nat) (X : Nat → List (Nat × Nat)) (V : List Ev) (G : List (List Int)) (k f r : Nat → Value) (K : Act → World → Prop) (Q0 : Exit → Act → World → Prop) (qb1 qo1 qb2 qo2 qb3 qo3 qb4 qo4 d1 d2 d3 d4 n1 n2 n3 : Nat) (P4 : Int) (E : JE w rt t F m j qb1 qo1 qb2 qo2 qb3 qo3 qb4 qo4 d1 d2 d3 d4 n1 n2 n3 P4) (hXl : ∀ q, (X q).length ≤ 1000000) (J : JI w wc r X V G) (AP : Apart (fun b => b = bt) wc r) (kT : Blk wc bt (tgC rt t) 34) (HB1 : Hid (n1.testBit j = false)) (HB2 : Hid (n2.testBit j = false)) (HB3 : Hid (n3.testBit j = false)) (hb4 : (P4 == (j : Int)) = false) (HN : Hid (JNext w rt t bt F m j (nxX X F m j (selB false false false false)) V G k K)) :
    Code.wp Tryz.prog jbody (Exit.then K Q0) ⟨jfrm k f r F m j bt, []⟩ wc := by
  obtain ⟨K9, hK9⟩ : ∃ K9, K9 = K := ⟨_, rfl⟩
  have HK9 : Hid _ := hK9
  rw [← hK9]
  clear hK9
  obtain ⟨-, -, -, -, -, -, -, -, -, -, -, hl1, hl2, hl3, hl4, hjm, hj24, hm24, hf24⟩ := id E
  have T0 := trivial
  conv => arg 2; whnf
  unfold jfrm
  go_wp2_with (first
    | (clear T0; refine wpList_storeB (by rfl) 83 (.tmp 19) (.tmp 95) (by rfl) wc.heap.size #[.int .i64 ((F : Int) + (j : Int)), .int .i64 ((F : Int) + (m : Int))] _ 83 (by rfl) (by rfl) Blk.new (by kernel_rfl) (by rfl) (by simp [Value.oneCell']) ?_; intro wa kP oa za; simp only [Act.put]; have S := JS.first J AP kT kP ((below_new _ _).trans (oa.below (by simp) (fun k hk => by omega))); clear za oa kP J AP kT; obtain ⟨bp, hbp⟩ : ∃ bp, wc.heap.size = bp := ⟨_, rfl⟩; rw [hbp] at S ⊢; clear hbp; obtain ⟨wc, rfl⟩ : ∃ q : World, q = wa := ⟨_, rfl⟩; obtain ⟨y1, y2, y3, y4, u0, u1, yt, yp, g1, g2, g3, g4, z1, z2, z3, z4⟩ := S.facts E; have T1 := trivial)
    | (go_at_call 32; clear T1; refine (bit10_any n1 j _ E.x1 (by omega)).mono ?_; rintro e wb ⟨rfl, hbb⟩; rw [HB1.out]; replace S := S.keep hbb; clear y1 y2 y3 y4 u0 u1 yt yp g1 g2 g3 g4 z1 z2 z3 z4; obtain ⟨wc, rfl⟩ : ∃ q : World, q = wb := ⟨_, rfl⟩; obtain ⟨y1, y2, y3, y4, u0, u1, yt, yp, g1, g2, g3, g4, z1, z2, z3, z4⟩ := S.facts E; have T2 := trivial)
    | (go_at_call 32; clear T2; refine (bit10_any n2 j _ E.x2 (by omega)).mono ?_; rintro e wb ⟨rfl, hbb⟩; rw [HB2.out]; replace S := S.keep hbb; clear y1 y2 y3 y4 u0 u1 yt yp g1 g2 g3 g4 z1 z2 z3 z4; obtain ⟨wc, rfl⟩ : ∃ q : World, q = wb := ⟨_, rfl⟩; obtain ⟨y1, y2, y3, y4, u0, u1, yt, yp, g1, g2, g3, g4, z1, z2, z3, z4⟩ := S.facts E; have T3 := trivial)
    | (go_at_call 32; clear T3; refine (bit10_any n3 j _ E.x3 (by omega)).mono ?_; rintro e wb ⟨rfl, hbb⟩; rw [HB3.out]; replace S := S.keep hbb; clear y1 y2 y3 y4 u0 u1 yt yp g1 g2 g3 g4 z1 z2 z3 z4; obtain ⟨wc, rfl⟩ : ∃ q : World, q = wb := ⟨_, rfl⟩; obtain ⟨y1, y2, y3, y4, u0, u1, yt, yp, g1, g2, g3, g4, z1, z2, z3, z4⟩ := S.facts E; have T4 := trivial)
    | (at_builtin; refine wpList_jpush S 0 (by decide) (hXl 0) (by rfl) (.tmp 96) (.tmp 98) (by rfl) (by rfl) (by rfl) ?_; intro pz cz wz S'; replace S := S'; clear S'; clear y1 y2 y3 y4 u0 u1 yt yp g1 g2 g3 g4 z1 z2 z3 z4; obtain ⟨wc, rfl⟩ : ∃ q : World, q = wz := ⟨_, rfl⟩; obtain ⟨y1, y2, y3, y4, u0, u1, yt, yp, g1, g2, g3, g4, z1, z2, z3, z4⟩ := S.facts E))
  rw [HK9.out]
  exact jnext_of HN.out _ S.J (fun q hq => by
    match q, hq with
    | 0, _ | 1, _ | 2, _ | 3, _ | 4, _ => simp [updL, nxX, selB]
    | q + 5, hq => omega) ⟨fun b e => S.AP.lt b (.inl e), fun i k hi hk e => S.AP.aw i k hi hk (.inl e)⟩ S.kT (by rfl)

set_option maxRecDepth 1000000 in
set_option maxHeartbeats 16000000 in
theorem jr_0001 (w wc : World) (rt : Nat → Value) (t : Tr) (bt F m j : Nat) (X : Nat → List (Nat × Nat)) (V : List Ev) (G : List (List Int)) (k f r : Nat → Value) (K : Act → World → Prop) (Q0 : Exit → Act → World → Prop) (qb1 qo1 qb2 qo2 qb3 qo3 qb4 qo4 d1 d2 d3 d4 n1 n2 n3 : Nat) (P4 : Int) (E : JE w rt t F m j qb1 qo1 qb2 qo2 qb3 qo3 qb4 qo4 d1 d2 d3 d4 n1 n2 n3 P4) (hXl : ∀ q, (X q).length ≤ 1000000) (J : JI w wc r X V G) (AP : Apart (fun b => b = bt) wc r) (kT : Blk wc bt (tgC rt t) 34) (HB1 : Hid (n1.testBit j = false)) (HB2 : Hid (n2.testBit j = false)) (HB3 : Hid (n3.testBit j = false)) (hb4 : (P4 == (j : Int)) = true) (HN : Hid (JNext w rt t bt F m j (nxX X F m j (selB false false false true)) V G k K)) :
    Code.wp Tryz.prog jbody (Exit.then K Q0) ⟨jfrm k f r F m j bt, []⟩ wc := by
  obtain ⟨K9, hK9⟩ : ∃ K9, K9 = K := ⟨_, rfl⟩
  have HK9 : Hid _ := hK9
  rw [← hK9]
  clear hK9
  obtain ⟨-, -, -, -, -, -, -, -, -, -, -, hl1, hl2, hl3, hl4, hjm, hj24, hm24, hf24⟩ := id E
  have T0 := trivial
  conv => arg 2; whnf
  unfold jfrm
  go_wp2_with (first
    | (clear T0; refine wpList_storeB (by rfl) 83 (.tmp 19) (.tmp 95) (by rfl) wc.heap.size #[.int .i64 ((F : Int) + (j : Int)), .int .i64 ((F : Int) + (m : Int))] _ 83 (by rfl) (by rfl) Blk.new (by kernel_rfl) (by rfl) (by simp [Value.oneCell']) ?_; intro wa kP oa za; simp only [Act.put]; have S := JS.first J AP kT kP ((below_new _ _).trans (oa.below (by simp) (fun k hk => by omega))); clear za oa kP J AP kT; obtain ⟨bp, hbp⟩ : ∃ bp, wc.heap.size = bp := ⟨_, rfl⟩; rw [hbp] at S ⊢; clear hbp; obtain ⟨wc, rfl⟩ : ∃ q : World, q = wa := ⟨_, rfl⟩; obtain ⟨y1, y2, y3, y4, u0, u1, yt, yp, g1, g2, g3, g4, z1, z2, z3, z4⟩ := S.facts E; have T1 := trivial)
    | (go_at_call 32; clear T1; refine (bit10_any n1 j _ E.x1 (by omega)).mono ?_; rintro e wb ⟨rfl, hbb⟩; rw [HB1.out]; replace S := S.keep hbb; clear y1 y2 y3 y4 u0 u1 yt yp g1 g2 g3 g4 z1 z2 z3 z4; obtain ⟨wc, rfl⟩ : ∃ q : World, q = wb := ⟨_, rfl⟩; obtain ⟨y1, y2, y3, y4, u0, u1, yt, yp, g1, g2, g3, g4, z1, z2, z3, z4⟩ := S.facts E; have T2 := trivial)
    | (go_at_call 32; clear T2; refine (bit10_any n2 j _ E.x2 (by omega)).mono ?_; rintro e wb ⟨rfl, hbb⟩; rw [HB2.out]; replace S := S.keep hbb; clear y1 y2 y3 y4 u0 u1 yt yp g1 g2 g3 g4 z1 z2 z3 z4; obtain ⟨wc, rfl⟩ : ∃ q : World, q = wb := ⟨_, rfl⟩; obtain ⟨y1, y2, y3, y4, u0, u1, yt, yp, g1, g2, g3, g4, z1, z2, z3, z4⟩ := S.facts E; have T3 := trivial)
    | (go_at_call 32; clear T3; refine (bit10_any n3 j _ E.x3 (by omega)).mono ?_; rintro e wb ⟨rfl, hbb⟩; rw [HB3.out]; replace S := S.keep hbb; clear y1 y2 y3 y4 u0 u1 yt yp g1 g2 g3 g4 z1 z2 z3 z4; obtain ⟨wc, rfl⟩ : ∃ q : World, q = wb := ⟨_, rfl⟩; obtain ⟨y1, y2, y3, y4, u0, u1, yt, yp, g1, g2, g3, g4, z1, z2, z3, z4⟩ := S.facts E; have T4 := trivial)
    | (at_builtin; refine wpList_jpush S 0 (by decide) (hXl 0) (by rfl) (.tmp 96) (.tmp 98) (by rfl) (by rfl) (by rfl) ?_; intro pz cz wz S'; replace S := S'; clear S'; clear y1 y2 y3 y4 u0 u1 yt yp g1 g2 g3 g4 z1 z2 z3 z4; obtain ⟨wc, rfl⟩ : ∃ q : World, q = wz := ⟨_, rfl⟩; obtain ⟨y1, y2, y3, y4, u0, u1, yt, yp, g1, g2, g3, g4, z1, z2, z3, z4⟩ := S.facts E)
    | (at_builtin; refine wpList_jpush S 4 (by decide) (hXl 4) (by rfl) (.tmp 140) (.tmp 142) (by rfl) (by rfl) (by rfl) ?_; intro pz cz wz S'; replace S := S'; clear S'; clear y1 y2 y3 y4 u0 u1 yt yp g1 g2 g3 g4 z1 z2 z3 z4; obtain ⟨wc, rfl⟩ : ∃ q : World, q = wz := ⟨_, rfl⟩; obtain ⟨y1, y2, y3, y4, u0, u1, yt, yp, g1, g2, g3, g4, z1, z2, z3, z4⟩ := S.facts E))
  rw [HK9.out]
  exact jnext_of HN.out _ S.J (fun q hq => by
    match q, hq with
    | 0, _ | 1, _ | 2, _ | 3, _ | 4, _ => simp [updL, nxX, selB]
    | q + 5, hq => omega) ⟨fun b e => S.AP.lt b (.inl e), fun i k hi hk e => S.AP.aw i k hi hk (.inl e)⟩ S.kT (by rfl)

set_option maxRecDepth 1000000 in
set_option maxHeartbeats 16000000 in
theorem jr_0010 (w wc : World) (rt : Nat → Value) (t : Tr) (bt F m j : Nat) (X : Nat → List (Nat × Nat)) (V : List Ev) (G : List (List Int)) (k f r : Nat → Value) (K : Act → World → Prop) (Q0 : Exit → Act → World → Prop) (qb1 qo1 qb2 qo2 qb3 qo3 qb4 qo4 d1 d2 d3 d4 n1 n2 n3 : Nat) (P4 : Int) (E : JE w rt t F m j qb1 qo1 qb2 qo2 qb3 qo3 qb4 qo4 d1 d2 d3 d4 n1 n2 n3 P4) (hXl : ∀ q, (X q).length ≤ 1000000) (J : JI w wc r X V G) (AP : Apart (fun b => b = bt) wc r) (kT : Blk wc bt (tgC rt t) 34) (HB1 : Hid (n1.testBit j = false)) (HB2 : Hid (n2.testBit j = false)) (HB3 : Hid (n3.testBit j = true)) (hb4 : (P4 == (j : Int)) = false) (HN : Hid (JNext w rt t bt F m j (nxX X F m j (selB false false true false)) V G k K)) :
    Code.wp Tryz.prog jbody (Exit.then K Q0) ⟨jfrm k f r F m j bt, []⟩ wc := by
  obtain ⟨K9, hK9⟩ : ∃ K9, K9 = K := ⟨_, rfl⟩
  have HK9 : Hid _ := hK9
  rw [← hK9]
  clear hK9
  obtain ⟨-, -, -, -, -, -, -, -, -, -, -, hl1, hl2, hl3, hl4, hjm, hj24, hm24, hf24⟩ := id E
  have T0 := trivial
  conv => arg 2; whnf
  unfold jfrm
  go_wp2_with (first
    | (clear T0; refine wpList_storeB (by rfl) 83 (.tmp 19) (.tmp 95) (by rfl) wc.heap.size #[.int .i64 ((F : Int) + (j : Int)), .int .i64 ((F : Int) + (m : Int))] _ 83 (by rfl) (by rfl) Blk.new (by kernel_rfl) (by rfl) (by simp [Value.oneCell']) ?_; intro wa kP oa za; simp only [Act.put]; have S := JS.first J AP kT kP ((below_new _ _).trans (oa.below (by simp) (fun k hk => by omega))); clear za oa kP J AP kT; obtain ⟨bp, hbp⟩ : ∃ bp, wc.heap.size = bp := ⟨_, rfl⟩; rw [hbp] at S ⊢; clear hbp; obtain ⟨wc, rfl⟩ : ∃ q : World, q = wa := ⟨_, rfl⟩; obtain ⟨y1, y2, y3, y4, u0, u1, yt, yp, g1, g2, g3, g4, z1, z2, z3, z4⟩ := S.facts E; have T1 := trivial)
    | (go_at_call 32; clear T1; refine (bit10_any n1 j _ E.x1 (by omega)).mono ?_; rintro e wb ⟨rfl, hbb⟩; rw [HB1.out]; replace S := S.keep hbb; clear y1 y2 y3 y4 u0 u1 yt yp g1 g2 g3 g4 z1 z2 z3 z4; obtain ⟨wc, rfl⟩ : ∃ q : World, q = wb := ⟨_, rfl⟩; obtain ⟨y1, y2, y3, y4, u0, u1, yt, yp, g1, g2, g3, g4, z1, z2, z3, z4⟩ := S.facts E; have T2 := trivial)
    | (go_at_call 32; clear T2; refine (bit10_any n2 j _ E.x2 (by omega)).mono ?_; rintro e wb ⟨rfl, hbb⟩; rw [HB2.out]; replace S := S.keep hbb; clear y1 y2 y3 y4 u0 u1 yt yp g1 g2 g3 g4 z1 z2 z3 z4; obtain ⟨wc, rfl⟩ : ∃ q : World, q = wb := ⟨_, rfl⟩; obtain ⟨y1, y2, y3, y4, u0, u1, yt, yp, g1, g2, g3, g4, z1, z2, z3, z4⟩ := S.facts E; have T3 := trivial)
    | (go_at_call 32; clear T3; refine (bit10_any n3 j _ E.x3 (by omega)).mono ?_; rintro e wb ⟨rfl, hbb⟩; rw [HB3.out]; replace S := S.keep hbb; clear y1 y2 y3 y4 u0 u1 yt yp g1 g2 g3 g4 z1 z2 z3 z4; obtain ⟨wc, rfl⟩ : ∃ q : World, q = wb := ⟨_, rfl⟩; obtain ⟨y1, y2, y3, y4, u0, u1, yt, yp, g1, g2, g3, g4, z1, z2, z3, z4⟩ := S.facts E; have T4 := trivial)
    | (at_builtin; refine wpList_jpush S 0 (by decide) (hXl 0) (by rfl) (.tmp 96) (.tmp 98) (by rfl) (by rfl) (by rfl) ?_; intro pz cz wz S'; replace S := S'; clear S'; clear y1 y2 y3 y4 u0 u1 yt yp g1 g2 g3 g4 z1 z2 z3 z4; obtain ⟨wc, rfl⟩ : ∃ q : World, q = wz := ⟨_, rfl⟩; obtain ⟨y1, y2, y3, y4, u0, u1, yt, yp, g1, g2, g3, g4, z1, z2, z3, z4⟩ := S.facts E)
    | (at_builtin; refine wpList_jpush S 3 (by decide) (hXl 3) (by rfl) (.tmp 129) (.tmp 131) (by rfl) (by rfl) (by rfl) ?_; intro pz cz wz S'; replace S := S'; clear S'; clear y1 y2 y3 y4 u0 u1 yt yp g1 g2 g3 g4 z1 z2 z3 z4; obtain ⟨wc, rfl⟩ : ∃ q : World, q = wz := ⟨_, rfl⟩; obtain ⟨y1, y2, y3, y4, u0, u1, yt, yp, g1, g2, g3, g4, z1, z2, z3, z4⟩ := S.facts E))
  rw [HK9.out]
  exact jnext_of HN.out _ S.J (fun q hq => by
    match q, hq with
    | 0, _ | 1, _ | 2, _ | 3, _ | 4, _ => simp [updL, nxX, selB]
    | q + 5, hq => omega) ⟨fun b e => S.AP.lt b (.inl e), fun i k hi hk e => S.AP.aw i k hi hk (.inl e)⟩ S.kT (by rfl)

set_option maxRecDepth 1000000 in
set_option maxHeartbeats 16000000 in
theorem jr_0011 (w wc : World) (rt : Nat → Value) (t : Tr) (bt F m j : Nat) (X : Nat → List (Nat × Nat)) (V : List Ev) (G : List (List Int)) (k f r : Nat → Value) (K : Act → World → Prop) (Q0 : Exit → Act → World → Prop) (qb1 qo1 qb2 qo2 qb3 qo3 qb4 qo4 d1 d2 d3 d4 n1 n2 n3 : Nat) (P4 : Int) (E : JE w rt t F m j qb1 qo1 qb2 qo2 qb3 qo3 qb4 qo4 d1 d2 d3 d4 n1 n2 n3 P4) (hXl : ∀ q, (X q).length ≤ 1000000) (J : JI w wc r X V G) (AP : Apart (fun b => b = bt) wc r) (kT : Blk wc bt (tgC rt t) 34) (HB1 : Hid (n1.testBit j = false)) (HB2 : Hid (n2.testBit j = false)) (HB3 : Hid (n3.testBit j = true)) (hb4 : (P4 == (j : Int)) = true) (HN : Hid (JNext w rt t bt F m j (nxX X F m j (selB false false true true)) V G k K)) :
    Code.wp Tryz.prog jbody (Exit.then K Q0) ⟨jfrm k f r F m j bt, []⟩ wc := by
  obtain ⟨K9, hK9⟩ : ∃ K9, K9 = K := ⟨_, rfl⟩
  have HK9 : Hid _ := hK9
  rw [← hK9]
  clear hK9
  obtain ⟨-, -, -, -, -, -, -, -, -, -, -, hl1, hl2, hl3, hl4, hjm, hj24, hm24, hf24⟩ := id E
  have T0 := trivial
  conv => arg 2; whnf
  unfold jfrm
  go_wp2_with (first
    | (clear T0; refine wpList_storeB (by rfl) 83 (.tmp 19) (.tmp 95) (by rfl) wc.heap.size #[.int .i64 ((F : Int) + (j : Int)), .int .i64 ((F : Int) + (m : Int))] _ 83 (by rfl) (by rfl) Blk.new (by kernel_rfl) (by rfl) (by simp [Value.oneCell']) ?_; intro wa kP oa za; simp only [Act.put]; have S := JS.first J AP kT kP ((below_new _ _).trans (oa.below (by simp) (fun k hk => by omega))); clear za oa kP J AP kT; obtain ⟨bp, hbp⟩ : ∃ bp, wc.heap.size = bp := ⟨_, rfl⟩; rw [hbp] at S ⊢; clear hbp; obtain ⟨wc, rfl⟩ : ∃ q : World, q = wa := ⟨_, rfl⟩; obtain ⟨y1, y2, y3, y4, u0, u1, yt, yp, g1, g2, g3, g4, z1, z2, z3, z4⟩ := S.facts E; have T1 := trivial)
    | (go_at_call 32; clear T1; refine (bit10_any n1 j _ E.x1 (by omega)).mono ?_; rintro e wb ⟨rfl, hbb⟩; rw [HB1.out]; replace S := S.keep hbb; clear y1 y2 y3 y4 u0 u1 yt yp g1 g2 g3 g4 z1 z2 z3 z4; obtain ⟨wc, rfl⟩ : ∃ q : World, q = wb := ⟨_, rfl⟩; obtain ⟨y1, y2, y3, y4, u0, u1, yt, yp, g1, g2, g3, g4, z1, z2, z3, z4⟩ := S.facts E; have T2 := trivial)
    | (go_at_call 32; clear T2; refine (bit10_any n2 j _ E.x2 (by omega)).mono ?_; rintro e wb ⟨rfl, hbb⟩; rw [HB2.out]; replace S := S.keep hbb; clear y1 y2 y3 y4 u0 u1 yt yp g1 g2 g3 g4 z1 z2 z3 z4; obtain ⟨wc, rfl⟩ : ∃ q : World, q = wb := ⟨_, rfl⟩; obtain ⟨y1, y2, y3, y4, u0, u1, yt, yp, g1, g2, g3, g4, z1, z2, z3, z4⟩ := S.facts E; have T3 := trivial)
    | (go_at_call 32; clear T3; refine (bit10_any n3 j _ E.x3 (by omega)).mono ?_; rintro e wb ⟨rfl, hbb⟩; rw [HB3.out]; replace S := S.keep hbb; clear y1 y2 y3 y4 u0 u1 yt yp g1 g2 g3 g4 z1 z2 z3 z4; obtain ⟨wc, rfl⟩ : ∃ q : World, q = wb := ⟨_, rfl⟩; obtain ⟨y1, y2, y3, y4, u0, u1, yt, yp, g1, g2, g3, g4, z1, z2, z3, z4⟩ := S.facts E; have T4 := trivial)
    | (at_builtin; refine wpList_jpush S 0 (by decide) (hXl 0) (by rfl) (.tmp 96) (.tmp 98) (by rfl) (by rfl) (by rfl) ?_; intro pz cz wz S'; replace S := S'; clear S'; clear y1 y2 y3 y4 u0 u1 yt yp g1 g2 g3 g4 z1 z2 z3 z4; obtain ⟨wc, rfl⟩ : ∃ q : World, q = wz := ⟨_, rfl⟩; obtain ⟨y1, y2, y3, y4, u0, u1, yt, yp, g1, g2, g3, g4, z1, z2, z3, z4⟩ := S.facts E)
    | (at_builtin; refine wpList_jpush S 3 (by decide) (hXl 3) (by rfl) (.tmp 129) (.tmp 131) (by rfl) (by rfl) (by rfl) ?_; intro pz cz wz S'; replace S := S'; clear S'; clear y1 y2 y3 y4 u0 u1 yt yp g1 g2 g3 g4 z1 z2 z3 z4; obtain ⟨wc, rfl⟩ : ∃ q : World, q = wz := ⟨_, rfl⟩; obtain ⟨y1, y2, y3, y4, u0, u1, yt, yp, g1, g2, g3, g4, z1, z2, z3, z4⟩ := S.facts E)
    | (at_builtin; refine wpList_jpush S 4 (by decide) (hXl 4) (by rfl) (.tmp 140) (.tmp 142) (by rfl) (by rfl) (by rfl) ?_; intro pz cz wz S'; replace S := S'; clear S'; clear y1 y2 y3 y4 u0 u1 yt yp g1 g2 g3 g4 z1 z2 z3 z4; obtain ⟨wc, rfl⟩ : ∃ q : World, q = wz := ⟨_, rfl⟩; obtain ⟨y1, y2, y3, y4, u0, u1, yt, yp, g1, g2, g3, g4, z1, z2, z3, z4⟩ := S.facts E))
  rw [HK9.out]
  exact jnext_of HN.out _ S.J (fun q hq => by
    match q, hq with
    | 0, _ | 1, _ | 2, _ | 3, _ | 4, _ => simp [updL, nxX, selB]
    | q + 5, hq => omega) ⟨fun b e => S.AP.lt b (.inl e), fun i k hi hk e => S.AP.aw i k hi hk (.inl e)⟩ S.kT (by rfl)

set_option maxRecDepth 1000000 in
set_option maxHeartbeats 16000000 in
theorem jr_0100 (w wc : World) (rt : Nat → Value) (t : Tr) (bt F m j : Nat) (X : Nat → List (Nat × Nat)) (V : List Ev) (G : List (List Int)) (k f r : Nat → Value) (K : Act → World → Prop) (Q0 : Exit → Act → World → Prop) (qb1 qo1 qb2 qo2 qb3 qo3 qb4 qo4 d1 d2 d3 d4 n1 n2 n3 : Nat) (P4 : Int) (E : JE w rt t F m j qb1 qo1 qb2 qo2 qb3 qo3 qb4 qo4 d1 d2 d3 d4 n1 n2 n3 P4) (hXl : ∀ q, (X q).length ≤ 1000000) (J : JI w wc r X V G) (AP : Apart (fun b => b = bt) wc r) (kT : Blk wc bt (tgC rt t) 34) (HB1 : Hid (n1.testBit j = false)) (HB2 : Hid (n2.testBit j = true)) (HB3 : Hid (n3.testBit j = false)) (hb4 : (P4 == (j : Int)) = false) (HN : Hid (JNext w rt t bt F m j (nxX X F m j (selB false true false false)) V G k K)) :
    Code.wp Tryz.prog jbody (Exit.then K Q0) ⟨jfrm k f r F m j bt, []⟩ wc := by
  obtain ⟨K9, hK9⟩ : ∃ K9, K9 = K := ⟨_, rfl⟩
  have HK9 : Hid _ := hK9
  rw [← hK9]
  clear hK9
  obtain ⟨-, -, -, -, -, -, -, -, -, -, -, hl1, hl2, hl3, hl4, hjm, hj24, hm24, hf24⟩ := id E
  have T0 := trivial
  conv => arg 2; whnf
  unfold jfrm
  go_wp2_with (first
    | (clear T0; refine wpList_storeB (by rfl) 83 (.tmp 19) (.tmp 95) (by rfl) wc.heap.size #[.int .i64 ((F : Int) + (j : Int)), .int .i64 ((F : Int) + (m : Int))] _ 83 (by rfl) (by rfl) Blk.new (by kernel_rfl) (by rfl) (by simp [Value.oneCell']) ?_; intro wa kP oa za; simp only [Act.put]; have S := JS.first J AP kT kP ((below_new _ _).trans (oa.below (by simp) (fun k hk => by omega))); clear za oa kP J AP kT; obtain ⟨bp, hbp⟩ : ∃ bp, wc.heap.size = bp := ⟨_, rfl⟩; rw [hbp] at S ⊢; clear hbp; obtain ⟨wc, rfl⟩ : ∃ q : World, q = wa := ⟨_, rfl⟩; obtain ⟨y1, y2, y3, y4, u0, u1, yt, yp, g1, g2, g3, g4, z1, z2, z3, z4⟩ := S.facts E; have T1 := trivial)
    | (go_at_call 32; clear T1; refine (bit10_any n1 j _ E.x1 (by omega)).mono ?_; rintro e wb ⟨rfl, hbb⟩; rw [HB1.out]; replace S := S.keep hbb; clear y1 y2 y3 y4 u0 u1 yt yp g1 g2 g3 g4 z1 z2 z3 z4; obtain ⟨wc, rfl⟩ : ∃ q : World, q = wb := ⟨_, rfl⟩; obtain ⟨y1, y2, y3, y4, u0, u1, yt, yp, g1, g2, g3, g4, z1, z2, z3, z4⟩ := S.facts E; have T2 := trivial)
    | (go_at_call 32; clear T2; refine (bit10_any n2 j _ E.x2 (by omega)).mono ?_; rintro e wb ⟨rfl, hbb⟩; rw [HB2.out]; replace S := S.keep hbb; clear y1 y2 y3 y4 u0 u1 yt yp g1 g2 g3 g4 z1 z2 z3 z4; obtain ⟨wc, rfl⟩ : ∃ q : World, q = wb := ⟨_, rfl⟩; obtain ⟨y1, y2, y3, y4, u0, u1, yt, yp, g1, g2, g3, g4, z1, z2, z3, z4⟩ := S.facts E; have T3 := trivial)
    | (go_at_call 32; clear T3; refine (bit10_any n3 j _ E.x3 (by omega)).mono ?_; rintro e wb ⟨rfl, hbb⟩; rw [HB3.out]; replace S := S.keep hbb; clear y1 y2 y3 y4 u0 u1 yt yp g1 g2 g3 g4 z1 z2 z3 z4; obtain ⟨wc, rfl⟩ : ∃ q : World, q = wb := ⟨_, rfl⟩; obtain ⟨y1, y2, y3, y4, u0, u1, yt, yp, g1, g2, g3, g4, z1, z2, z3, z4⟩ := S.facts E; have T4 := trivial)
    | (at_builtin; refine wpList_jpush S 0 (by decide) (hXl 0) (by rfl) (.tmp 96) (.tmp 98) (by rfl) (by rfl) (by rfl) ?_; intro pz cz wz S'; replace S := S'; clear S'; clear y1 y2 y3 y4 u0 u1 yt yp g1 g2 g3 g4 z1 z2 z3 z4; obtain ⟨wc, rfl⟩ : ∃ q : World, q = wz := ⟨_, rfl⟩; obtain ⟨y1, y2, y3, y4, u0, u1, yt, yp, g1, g2, g3, g4, z1, z2, z3, z4⟩ := S.facts E)
    | (at_builtin; refine wpList_jpush S 2 (by decide) (hXl 2) (by rfl) (.tmp 118) (.tmp 120) (by rfl) (by rfl) (by rfl) ?_; intro pz cz wz S'; replace S := S'; clear S'; clear y1 y2 y3 y4 u0 u1 yt yp g1 g2 g3 g4 z1 z2 z3 z4; obtain ⟨wc, rfl⟩ : ∃ q : World, q = wz := ⟨_, rfl⟩; obtain ⟨y1, y2, y3, y4, u0, u1, yt, yp, g1, g2, g3, g4, z1, z2, z3, z4⟩ := S.facts E))
  rw [HK9.out]
  exact jnext_of HN.out _ S.J (fun q hq => by
    match q, hq with
    | 0, _ | 1, _ | 2, _ | 3, _ | 4, _ => simp [updL, nxX, selB]
    | q + 5, hq => omega) ⟨fun b e => S.AP.lt b (.inl e), fun i k hi hk e => S.AP.aw i k hi hk (.inl e)⟩ S.kT (by rfl)

set_option maxRecDepth 1000000 in
set_option maxHeartbeats 16000000 in
theorem jr_0101 (w wc : World) (rt : Nat → Value) (t : Tr) (bt F m j : Nat) (X : Nat → List (Nat × Nat)) (V : List Ev) (G : List (List Int)) (k f r : Nat → Value) (K : Act → World → Prop) (Q0 : Exit → Act → World → Prop) (qb1 qo1 qb2 qo2 qb3 qo3 qb4 qo4 d1 d2 d3 d4 n1 n2 n3 : Nat) (P4 : Int) (E : JE w rt t F m j qb1 qo1 qb2 qo2 qb3 qo3 qb4 qo4 d1 d2 d3 d4 n1 n2 n3 P4) (hXl : ∀ q, (X q).length ≤ 1000000) (J : JI w wc r X V G) (AP : Apart (fun b => b = bt) wc r) (kT : Blk wc bt (tgC rt t) 34) (HB1 : Hid (n1.testBit j = false)) (HB2 : Hid (n2.testBit j = true)) (HB3 : Hid (n3.testBit j = false)) (hb4 : (P4 == (j : Int)) = true) (HN : Hid (JNext w rt t bt F m j (nxX X F m j (selB false true false true)) V G k K)) :
    Code.wp Tryz.prog jbody (Exit.then K Q0) ⟨jfrm k f r F m j bt, []⟩ wc := by
  obtain ⟨K9, hK9⟩ : ∃ K9, K9 = K := ⟨_, rfl⟩
  have HK9 : Hid _ := hK9
  rw [← hK9]
  clear hK9
  obtain ⟨-, -, -, -, -, -, -, -, -, -, -, hl1, hl2, hl3, hl4, hjm, hj24, hm24, hf24⟩ := id E
  have T0 := trivial
  conv => arg 2; whnf
  unfold jfrm
  go_wp2_with (first
    | (clear T0; refine wpList_storeB (by rfl) 83 (.tmp 19) (.tmp 95) (by rfl) wc.heap.size #[.int .i64 ((F : Int) + (j : Int)), .int .i64 ((F : Int) + (m : Int))] _ 83 (by rfl) (by rfl) Blk.new (by kernel_rfl) (by rfl) (by simp [Value.oneCell']) ?_; intro wa kP oa za; simp only [Act.put]; have S := JS.first J AP kT kP ((below_new _ _).trans (oa.below (by simp) (fun k hk => by omega))); clear za oa kP J AP kT; obtain ⟨bp, hbp⟩ : ∃ bp, wc.heap.size = bp := ⟨_, rfl⟩; rw [hbp] at S ⊢; clear hbp; obtain ⟨wc, rfl⟩ : ∃ q : World, q = wa := ⟨_, rfl⟩; obtain ⟨y1, y2, y3, y4, u0, u1, yt, yp, g1, g2, g3, g4, z1, z2, z3, z4⟩ := S.facts E; have T1 := trivial)
    | (go_at_call 32; clear T1; refine (bit10_any n1 j _ E.x1 (by omega)).mono ?_; rintro e wb ⟨rfl, hbb⟩; rw [HB1.out]; replace S := S.keep hbb; clear y1 y2 y3 y4 u0 u1 yt yp g1 g2 g3 g4 z1 z2 z3 z4; obtain ⟨wc, rfl⟩ : ∃ q : World, q = wb := ⟨_, rfl⟩; obtain ⟨y1, y2, y3, y4, u0, u1, yt, yp, g1, g2, g3, g4, z1, z2, z3, z4⟩ := S.facts E; have T2 := trivial)
    | (go_at_call 32; clear T2; refine (bit10_any n2 j _ E.x2 (by omega)).mono ?_; rintro e wb ⟨rfl, hbb⟩; rw [HB2.out]; replace S := S.keep hbb; clear y1 y2 y3 y4 u0 u1 yt yp g1 g2 g3 g4 z1 z2 z3 z4; obtain ⟨wc, rfl⟩ : ∃ q : World, q = wb := ⟨_, rfl⟩; obtain ⟨y1, y2, y3, y4, u0, u1, yt, yp, g1, g2, g3, g4, z1, z2, z3, z4⟩ := S.facts E; have T3 := trivial)
    | (go_at_call 32; clear T3; refine (bit10_any n3 j _ E.x3 (by omega)).mono ?_; rintro e wb ⟨rfl, hbb⟩; rw [HB3.out]; replace S := S.keep hbb; clear y1 y2 y3 y4 u0 u1 yt yp g1 g2 g3 g4 z1 z2 z3 z4; obtain ⟨wc, rfl⟩ : ∃ q : World, q = wb := ⟨_, rfl⟩; obtain ⟨y1, y2, y3, y4, u0, u1, yt, yp, g1, g2, g3, g4, z1, z2, z3, z4⟩ := S.facts E; have T4 := trivial)
    | (at_builtin; refine wpList_jpush S 0 (by decide) (hXl 0) (by rfl) (.tmp 96) (.tmp 98) (by rfl) (by rfl) (by rfl) ?_; intro pz cz wz S'; replace S := S'; clear S'; clear y1 y2 y3 y4 u0 u1 yt yp g1 g2 g3 g4 z1 z2 z3 z4; obtain ⟨wc, rfl⟩ : ∃ q : World, q = wz := ⟨_, rfl⟩; obtain ⟨y1, y2, y3, y4, u0, u1, yt, yp, g1, g2, g3, g4, z1, z2, z3, z4⟩ := S.facts E)
    | (at_builtin; refine wpList_jpush S 2 (by decide) (hXl 2) (by rfl) (.tmp 118) (.tmp 120) (by rfl) (by rfl) (by rfl) ?_; intro pz cz wz S'; replace S := S'; clear S'; clear y1 y2 y3 y4 u0 u1 yt yp g1 g2 g3 g4 z1 z2 z3 z4; obtain ⟨wc, rfl⟩ : ∃ q : World, q = wz := ⟨_, rfl⟩; obtain ⟨y1, y2, y3, y4, u0, u1, yt, yp, g1, g2, g3, g4, z1, z2, z3, z4⟩ := S.facts E)
    | (at_builtin; refine wpList_jpush S 4 (by decide) (hXl 4) (by rfl) (.tmp 140) (.tmp 142) (by rfl) (by rfl) (by rfl) ?_; intro pz cz wz S'; replace S := S'; clear S'; clear y1 y2 y3 y4 u0 u1 yt yp g1 g2 g3 g4 z1 z2 z3 z4; obtain ⟨wc, rfl⟩ : ∃ q : World, q = wz := ⟨_, rfl⟩; obtain ⟨y1, y2, y3, y4, u0, u1, yt, yp, g1, g2, g3, g4, z1, z2, z3, z4⟩ := S.facts E))
  rw [HK9.out]
  exact jnext_of HN.out _ S.J (fun q hq => by
    match q, hq with
    | 0, _ | 1, _ | 2, _ | 3, _ | 4, _ => simp [updL, nxX, selB]
    | q + 5, hq => omega) ⟨fun b e => S.AP.lt b (.inl e), fun i k hi hk e => S.AP.aw i k hi hk (.inl e)⟩ S.kT (by rfl)

set_option maxRecDepth 1000000 in
set_option maxHeartbeats 16000000 in
theorem jr_0110 (w wc : World) (rt : Nat → Value) (t : Tr) (bt F m j : Nat) (X : Nat → List (Nat × Nat)) (V : List Ev) (G : List (List Int)) (k f r : Nat → Value) (K : Act → World → Prop) (Q0 : Exit → Act → World → Prop) (qb1 qo1 qb2 qo2 qb3 qo3 qb4 qo4 d1 d2 d3 d4 n1 n2 n3 : Nat) (P4 : Int) (E : JE w rt t F m j qb1 qo1 qb2 qo2 qb3 qo3 qb4 qo4 d1 d2 d3 d4 n1 n2 n3 P4) (hXl : ∀ q, (X q).length ≤ 1000000) (J : JI w wc r X V G) (AP : Apart (fun b => b = bt) wc r) (kT : Blk wc bt (tgC rt t) 34) (HB1 : Hid (n1.testBit j = false)) (HB2 : Hid (n2.testBit j = true)) (HB3 : Hid (n3.testBit j = true)) (hb4 : (P4 == (j : Int)) = false) (HN : Hid (JNext w rt t bt F m j (nxX X F m j (selB false true true false)) V G k K)) :
    Code.wp Tryz.prog jbody (Exit.then K Q0) ⟨jfrm k f r F m j bt, []⟩ wc := by
  obtain ⟨K9, hK9⟩ : ∃ K9, K9 = K := ⟨_, rfl⟩
  have HK9 : Hid _ := hK9
  rw [← hK9]
  clear hK9
  obtain ⟨-, -, -, -, -, -, -, -, -, -, -, hl1, hl2, hl3, hl4, hjm, hj24, hm24, hf24⟩ := id E
  have T0 := trivial
  conv => arg 2; whnf
  unfold jfrm
  go_wp2_with (first
    | (clear T0; refine wpList_storeB (by rfl) 83 (.tmp 19) (.tmp 95) (by rfl) wc.heap.size #[.int .i64 ((F : Int) + (j : Int)), .int .i64 ((F : Int) + (m : Int))] _ 83 (by rfl) (by rfl) Blk.new (by kernel_rfl) (by rfl) (by simp [Value.oneCell']) ?_; intro wa kP oa za; simp only [Act.put]; have S := JS.first J AP kT kP ((below_new _ _).trans (oa.below (by simp) (fun k hk => by omega))); clear za oa kP J AP kT; obtain ⟨bp, hbp⟩ : ∃ bp, wc.heap.size = bp := ⟨_, rfl⟩; rw [hbp] at S ⊢; clear hbp; obtain ⟨wc, rfl⟩ : ∃ q : World, q = wa := ⟨_, rfl⟩; obtain ⟨y1, y2, y3, y4, u0, u1, yt, yp, g1, g2, g3, g4, z1, z2, z3, z4⟩ := S.facts E; have T1 := trivial)
    | (go_at_call 32; clear T1; refine (bit10_any n1 j _ E.x1 (by omega)).mono ?_; rintro e wb ⟨rfl, hbb⟩; rw [HB1.out]; replace S := S.keep hbb; clear y1 y2 y3 y4 u0 u1 yt yp g1 g2 g3 g4 z1 z2 z3 z4; obtain ⟨wc, rfl⟩ : ∃ q : World, q = wb := ⟨_, rfl⟩; obtain ⟨y1, y2, y3, y4, u0, u1, yt, yp, g1, g2, g3, g4, z1, z2, z3, z4⟩ := S.facts E; have T2 := trivial)
    | (go_at_call 32; clear T2; refine (bit10_any n2 j _ E.x2 (by omega)).mono ?_; rintro e wb ⟨rfl, hbb⟩; rw [HB2.out]; replace S := S.keep hbb; clear y1 y2 y3 y4 u0 u1 yt yp g1 g2 g3 g4 z1 z2 z3 z4; obtain ⟨wc, rfl⟩ : ∃ q : World, q = wb := ⟨_, rfl⟩; obtain ⟨y1, y2, y3, y4, u0, u1, yt, yp, g1, g2, g3, g4, z1, z2, z3, z4⟩ := S.facts E; have T3 := trivial)
    | (go_at_call 32; clear T3; refine (bit10_any n3 j _ E.x3 (by omega)).mono ?_; rintro e wb ⟨rfl, hbb⟩; rw [HB3.out]; replace S := S.keep hbb; clear y1 y2 y3 y4 u0 u1 yt yp g1 g2 g3 g4 z1 z2 z3 z4; obtain ⟨wc, rfl⟩ : ∃ q : World, q = wb := ⟨_, rfl⟩; obtain ⟨y1, y2, y3, y4, u0, u1, yt, yp, g1, g2, g3, g4, z1, z2, z3, z4⟩ := S.facts E; have T4 := trivial)
    | (at_builtin; refine wpList_jpush S 0 (by decide) (hXl 0) (by rfl) (.tmp 96) (.tmp 98) (by rfl) (by rfl) (by rfl) ?_; intro pz cz wz S'; replace S := S'; clear S'; clear y1 y2 y3 y4 u0 u1 yt yp g1 g2 g3 g4 z1 z2 z3 z4; obtain ⟨wc, rfl⟩ : ∃ q : World, q = wz := ⟨_, rfl⟩; obtain ⟨y1, y2, y3, y4, u0, u1, yt, yp, g1, g2, g3, g4, z1, z2, z3, z4⟩ := S.facts E)
    | (at_builtin; refine wpList_jpush S 2 (by decide) (hXl 2) (by rfl) (.tmp 118) (.tmp 120) (by rfl) (by rfl) (by rfl) ?_; intro pz cz wz S'; replace S := S'; clear S'; clear y1 y2 y3 y4 u0 u1 yt yp g1 g2 g3 g4 z1 z2 z3 z4; obtain ⟨wc, rfl⟩ : ∃ q : World, q = wz := ⟨_, rfl⟩; obtain ⟨y1, y2, y3, y4, u0, u1, yt, yp, g1, g2, g3, g4, z1, z2, z3, z4⟩ := S.facts E)
    | (at_builtin; refine wpList_jpush S 3 (by decide) (hXl 3) (by rfl) (.tmp 129) (.tmp 131) (by rfl) (by rfl) (by rfl) ?_; intro pz cz wz S'; replace S := S'; clear S'; clear y1 y2 y3 y4 u0 u1 yt yp g1 g2 g3 g4 z1 z2 z3 z4; obtain ⟨wc, rfl⟩ : ∃ q : World, q = wz := ⟨_, rfl⟩; obtain ⟨y1, y2, y3, y4, u0, u1, yt, yp, g1, g2, g3, g4, z1, z2, z3, z4⟩ := S.facts E))
  rw [HK9.out]
  exact jnext_of HN.out _ S.J (fun q hq => by
    match q, hq with
    | 0, _ | 1, _ | 2, _ | 3, _ | 4, _ => simp [updL, nxX, selB]
    | q + 5, hq => omega) ⟨fun b e => S.AP.lt b (.inl e), fun i k hi hk e => S.AP.aw i k hi hk (.inl e)⟩ S.kT (by rfl)

set_option maxRecDepth 1000000 in
set_option maxHeartbeats 16000000 in
theorem jr_0111 (w wc : World) (rt : Nat → Value) (t : Tr) (bt F m j : Nat) (X : Nat → List (Nat × Nat)) (V : List Ev) (G : List (List Int)) (k f r : Nat → Value) (K : Act → World → Prop) (Q0 : Exit → Act → World → Prop) (qb1 qo1 qb2 qo2 qb3 qo3 qb4 qo4 d1 d2 d3 d4 n1 n2 n3 : Nat) (P4 : Int) (E : JE w rt t F m j qb1 qo1 qb2 qo2 qb3 qo3 qb4 qo4 d1 d2 d3 d4 n1 n2 n3 P4) (hXl : ∀ q, (X q).length ≤ 1000000) (J : JI w wc r X V G) (AP : Apart (fun b => b = bt) wc r) (kT : Blk wc bt (tgC rt t) 34) (HB1 : Hid (n1.testBit j = false)) (HB2 : Hid (n2.testBit j = true)) (HB3 : Hid (n3.testBit j = true)) (hb4 : (P4 == (j : Int)) = true) (HN : Hid (JNext w rt t bt F m j (nxX X F m j (selB false true true true)) V G k K)) :
    Code.wp Tryz.prog jbody (Exit.then K Q0) ⟨jfrm k f r F m j bt, []⟩ wc := by
  obtain ⟨K9, hK9⟩ : ∃ K9, K9 = K := ⟨_, rfl⟩
  have HK9 : Hid _ := hK9
  rw [← hK9]
  clear hK9
  obtain ⟨-, -, -, -, -, -, -, -, -, -, -, hl1, hl2, hl3, hl4, hjm, hj24, hm24, hf24⟩ := id E
  have T0 := trivial
  conv => arg 2; whnf
  unfold jfrm
  go_wp2_with (first
    | (clear T0; refine wpList_storeB (by rfl) 83 (.tmp 19) (.tmp 95) (by rfl) wc.heap.size #[.int .i64 ((F : Int) + (j : Int)), .int .i64 ((F : Int) + (m : Int))] _ 83 (by rfl) (by rfl) Blk.new (by kernel_rfl) (by rfl) (by simp [Value.oneCell']) ?_; intro wa kP oa za; simp only [Act.put]; have S := JS.first J AP kT kP ((below_new _ _).trans (oa.below (by simp) (fun k hk => by omega))); clear za oa kP J AP kT; obtain ⟨bp, hbp⟩ : ∃ bp, wc.heap.size = bp := ⟨_, rfl⟩; rw [hbp] at S ⊢; clear hbp; obtain ⟨wc, rfl⟩ : ∃ q : World, q = wa := ⟨_, rfl⟩; obtain ⟨y1, y2, y3, y4, u0, u1, yt, yp, g1, g2, g3, g4, z1, z2, z3, z4⟩ := S.facts E; have T1 := trivial)
    | (go_at_call 32; clear T1; refine (bit10_any n1 j _ E.x1 (by omega)).mono ?_; rintro e wb ⟨rfl, hbb⟩; rw [HB1.out]; replace S := S.keep hbb; clear y1 y2 y3 y4 u0 u1 yt yp g1 g2 g3 g4 z1 z2 z3 z4; obtain ⟨wc, rfl⟩ : ∃ q : World, q = wb := ⟨_, rfl⟩; obtain ⟨y1, y2, y3, y4, u0, u1, yt, yp, g1, g2, g3, g4, z1, z2, z3, z4⟩ := S.facts E; have T2 := trivial)
    | (go_at_call 32; clear T2; refine (bit10_any n2 j _ E.x2 (by omega)).mono ?_; rintro e wb ⟨rfl, hbb⟩; rw [HB2.out]; replace S := S.keep hbb; clear y1 y2 y3 y4 u0 u1 yt yp g1 g2 g3 g4 z1 z2 z3 z4; obtain ⟨wc, rfl⟩ : ∃ q : World, q = wb := ⟨_, rfl⟩; obtain ⟨y1, y2, y3, y4, u0, u1, yt, yp, g1, g2, g3, g4, z1, z2, z3, z4⟩ := S.facts E; have T3 := trivial)
    | (go_at_call 32; clear T3; refine (bit10_any n3 j _ E.x3 (by omega)).mono ?_; rintro e wb ⟨rfl, hbb⟩; rw [HB3.out]; replace S := S.keep hbb; clear y1 y2 y3 y4 u0 u1 yt yp g1 g2 g3 g4 z1 z2 z3 z4; obtain ⟨wc, rfl⟩ : ∃ q : World, q = wb := ⟨_, rfl⟩; obtain ⟨y1, y2, y3, y4, u0, u1, yt, yp, g1, g2, g3, g4, z1, z2, z3, z4⟩ := S.facts E; have T4 := trivial)
    | (at_builtin; refine wpList_jpush S 0 (by decide) (hXl 0) (by rfl) (.tmp 96) (.tmp 98) (by rfl) (by rfl) (by rfl) ?_; intro pz cz wz S'; replace S := S'; clear S'; clear y1 y2 y3 y4 u0 u1 yt yp g1 g2 g3 g4 z1 z2 z3 z4; obtain ⟨wc, rfl⟩ : ∃ q : World, q = wz := ⟨_, rfl⟩; obtain ⟨y1, y2, y3, y4, u0, u1, yt, yp, g1, g2, g3, g4, z1, z2, z3, z4⟩ := S.facts E)
    | (at_builtin; refine wpList_jpush S 2 (by decide) (hXl 2) (by rfl) (.tmp 118) (.tmp 120) (by rfl) (by rfl) (by rfl) ?_; intro pz cz wz S'; replace S := S'; clear S'; clear y1 y2 y3 y4 u0 u1 yt yp g1 g2 g3 g4 z1 z2 z3 z4; obtain ⟨wc, rfl⟩ : ∃ q : World, q = wz := ⟨_, rfl⟩; obtain ⟨y1, y2, y3, y4, u0, u1, yt, yp, g1, g2, g3, g4, z1, z2, z3, z4⟩ := S.facts E)
    | (at_builtin; refine wpList_jpush S 3 (by decide) (hXl 3) (by rfl) (.tmp 129) (.tmp 131) (by rfl) (by rfl) (by rfl) ?_; intro pz cz wz S'; replace S := S'; clear S'; clear y1 y2 y3 y4 u0 u1 yt yp g1 g2 g3 g4 z1 z2 z3 z4; obtain ⟨wc, rfl⟩ : ∃ q : World, q = wz := ⟨_, rfl⟩; obtain ⟨y1, y2, y3, y4, u0, u1, yt, yp, g1, g2, g3, g4, z1, z2, z3, z4⟩ := S.facts E)
    | (at_builtin; refine wpList_jpush S 4 (by decide) (hXl 4) (by rfl) (.tmp 140) (.tmp 142) (by rfl) (by rfl) (by rfl) ?_; intro pz cz wz S'; replace S := S'; clear S'; clear y1 y2 y3 y4 u0 u1 yt yp g1 g2 g3 g4 z1 z2 z3 z4; obtain ⟨wc, rfl⟩ : ∃ q : World, q = wz := ⟨_, rfl⟩; obtain ⟨y1, y2, y3, y4, u0, u1, yt, yp, g1, g2, g3, g4, z1, z2, z3, z4⟩ := S.facts E))
  rw [HK9.out]
  exact jnext_of HN.out _ S.J (fun q hq => by
    match q, hq with
    | 0, _ | 1, _ | 2, _ | 3, _ | 4, _ => simp [updL, nxX, selB]
    | q + 5, hq => omega) ⟨fun b e => S.AP.lt b (.inl e), fun i k hi hk e => S.AP.aw i k hi hk (.inl e)⟩ S.kT (by rfl)
end Go.Proofs.YtcalinfdckklfaaGreatDoor
