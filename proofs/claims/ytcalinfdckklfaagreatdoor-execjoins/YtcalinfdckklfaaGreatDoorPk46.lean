/- The document's Join, a round of its innermost loop: all of it. -/
import Derived.Test.YtcalinfdckklfaaGreatDoorPk45
namespace Go.Proofs.YtcalinfdckklfaaGreatDoor
open Go.RowKit
attribute [local go_sem] Ext.cell Ext.frozen

set_option maxRecDepth 1000000 in
set_option maxHeartbeats 16000000 in
theorem jr_1000 (w wc : World) (rt : Nat → Value) (t : Tr) (bt F m j : Nat) (X : Nat → List (Nat × Nat)) (V : List Ev) (G : List (List Int)) (k f r : Nat → Value) (K : Act → World → Prop) (Q0 : Exit → Act → World → Prop) (qb1 qo1 qb2 qo2 qb3 qo3 qb4 qo4 d1 d2 d3 d4 n1 n2 n3 : Nat) (P4 : Int) (E : JE w rt t F m j qb1 qo1 qb2 qo2 qb3 qo3 qb4 qo4 d1 d2 d3 d4 n1 n2 n3 P4) (hXl : ∀ q, (X q).length ≤ 1000000) (J : JI w wc r X V G) (AP : Apart (fun b => b = bt) wc r) (kT : Blk wc bt (tgC rt t) 34) (HB1 : Hid (n1.testBit j = true)) (HB2 : Hid (n2.testBit j = false)) (HB3 : Hid (n3.testBit j = false)) (hb4 : (P4 == (j : Int)) = false) (HN : Hid (JNext w rt t bt F m j (nxX X F m j (selB true false false false)) V G k K)) :
    Code.wp Tryz.prog jbody (Exit.then K Q0) ⟨jfrm k f r F m j bt, []⟩ wc := by
  obtain ⟨K9, hK9⟩ : ∃ K9, K9 = K := ⟨_, rfl⟩
  have HK9 : Hid _ := hK9
  rw [← hK9]
  clear hK9
  obtain ⟨-, -, -, -, -, -, -, -, -, -, -, hl1, hl2, hl3, hl4, hjm, hj24, hm24, hf24⟩ := id E
  have T0 := trivial
  conv => arg 2; whnf
  unfold jfrm
  go_wp2_with (first
    | (clear T0; refine wpList_storeB (by rfl) 83 (.tmp 19) (.tmp 95) (by rfl) wc.heap.size #[.int .i64 ((F : Int) + (j : Int)), .int .i64 ((F : Int) + (m : Int))] _ 83 (by rfl) (by rfl) Blk.new (by kernel_rfl) (by rfl) (by simp [Value.oneCell']) ?_; intro wa kP oa za; simp only [Act.put]; have S := JS.first J AP kT kP ((below_new _ _).trans (oa.below (by simp) (fun k hk => by omega))); clear za oa kP J AP kT; obtain ⟨bp, hbp⟩ : ∃ bp, wc.heap.size = bp := ⟨_, rfl⟩; rw [hbp] at S ⊢; clear hbp; obtain ⟨wc, rfl⟩ : ∃ q : World, q = wa := ⟨_, rfl⟩; obtain ⟨y1, y2, y3, y4, u0, u1, yt, yp, g1, g2, g3, g4, z1, z2, z3, z4⟩ := S.facts E; have T1 := trivial)
    | (go_at_call 32; clear T1; refine (bit10_any n1 j _ E.x1 (by omega)).mono ?_; rintro e wb ⟨rfl, hbb⟩; rw [HB1.out]; replace S := S.keep hbb; clear y1 y2 y3 y4 u0 u1 yt yp g1 g2 g3 g4 z1 z2 z3 z4; obtain ⟨wc, rfl⟩ : ∃ q : World, q = wb := ⟨_, rfl⟩; obtain ⟨y1, y2, y3, y4, u0, u1, yt, yp, g1, g2, g3, g4, z1, z2, z3, z4⟩ := S.facts E; have T2 := trivial)
    | (go_at_call 32; clear T2; refine (bit10_any n2 j _ E.x2 (by omega)).mono ?_; rintro e wb ⟨rfl, hbb⟩; rw [HB2.out]; replace S := S.keep hbb; clear y1 y2 y3 y4 u0 u1 yt yp g1 g2 g3 g4 z1 z2 z3 z4; obtain ⟨wc, rfl⟩ : ∃ q : World, q = wb := ⟨_, rfl⟩; obtain ⟨y1, y2, y3, y4, u0, u1, yt, yp, g1, g2, g3, g4, z1, z2, z3, z4⟩ := S.facts E; have T3 := trivial)
    | (go_at_call 32; clear T3; refine (bit10_any n3 j _ E.x3 (by omega)).mono ?_; rintro e wb ⟨rfl, hbb⟩; rw [HB3.out]; replace S := S.keep hbb; clear y1 y2 y3 y4 u0 u1 yt yp g1 g2 g3 g4 z1 z2 z3 z4; obtain ⟨wc, rfl⟩ : ∃ q : World, q = wb := ⟨_, rfl⟩; obtain ⟨y1, y2, y3, y4, u0, u1, yt, yp, g1, g2, g3, g4, z1, z2, z3, z4⟩ := S.facts E; have T4 := trivial)
    | (at_builtin; refine wpList_jpush S 0 (by decide) (hXl 0) (by rfl) (.tmp 96) (.tmp 98) (by rfl) (by rfl) (by rfl) ?_; intro pz cz wz S'; replace S := S'; clear S'; clear y1 y2 y3 y4 u0 u1 yt yp g1 g2 g3 g4 z1 z2 z3 z4; obtain ⟨wc, rfl⟩ : ∃ q : World, q = wz := ⟨_, rfl⟩; obtain ⟨y1, y2, y3, y4, u0, u1, yt, yp, g1, g2, g3, g4, z1, z2, z3, z4⟩ := S.facts E)
    | (at_builtin; refine wpList_jpush S 1 (by decide) (hXl 1) (by rfl) (.tmp 107) (.tmp 109) (by rfl) (by rfl) (by rfl) ?_; intro pz cz wz S'; replace S := S'; clear S'; clear y1 y2 y3 y4 u0 u1 yt yp g1 g2 g3 g4 z1 z2 z3 z4; obtain ⟨wc, rfl⟩ : ∃ q : World, q = wz := ⟨_, rfl⟩; obtain ⟨y1, y2, y3, y4, u0, u1, yt, yp, g1, g2, g3, g4, z1, z2, z3, z4⟩ := S.facts E))
  rw [HK9.out]
  exact jnext_of HN.out _ S.J (fun q hq => by
    match q, hq with
    | 0, _ | 1, _ | 2, _ | 3, _ | 4, _ => simp [updL, nxX, selB]
    | q + 5, hq => omega) ⟨fun b e => S.AP.lt b (.inl e), fun i k hi hk e => S.AP.aw i k hi hk (.inl e)⟩ S.kT (by rfl)

set_option maxRecDepth 1000000 in
set_option maxHeartbeats 16000000 in
theorem jr_1001 (w wc : World) (rt : Nat → Value) (t : Tr) (bt F m j : Nat) (X : Nat → List (Nat × Nat)) (V : List Ev) (G : List (List Int)) (k f r : Nat → Value) (K : Act → World → Prop) (Q0 : Exit → Act → World → Prop) (qb1 qo1 qb2 qo2 qb3 qo3 qb4 qo4 d1 d2 d3 d4 n1 n2 n3 : Nat) (P4 : Int) (E : JE w rt t F m j qb1 qo1 qb2 qo2 qb3 qo3 qb4 qo4 d1 d2 d3 d4 n1 n2 n3 P4) (hXl : ∀ q, (X q).length ≤ 1000000) (J : JI w wc r X V G) (AP : Apart (fun b => b = bt) wc r) (kT : Blk wc bt (tgC rt t) 34) (HB1 : Hid (n1.testBit j = true)) (HB2 : Hid (n2.testBit j = false)) (HB3 : Hid (n3.testBit j = false)) (hb4 : (P4 == (j : Int)) = true) (HN : Hid (JNext w rt t bt F m j (nxX X F m j (selB true false false true)) V G k K)) :
    Code.wp Tryz.prog jbody (Exit.then K Q0) ⟨jfrm k f r F m j bt, []⟩ wc := by
  obtain ⟨K9, hK9⟩ : ∃ K9, K9 = K := ⟨_, rfl⟩
  have HK9 : Hid _ := hK9
  rw [← hK9]
  clear hK9
  obtain ⟨-, -, -, -, -, -, -, -, -, -, -, hl1, hl2, hl3, hl4, hjm, hj24, hm24, hf24⟩ := id E
  have T0 := trivial
  conv => arg 2; whnf
  unfold jfrm
  go_wp2_with (first
    | (clear T0; refine wpList_storeB (by rfl) 83 (.tmp 19) (.tmp 95) (by rfl) wc.heap.size #[.int .i64 ((F : Int) + (j : Int)), .int .i64 ((F : Int) + (m : Int))] _ 83 (by rfl) (by rfl) Blk.new (by kernel_rfl) (by rfl) (by simp [Value.oneCell']) ?_; intro wa kP oa za; simp only [Act.put]; have S := JS.first J AP kT kP ((below_new _ _).trans (oa.below (by simp) (fun k hk => by omega))); clear za oa kP J AP kT; obtain ⟨bp, hbp⟩ : ∃ bp, wc.heap.size = bp := ⟨_, rfl⟩; rw [hbp] at S ⊢; clear hbp; obtain ⟨wc, rfl⟩ : ∃ q : World, q = wa := ⟨_, rfl⟩; obtain ⟨y1, y2, y3, y4, u0, u1, yt, yp, g1, g2, g3, g4, z1, z2, z3, z4⟩ := S.facts E; have T1 := trivial)
    | (go_at_call 32; clear T1; refine (bit10_any n1 j _ E.x1 (by omega)).mono ?_; rintro e wb ⟨rfl, hbb⟩; rw [HB1.out]; replace S := S.keep hbb; clear y1 y2 y3 y4 u0 u1 yt yp g1 g2 g3 g4 z1 z2 z3 z4; obtain ⟨wc, rfl⟩ : ∃ q : World, q = wb := ⟨_, rfl⟩; obtain ⟨y1, y2, y3, y4, u0, u1, yt, yp, g1, g2, g3, g4, z1, z2, z3, z4⟩ := S.facts E; have T2 := trivial)
    | (go_at_call 32; clear T2; refine (bit10_any n2 j _ E.x2 (by omega)).mono ?_; rintro e wb ⟨rfl, hbb⟩; rw [HB2.out]; replace S := S.keep hbb; clear y1 y2 y3 y4 u0 u1 yt yp g1 g2 g3 g4 z1 z2 z3 z4; obtain ⟨wc, rfl⟩ : ∃ q : World, q = wb := ⟨_, rfl⟩; obtain ⟨y1, y2, y3, y4, u0, u1, yt, yp, g1, g2, g3, g4, z1, z2, z3, z4⟩ := S.facts E; have T3 := trivial)
    | (go_at_call 32; clear T3; refine (bit10_any n3 j _ E.x3 (by omega)).mono ?_; rintro e wb ⟨rfl, hbb⟩; rw [HB3.out]; replace S := S.keep hbb; clear y1 y2 y3 y4 u0 u1 yt yp g1 g2 g3 g4 z1 z2 z3 z4; obtain ⟨wc, rfl⟩ : ∃ q : World, q = wb := ⟨_, rfl⟩; obtain ⟨y1, y2, y3, y4, u0, u1, yt, yp, g1, g2, g3, g4, z1, z2, z3, z4⟩ := S.facts E; have T4 := trivial)
    | (at_builtin; refine wpList_jpush S 0 (by decide) (hXl 0) (by rfl) (.tmp 96) (.tmp 98) (by rfl) (by rfl) (by rfl) ?_; intro pz cz wz S'; replace S := S'; clear S'; clear y1 y2 y3 y4 u0 u1 yt yp g1 g2 g3 g4 z1 z2 z3 z4; obtain ⟨wc, rfl⟩ : ∃ q : World, q = wz := ⟨_, rfl⟩; obtain ⟨y1, y2, y3, y4, u0, u1, yt, yp, g1, g2, g3, g4, z1, z2, z3, z4⟩ := S.facts E)
    | (at_builtin; refine wpList_jpush S 1 (by decide) (hXl 1) (by rfl) (.tmp 107) (.tmp 109) (by rfl) (by rfl) (by rfl) ?_; intro pz cz wz S'; replace S := S'; clear S'; clear y1 y2 y3 y4 u0 u1 yt yp g1 g2 g3 g4 z1 z2 z3 z4; obtain ⟨wc, rfl⟩ : ∃ q : World, q = wz := ⟨_, rfl⟩; obtain ⟨y1, y2, y3, y4, u0, u1, yt, yp, g1, g2, g3, g4, z1, z2, z3, z4⟩ := S.facts E)
    | (at_builtin; refine wpList_jpush S 4 (by decide) (hXl 4) (by rfl) (.tmp 140) (.tmp 142) (by rfl) (by rfl) (by rfl) ?_; intro pz cz wz S'; replace S := S'; clear S'; clear y1 y2 y3 y4 u0 u1 yt yp g1 g2 g3 g4 z1 z2 z3 z4; obtain ⟨wc, rfl⟩ : ∃ q : World, q = wz := ⟨_, rfl⟩; obtain ⟨y1, y2, y3, y4, u0, u1, yt, yp, g1, g2, g3, g4, z1, z2, z3, z4⟩ := S.facts E))
  rw [HK9.out]
  exact jnext_of HN.out _ S.J (fun q hq => by
    match q, hq with
    | 0, _ | 1, _ | 2, _ | 3, _ | 4, _ => simp [updL, nxX, selB]
    | q + 5, hq => omega) ⟨fun b e => S.AP.lt b (.inl e), fun i k hi hk e => S.AP.aw i k hi hk (.inl e)⟩ S.kT (by rfl)

set_option maxRecDepth 1000000 in
set_option maxHeartbeats 16000000 in
theorem jr_1010 (w wc : World) (rt : Nat → Value) (t : Tr) (bt F m j : Nat) (X : Nat → List (Nat × Nat)) (V : List Ev) (G : List (List Int)) (k f r : Nat → Value) (K : Act → World → Prop) (Q0 : Exit → Act → World → Prop) (qb1 qo1 qb2 qo2 qb3 qo3 qb4 qo4 d1 d2 d3 d4 n1 n2 n3 : Nat) (P4 : Int) (E : JE w rt t F m j qb1 qo1 qb2 qo2 qb3 qo3 qb4 qo4 d1 d2 d3 d4 n1 n2 n3 P4) (hXl : ∀ q, (X q).length ≤ 1000000) (J : JI w wc r X V G) (AP : Apart (fun b => b = bt) wc r) (kT : Blk wc bt (tgC rt t) 34) (HB1 : Hid (n1.testBit j = true)) (HB2 : Hid (n2.testBit j = false)) (HB3 : Hid (n3.testBit j = true)) (hb4 : (P4 == (j : Int)) = false) (HN : Hid (JNext w rt t bt F m j (nxX X F m j (selB true false true false)) V G k K)) :
    Code.wp Tryz.prog jbody (Exit.then K Q0) ⟨jfrm k f r F m j bt, []⟩ wc := by
  obtain ⟨K9, hK9⟩ : ∃ K9, K9 = K := ⟨_, rfl⟩
  have HK9 : Hid _ := hK9
  rw [← hK9]
  clear hK9
  obtain ⟨-, -, -, -, -, -, -, -, -, -, -, hl1, hl2, hl3, hl4, hjm, hj24, hm24, hf24⟩ := id E
  have T0 := trivial
  conv => arg 2; whnf
  unfold jfrm
  go_wp2_with (first
    | (clear T0; refine wpList_storeB (by rfl) 83 (.tmp 19) (.tmp 95) (by rfl) wc.heap.size #[.int .i64 ((F : Int) + (j : Int)), .int .i64 ((F : Int) + (m : Int))] _ 83 (by rfl) (by rfl) Blk.new (by kernel_rfl) (by rfl) (by simp [Value.oneCell']) ?_; intro wa kP oa za; simp only [Act.put]; have S := JS.first J AP kT kP ((below_new _ _).trans (oa.below (by simp) (fun k hk => by omega))); clear za oa kP J AP kT; obtain ⟨bp, hbp⟩ : ∃ bp, wc.heap.size = bp := ⟨_, rfl⟩; rw [hbp] at S ⊢; clear hbp; obtain ⟨wc, rfl⟩ : ∃ q : World, q = wa := ⟨_, rfl⟩; obtain ⟨y1, y2, y3, y4, u0, u1, yt, yp, g1, g2, g3, g4, z1, z2, z3, z4⟩ := S.facts E; have T1 := trivial)
    | (go_at_call 32; clear T1; refine (bit10_any n1 j _ E.x1 (by omega)).mono ?_; rintro e wb ⟨rfl, hbb⟩; rw [HB1.out]; replace S := S.keep hbb; clear y1 y2 y3 y4 u0 u1 yt yp g1 g2 g3 g4 z1 z2 z3 z4; obtain ⟨wc, rfl⟩ : ∃ q : World, q = wb := ⟨_, rfl⟩; obtain ⟨y1, y2, y3, y4, u0, u1, yt, yp, g1, g2, g3, g4, z1, z2, z3, z4⟩ := S.facts E; have T2 := trivial)
    | (go_at_call 32; clear T2; refine (bit10_any n2 j _ E.x2 (by omega)).mono ?_; rintro e wb ⟨rfl, hbb⟩; rw [HB2.out]; replace S := S.keep hbb; clear y1 y2 y3 y4 u0 u1 yt yp g1 g2 g3 g4 z1 z2 z3 z4; obtain ⟨wc, rfl⟩ : ∃ q : World, q = wb := ⟨_, rfl⟩; obtain ⟨y1, y2, y3, y4, u0, u1, yt, yp, g1, g2, g3, g4, z1, z2, z3, z4⟩ := S.facts E; have T3 := trivial)
    | (go_at_call 32; clear T3; refine (bit10_any n3 j _ E.x3 (by omega)).mono ?_; rintro e wb ⟨rfl, hbb⟩; rw [HB3.out]; replace S := S.keep hbb; clear y1 y2 y3 y4 u0 u1 yt yp g1 g2 g3 g4 z1 z2 z3 z4; obtain ⟨wc, rfl⟩ : ∃ q : World, q = wb := ⟨_, rfl⟩; obtain ⟨y1, y2, y3, y4, u0, u1, yt, yp, g1, g2, g3, g4, z1, z2, z3, z4⟩ := S.facts E; have T4 := trivial)
    | (at_builtin; refine wpList_jpush S 0 (by decide) (hXl 0) (by rfl) (.tmp 96) (.tmp 98) (by rfl) (by rfl) (by rfl) ?_; intro pz cz wz S'; replace S := S'; clear S'; clear y1 y2 y3 y4 u0 u1 yt yp g1 g2 g3 g4 z1 z2 z3 z4; obtain ⟨wc, rfl⟩ : ∃ q : World, q = wz := ⟨_, rfl⟩; obtain ⟨y1, y2, y3, y4, u0, u1, yt, yp, g1, g2, g3, g4, z1, z2, z3, z4⟩ := S.facts E)
    | (at_builtin; refine wpList_jpush S 1 (by decide) (hXl 1) (by rfl) (.tmp 107) (.tmp 109) (by rfl) (by rfl) (by rfl) ?_; intro pz cz wz S'; replace S := S'; clear S'; clear y1 y2 y3 y4 u0 u1 yt yp g1 g2 g3 g4 z1 z2 z3 z4; obtain ⟨wc, rfl⟩ : ∃ q : World, q = wz := ⟨_, rfl⟩; obtain ⟨y1, y2, y3, y4, u0, u1, yt, yp, g1, g2, g3, g4, z1, z2, z3, z4⟩ := S.facts E)
    | (at_builtin; refine wpList_jpush S 3 (by decide) (hXl 3) (by rfl) (.tmp 129) (.tmp 131) (by rfl) (by rfl) (by rfl) ?_; intro pz cz wz S'; replace S := S'; clear S'; clear y1 y2 y3 y4 u0 u1 yt yp g1 g2 g3 g4 z1 z2 z3 z4; obtain ⟨wc, rfl⟩ : ∃ q : World, q = wz := ⟨_, rfl⟩; obtain ⟨y1, y2, y3, y4, u0, u1, yt, yp, g1, g2, g3, g4, z1, z2, z3, z4⟩ := S.facts E))
  rw [HK9.out]
  exact jnext_of HN.out _ S.J (fun q hq => by
    match q, hq with
    | 0, _ | 1, _ | 2, _ | 3, _ | 4, _ => simp [updL, nxX, selB]
    | q + 5, hq => omega) ⟨fun b e => S.AP.lt b (.inl e), fun i k hi hk e => S.AP.aw i k hi hk (.inl e)⟩ S.kT (by rfl)

set_option maxRecDepth 1000000 in
set_option maxHeartbeats 16000000 in
theorem jr_1011 (w wc : World) (rt : Nat → Value) (t : Tr) (bt F m j : Nat) (X : Nat → List (Nat × Nat)) (V : List Ev) (G : List (List Int)) (k f r : Nat → Value) (K : Act → World → Prop) (Q0 : Exit → Act → World → Prop) (qb1 qo1 qb2 qo2 qb3 qo3 qb4 qo4 d1 d2 d3 d4 n1 n2 n3 : Nat) (P4 : Int) (E : JE w rt t F m j qb1 qo1 qb2 qo2 qb3 qo3 qb4 qo4 d1 d2 d3 d4 n1 n2 n3 P4) (hXl : ∀ q, (X q).length ≤ 1000000) (J : JI w wc r X V G) (AP : Apart (fun b => b = bt) wc r) (kT : Blk wc bt (tgC rt t) 34) (HB1 : Hid (n1.testBit j = true)) (HB2 : Hid (n2.testBit j = false)) (HB3 : Hid (n3.testBit j = true)) (hb4 : (P4 == (j : Int)) = true) (HN : Hid (JNext w rt t bt F m j (nxX X F m j (selB true false true true)) V G k K)) :
    Code.wp Tryz.prog jbody (Exit.then K Q0) ⟨jfrm k f r F m j bt, []⟩ wc := by
  obtain ⟨K9, hK9⟩ : ∃ K9, K9 = K := ⟨_, rfl⟩
  have HK9 : Hid _ := hK9
  rw [← hK9]
  clear hK9
  obtain ⟨-, -, -, -, -, -, -, -, -, -, -, hl1, hl2, hl3, hl4, hjm, hj24, hm24, hf24⟩ := id E
  have T0 := trivial
  conv => arg 2; whnf
  unfold jfrm
  go_wp2_with (first
    | (clear T0; refine wpList_storeB (by rfl) 83 (.tmp 19) (.tmp 95) (by rfl) wc.heap.size #[.int .i64 ((F : Int) + (j : Int)), .int .i64 ((F : Int) + (m : Int))] _ 83 (by rfl) (by rfl) Blk.new (by kernel_rfl) (by rfl) (by simp [Value.oneCell']) ?_; intro wa kP oa za; simp only [Act.put]; have S := JS.first J AP kT kP ((below_new _ _).trans (oa.below (by simp) (fun k hk => by omega))); clear za oa kP J AP kT; obtain ⟨bp, hbp⟩ : ∃ bp, wc.heap.size = bp := ⟨_, rfl⟩; rw [hbp] at S ⊢; clear hbp; obtain ⟨wc, rfl⟩ : ∃ q : World, q = wa := ⟨_, rfl⟩; obtain ⟨y1, y2, y3, y4, u0, u1, yt, yp, g1, g2, g3, g4, z1, z2, z3, z4⟩ := S.facts E; have T1 := trivial)
    | (go_at_call 32; clear T1; refine (bit10_any n1 j _ E.x1 (by omega)).mono ?_; rintro e wb ⟨rfl, hbb⟩; rw [HB1.out]; replace S := S.keep hbb; clear y1 y2 y3 y4 u0 u1 yt yp g1 g2 g3 g4 z1 z2 z3 z4; obtain ⟨wc, rfl⟩ : ∃ q : World, q = wb := ⟨_, rfl⟩; obtain ⟨y1, y2, y3, y4, u0, u1, yt, yp, g1, g2, g3, g4, z1, z2, z3, z4⟩ := S.facts E; have T2 := trivial)
    | (go_at_call 32; clear T2; refine (bit10_any n2 j _ E.x2 (by omega)).mono ?_; rintro e wb ⟨rfl, hbb⟩; rw [HB2.out]; replace S := S.keep hbb; clear y1 y2 y3 y4 u0 u1 yt yp g1 g2 g3 g4 z1 z2 z3 z4; obtain ⟨wc, rfl⟩ : ∃ q : World, q = wb := ⟨_, rfl⟩; obtain ⟨y1, y2, y3, y4, u0, u1, yt, yp, g1, g2, g3, g4, z1, z2, z3, z4⟩ := S.facts E; have T3 := trivial)
    | (go_at_call 32; clear T3; refine (bit10_any n3 j _ E.x3 (by omega)).mono ?_; rintro e wb ⟨rfl, hbb⟩; rw [HB3.out]; replace S := S.keep hbb; clear y1 y2 y3 y4 u0 u1 yt yp g1 g2 g3 g4 z1 z2 z3 z4; obtain ⟨wc, rfl⟩ : ∃ q : World, q = wb := ⟨_, rfl⟩; obtain ⟨y1, y2, y3, y4, u0, u1, yt, yp, g1, g2, g3, g4, z1, z2, z3, z4⟩ := S.facts E; have T4 := trivial)
    | (at_builtin; refine wpList_jpush S 0 (by decide) (hXl 0) (by rfl) (.tmp 96) (.tmp 98) (by rfl) (by rfl) (by rfl) ?_; intro pz cz wz S'; replace S := S'; clear S'; clear y1 y2 y3 y4 u0 u1 yt yp g1 g2 g3 g4 z1 z2 z3 z4; obtain ⟨wc, rfl⟩ : ∃ q : World, q = wz := ⟨_, rfl⟩; obtain ⟨y1, y2, y3, y4, u0, u1, yt, yp, g1, g2, g3, g4, z1, z2, z3, z4⟩ := S.facts E)
    | (at_builtin; refine wpList_jpush S 1 (by decide) (hXl 1) (by rfl) (.tmp 107) (.tmp 109) (by rfl) (by rfl) (by rfl) ?_; intro pz cz wz S'; replace S := S'; clear S'; clear y1 y2 y3 y4 u0 u1 yt yp g1 g2 g3 g4 z1 z2 z3 z4; obtain ⟨wc, rfl⟩ : ∃ q : World, q = wz := ⟨_, rfl⟩; obtain ⟨y1, y2, y3, y4, u0, u1, yt, yp, g1, g2, g3, g4, z1, z2, z3, z4⟩ := S.facts E)
    | (at_builtin; refine wpList_jpush S 3 (by decide) (hXl 3) (by rfl) (.tmp 129) (.tmp 131) (by rfl) (by rfl) (by rfl) ?_; intro pz cz wz S'; replace S := S'; clear S'; clear y1 y2 y3 y4 u0 u1 yt yp g1 g2 g3 g4 z1 z2 z3 z4; obtain ⟨wc, rfl⟩ : ∃ q : World, q = wz := ⟨_, rfl⟩; obtain ⟨y1, y2, y3, y4, u0, u1, yt, yp, g1, g2, g3, g4, z1, z2, z3, z4⟩ := S.facts E)
    | (at_builtin; refine wpList_jpush S 4 (by decide) (hXl 4) (by rfl) (.tmp 140) (.tmp 142) (by rfl) (by rfl) (by rfl) ?_; intro pz cz wz S'; replace S := S'; clear S'; clear y1 y2 y3 y4 u0 u1 yt yp g1 g2 g3 g4 z1 z2 z3 z4; obtain ⟨wc, rfl⟩ : ∃ q : World, q = wz := ⟨_, rfl⟩; obtain ⟨y1, y2, y3, y4, u0, u1, yt, yp, g1, g2, g3, g4, z1, z2, z3, z4⟩ := S.facts E))
  rw [HK9.out]
  exact jnext_of HN.out _ S.J (fun q hq => by
    match q, hq with
    | 0, _ | 1, _ | 2, _ | 3, _ | 4, _ => simp [updL, nxX, selB]
    | q + 5, hq => omega) ⟨fun b e => S.AP.lt b (.inl e), fun i k hi hk e => S.AP.aw i k hi hk (.inl e)⟩ S.kT (by rfl)

set_option maxRecDepth 1000000 in
set_option maxHeartbeats 16000000 in
theorem jr_1100 (w wc : World) (rt : Nat → Value) (t : Tr) (bt F m j : Nat) (X : Nat → List (Nat × Nat)) (V : List Ev) (G : List (List Int)) (k f r : Nat → Value) (K : Act → World → Prop) (Q0 : Exit → Act → World → Prop) (qb1 qo1 qb2 qo2 qb3 qo3 qb4 qo4 d1 d2 d3 d4 n1 n2 n3 : Nat) (P4 : Int) (E : JE w rt t F m j qb1 qo1 qb2 qo2 qb3 qo3 qb4 qo4 d1 d2 d3 d4 n1 n2 n3 P4) (hXl : ∀ q, (X q).length ≤ 1000000) (J : JI w wc r X V G) (AP : Apart (fun b => b = bt) wc r) (kT : Blk wc bt (tgC rt t) 34) (HB1 : Hid (n1.testBit j = true)) (HB2 : Hid (n2.testBit j = true)) (HB3 : Hid (n3.testBit j = false)) (hb4 : (P4 == (j : Int)) = false) (HN : Hid (JNext w rt t bt F m j (nxX X F m j (selB true true false false)) V G k K)) :
    Code.wp Tryz.prog jbody (Exit.then K Q0) ⟨jfrm k f r F m j bt, []⟩ wc := by
  obtain ⟨K9, hK9⟩ : ∃ K9, K9 = K := ⟨_, rfl⟩
  have HK9 : Hid _ := hK9
  rw [← hK9]
  clear hK9
  obtain ⟨-, -, -, -, -, -, -, -, -, -, -, hl1, hl2, hl3, hl4, hjm, hj24, hm24, hf24⟩ := id E
  have T0 := trivial
  conv => arg 2; whnf
  unfold jfrm
  go_wp2_with (first
    | (clear T0; refine wpList_storeB (by rfl) 83 (.tmp 19) (.tmp 95) (by rfl) wc.heap.size #[.int .i64 ((F : Int) + (j : Int)), .int .i64 ((F : Int) + (m : Int))] _ 83 (by rfl) (by rfl) Blk.new (by kernel_rfl) (by rfl) (by simp [Value.oneCell']) ?_; intro wa kP oa za; simp only [Act.put]; have S := JS.first J AP kT kP ((below_new _ _).trans (oa.below (by simp) (fun k hk => by omega))); clear za oa kP J AP kT; obtain ⟨bp, hbp⟩ : ∃ bp, wc.heap.size = bp := ⟨_, rfl⟩; rw [hbp] at S ⊢; clear hbp; obtain ⟨wc, rfl⟩ : ∃ q : World, q = wa := ⟨_, rfl⟩; obtain ⟨y1, y2, y3, y4, u0, u1, yt, yp, g1, g2, g3, g4, z1, z2, z3, z4⟩ := S.facts E; have T1 := trivial)
    | (go_at_call 32; clear T1; refine (bit10_any n1 j _ E.x1 (by omega)).mono ?_; rintro e wb ⟨rfl, hbb⟩; rw [HB1.out]; replace S := S.keep hbb; clear y1 y2 y3 y4 u0 u1 yt yp g1 g2 g3 g4 z1 z2 z3 z4; obtain ⟨wc, rfl⟩ : ∃ q : World, q = wb := ⟨_, rfl⟩; obtain ⟨y1, y2, y3, y4, u0, u1, yt, yp, g1, g2, g3, g4, z1, z2, z3, z4⟩ := S.facts E; have T2 := trivial)
    | (go_at_call 32; clear T2; refine (bit10_any n2 j _ E.x2 (by omega)).mono ?_; rintro e wb ⟨rfl, hbb⟩; rw [HB2.out]; replace S := S.keep hbb; clear y1 y2 y3 y4 u0 u1 yt yp g1 g2 g3 g4 z1 z2 z3 z4; obtain ⟨wc, rfl⟩ : ∃ q : World, q = wb := ⟨_, rfl⟩; obtain ⟨y1, y2, y3, y4, u0, u1, yt, yp, g1, g2, g3, g4, z1, z2, z3, z4⟩ := S.facts E; have T3 := trivial)
    | (go_at_call 32; clear T3; refine (bit10_any n3 j _ E.x3 (by omega)).mono ?_; rintro e wb ⟨rfl, hbb⟩; rw [HB3.out]; replace S := S.keep hbb; clear y1 y2 y3 y4 u0 u1 yt yp g1 g2 g3 g4 z1 z2 z3 z4; obtain ⟨wc, rfl⟩ : ∃ q : World, q = wb := ⟨_, rfl⟩; obtain ⟨y1, y2, y3, y4, u0, u1, yt, yp, g1, g2, g3, g4, z1, z2, z3, z4⟩ := S.facts E; have T4 := trivial)
    | (at_builtin; refine wpList_jpush S 0 (by decide) (hXl 0) (by rfl) (.tmp 96) (.tmp 98) (by rfl) (by rfl) (by rfl) ?_; intro pz cz wz S'; replace S := S'; clear S'; clear y1 y2 y3 y4 u0 u1 yt yp g1 g2 g3 g4 z1 z2 z3 z4; obtain ⟨wc, rfl⟩ : ∃ q : World, q = wz := ⟨_, rfl⟩; obtain ⟨y1, y2, y3, y4, u0, u1, yt, yp, g1, g2, g3, g4, z1, z2, z3, z4⟩ := S.facts E)
    | (at_builtin; refine wpList_jpush S 1 (by decide) (hXl 1) (by rfl) (.tmp 107) (.tmp 109) (by rfl) (by rfl) (by rfl) ?_; intro pz cz wz S'; replace S := S'; clear S'; clear y1 y2 y3 y4 u0 u1 yt yp g1 g2 g3 g4 z1 z2 z3 z4; obtain ⟨wc, rfl⟩ : ∃ q : World, q = wz := ⟨_, rfl⟩; obtain ⟨y1, y2, y3, y4, u0, u1, yt, yp, g1, g2, g3, g4, z1, z2, z3, z4⟩ := S.facts E)
    | (at_builtin; refine wpList_jpush S 2 (by decide) (hXl 2) (by rfl) (.tmp 118) (.tmp 120) (by rfl) (by rfl) (by rfl) ?_; intro pz cz wz S'; replace S := S'; clear S'; clear y1 y2 y3 y4 u0 u1 yt yp g1 g2 g3 g4 z1 z2 z3 z4; obtain ⟨wc, rfl⟩ : ∃ q : World, q = wz := ⟨_, rfl⟩; obtain ⟨y1, y2, y3, y4, u0, u1, yt, yp, g1, g2, g3, g4, z1, z2, z3, z4⟩ := S.facts E))
  rw [HK9.out]
  exact jnext_of HN.out _ S.J (fun q hq => by
    match q, hq with
    | 0, _ | 1, _ | 2, _ | 3, _ | 4, _ => simp [updL, nxX, selB]
    | q + 5, hq => omega) ⟨fun b e => S.AP.lt b (.inl e), fun i k hi hk e => S.AP.aw i k hi hk (.inl e)⟩ S.kT (by rfl)

set_option maxRecDepth 1000000 in
set_option maxHeartbeats 16000000 in
theorem jr_1101 (w wc : World) (rt : Nat → Value) (t : Tr) (bt F m j : Nat) (X : Nat → List (Nat × Nat)) (V : List Ev) (G : List (List Int)) (k f r : Nat → Value) (K : Act → World → Prop) (Q0 : Exit → Act → World → Prop) (qb1 qo1 qb2 qo2 qb3 qo3 qb4 qo4 d1 d2 d3 d4 n1 n2 n3 : Nat) (P4 : Int) (E : JE w rt t F m j qb1 qo1 qb2 qo2 qb3 qo3 qb4 qo4 d1 d2 d3 d4 n1 n2 n3 P4) (hXl : ∀ q, (X q).length ≤ 1000000) (J : JI w wc r X V G) (AP : Apart (fun b => b = bt) wc r) (kT : Blk wc bt (tgC rt t) 34) (HB1 : Hid (n1.testBit j = true)) (HB2 : Hid (n2.testBit j = true)) (HB3 : Hid (n3.testBit j = false)) (hb4 : (P4 == (j : Int)) = true) (HN : Hid (JNext w rt t bt F m j (nxX X F m j (selB true true false true)) V G k K)) :
    Code.wp Tryz.prog jbody (Exit.then K Q0) ⟨jfrm k f r F m j bt, []⟩ wc := by
  obtain ⟨K9, hK9⟩ : ∃ K9, K9 = K := ⟨_, rfl⟩
  have HK9 : Hid _ := hK9
  rw [← hK9]
  clear hK9
  obtain ⟨-, -, -, -, -, -, -, -, -, -, -, hl1, hl2, hl3, hl4, hjm, hj24, hm24, hf24⟩ := id E
  have T0 := trivial
  conv => arg 2; whnf
  unfold jfrm
  go_wp2_with (first
    | (clear T0; refine wpList_storeB (by rfl) 83 (.tmp 19) (.tmp 95) (by rfl) wc.heap.size #[.int .i64 ((F : Int) + (j : Int)), .int .i64 ((F : Int) + (m : Int))] _ 83 (by rfl) (by rfl) Blk.new (by kernel_rfl) (by rfl) (by simp [Value.oneCell']) ?_; intro wa kP oa za; simp only [Act.put]; have S := JS.first J AP kT kP ((below_new _ _).trans (oa.below (by simp) (fun k hk => by omega))); clear za oa kP J AP kT; obtain ⟨bp, hbp⟩ : ∃ bp, wc.heap.size = bp := ⟨_, rfl⟩; rw [hbp] at S ⊢; clear hbp; obtain ⟨wc, rfl⟩ : ∃ q : World, q = wa := ⟨_, rfl⟩; obtain ⟨y1, y2, y3, y4, u0, u1, yt, yp, g1, g2, g3, g4, z1, z2, z3, z4⟩ := S.facts E; have T1 := trivial)
    | (go_at_call 32; clear T1; refine (bit10_any n1 j _ E.x1 (by omega)).mono ?_; rintro e wb ⟨rfl, hbb⟩; rw [HB1.out]; replace S := S.keep hbb; clear y1 y2 y3 y4 u0 u1 yt yp g1 g2 g3 g4 z1 z2 z3 z4; obtain ⟨wc, rfl⟩ : ∃ q : World, q = wb := ⟨_, rfl⟩; obtain ⟨y1, y2, y3, y4, u0, u1, yt, yp, g1, g2, g3, g4, z1, z2, z3, z4⟩ := S.facts E; have T2 := trivial)
    | (go_at_call 32; clear T2; refine (bit10_any n2 j _ E.x2 (by omega)).mono ?_; rintro e wb ⟨rfl, hbb⟩; rw [HB2.out]; replace S := S.keep hbb; clear y1 y2 y3 y4 u0 u1 yt yp g1 g2 g3 g4 z1 z2 z3 z4; obtain ⟨wc, rfl⟩ : ∃ q : World, q = wb := ⟨_, rfl⟩; obtain ⟨y1, y2, y3, y4, u0, u1, yt, yp, g1, g2, g3, g4, z1, z2, z3, z4⟩ := S.facts E; have T3 := trivial)
    | (go_at_call 32; clear T3; refine (bit10_any n3 j _ E.x3 (by omega)).mono ?_; rintro e wb ⟨rfl, hbb⟩; rw [HB3.out]; replace S := S.keep hbb; clear y1 y2 y3 y4 u0 u1 yt yp g1 g2 g3 g4 z1 z2 z3 z4; obtain ⟨wc, rfl⟩ : ∃ q : World, q = wb := ⟨_, rfl⟩; obtain ⟨y1, y2, y3, y4, u0, u1, yt, yp, g1, g2, g3, g4, z1, z2, z3, z4⟩ := S.facts E; have T4 := trivial)
    | (at_builtin; refine wpList_jpush S 0 (by decide) (hXl 0) (by rfl) (.tmp 96) (.tmp 98) (by rfl) (by rfl) (by rfl) ?_; intro pz cz wz S'; replace S := S'; clear S'; clear y1 y2 y3 y4 u0 u1 yt yp g1 g2 g3 g4 z1 z2 z3 z4; obtain ⟨wc, rfl⟩ : ∃ q : World, q = wz := ⟨_, rfl⟩; obtain ⟨y1, y2, y3, y4, u0, u1, yt, yp, g1, g2, g3, g4, z1, z2, z3, z4⟩ := S.facts E)
    | (at_builtin; refine wpList_jpush S 1 (by decide) (hXl 1) (by rfl) (.tmp 107) (.tmp 109) (by rfl) (by rfl) (by rfl) ?_; intro pz cz wz S'; replace S := S'; clear S'; clear y1 y2 y3 y4 u0 u1 yt yp g1 g2 g3 g4 z1 z2 z3 z4; obtain ⟨wc, rfl⟩ : ∃ q : World, q = wz := ⟨_, rfl⟩; obtain ⟨y1, y2, y3, y4, u0, u1, yt, yp, g1, g2, g3, g4, z1, z2, z3, z4⟩ := S.facts E)
    | (at_builtin; refine wpList_jpush S 2 (by decide) (hXl 2) (by rfl) (.tmp 118) (.tmp 120) (by rfl) (by rfl) (by rfl) ?_; intro pz cz wz S'; replace S := S'; clear S'; clear y1 y2 y3 y4 u0 u1 yt yp g1 g2 g3 g4 z1 z2 z3 z4; obtain ⟨wc, rfl⟩ : ∃ q : World, q = wz := ⟨_, rfl⟩; obtain ⟨y1, y2, y3, y4, u0, u1, yt, yp, g1, g2, g3, g4, z1, z2, z3, z4⟩ := S.facts E)
    | (at_builtin; refine wpList_jpush S 4 (by decide) (hXl 4) (by rfl) (.tmp 140) (.tmp 142) (by rfl) (by rfl) (by rfl) ?_; intro pz cz wz S'; replace S := S'; clear S'; clear y1 y2 y3 y4 u0 u1 yt yp g1 g2 g3 g4 z1 z2 z3 z4; obtain ⟨wc, rfl⟩ : ∃ q : World, q = wz := ⟨_, rfl⟩; obtain ⟨y1, y2, y3, y4, u0, u1, yt, yp, g1, g2, g3, g4, z1, z2, z3, z4⟩ := S.facts E))
  rw [HK9.out]
  exact jnext_of HN.out _ S.J (fun q hq => by
    match q, hq with
    | 0, _ | 1, _ | 2, _ | 3, _ | 4, _ => simp [updL, nxX, selB]
    | q + 5, hq => omega) ⟨fun b e => S.AP.lt b (.inl e), fun i k hi hk e => S.AP.aw i k hi hk (.inl e)⟩ S.kT (by rfl)

set_option maxRecDepth 1000000 in
set_option maxHeartbeats 16000000 in
theorem jr_1110 (w wc : World) (rt : Nat → Value) (t : Tr) (bt F m j : Nat) (X : Nat → List (Nat × Nat)) (V : List Ev) (G : List (List Int)) (k f r : Nat → Value) (K : Act → World → Prop) (Q0 : Exit → Act → World → Prop) (qb1 qo1 qb2 qo2 qb3 qo3 qb4 qo4 d1 d2 d3 d4 n1 n2 n3 : Nat) (P4 : Int) (E : JE w rt t F m j qb1 qo1 qb2 qo2 qb3 qo3 qb4 qo4 d1 d2 d3 d4 n1 n2 n3 P4) (hXl : ∀ q, (X q).length ≤ 1000000) (J : JI w wc r X V G) (AP : Apart (fun b => b = bt) wc r) (kT : Blk wc bt (tgC rt t) 34) (HB1 : Hid (n1.testBit j = true)) (HB2 : Hid (n2.testBit j = true)) (HB3 : Hid (n3.testBit j = true)) (hb4 : (P4 == (j : Int)) = false) (HN : Hid (JNext w rt t bt F m j (nxX X F m j (selB true true true false)) V G k K)) :
    Code.wp Tryz.prog jbody (Exit.then K Q0) ⟨jfrm k f r F m j bt, []⟩ wc := by
  obtain ⟨K9, hK9⟩ : ∃ K9, K9 = K := ⟨_, rfl⟩
  have HK9 : Hid _ := hK9
  rw [← hK9]
  clear hK9
  obtain ⟨-, -, -, -, -, -, -, -, -, -, -, hl1, hl2, hl3, hl4, hjm, hj24, hm24, hf24⟩ := id E
  have T0 := trivial
  conv => arg 2; whnf
  unfold jfrm
  go_wp2_with (first
    | (clear T0; refine wpList_storeB (by rfl) 83 (.tmp 19) (.tmp 95) (by rfl) wc.heap.size #[.int .i64 ((F : Int) + (j : Int)), .int .i64 ((F : Int) + (m : Int))] _ 83 (by rfl) (by rfl) Blk.new (by kernel_rfl) (by rfl) (by simp [Value.oneCell']) ?_; intro wa kP oa za; simp only [Act.put]; have S := JS.first J AP kT kP ((below_new _ _).trans (oa.below (by simp) (fun k hk => by omega))); clear za oa kP J AP kT; obtain ⟨bp, hbp⟩ : ∃ bp, wc.heap.size = bp := ⟨_, rfl⟩; rw [hbp] at S ⊢; clear hbp; obtain ⟨wc, rfl⟩ : ∃ q : World, q = wa := ⟨_, rfl⟩; obtain ⟨y1, y2, y3, y4, u0, u1, yt, yp, g1, g2, g3, g4, z1, z2, z3, z4⟩ := S.facts E; have T1 := trivial)
    | (go_at_call 32; clear T1; refine (bit10_any n1 j _ E.x1 (by omega)).mono ?_; rintro e wb ⟨rfl, hbb⟩; rw [HB1.out]; replace S := S.keep hbb; clear y1 y2 y3 y4 u0 u1 yt yp g1 g2 g3 g4 z1 z2 z3 z4; obtain ⟨wc, rfl⟩ : ∃ q : World, q = wb := ⟨_, rfl⟩; obtain ⟨y1, y2, y3, y4, u0, u1, yt, yp, g1, g2, g3, g4, z1, z2, z3, z4⟩ := S.facts E; have T2 := trivial)
    | (go_at_call 32; clear T2; refine (bit10_any n2 j _ E.x2 (by omega)).mono ?_; rintro e wb ⟨rfl, hbb⟩; rw [HB2.out]; replace S := S.keep hbb; clear y1 y2 y3 y4 u0 u1 yt yp g1 g2 g3 g4 z1 z2 z3 z4; obtain ⟨wc, rfl⟩ : ∃ q : World, q = wb := ⟨_, rfl⟩; obtain ⟨y1, y2, y3, y4, u0, u1, yt, yp, g1, g2, g3, g4, z1, z2, z3, z4⟩ := S.facts E; have T3 := trivial)
    | (go_at_call 32; clear T3; refine (bit10_any n3 j _ E.x3 (by omega)).mono ?_; rintro e wb ⟨rfl, hbb⟩; rw [HB3.out]; replace S := S.keep hbb; clear y1 y2 y3 y4 u0 u1 yt yp g1 g2 g3 g4 z1 z2 z3 z4; obtain ⟨wc, rfl⟩ : ∃ q : World, q = wb := ⟨_, rfl⟩; obtain ⟨y1, y2, y3, y4, u0, u1, yt, yp, g1, g2, g3, g4, z1, z2, z3, z4⟩ := S.facts E; have T4 := trivial)
    | (at_builtin; refine wpList_jpush S 0 (by decide) (hXl 0) (by rfl) (.tmp 96) (.tmp 98) (by rfl) (by rfl) (by rfl) ?_; intro pz cz wz S'; replace S := S'; clear S'; clear y1 y2 y3 y4 u0 u1 yt yp g1 g2 g3 g4 z1 z2 z3 z4; obtain ⟨wc, rfl⟩ : ∃ q : World, q = wz := ⟨_, rfl⟩; obtain ⟨y1, y2, y3, y4, u0, u1, yt, yp, g1, g2, g3, g4, z1, z2, z3, z4⟩ := S.facts E)
    | (at_builtin; refine wpList_jpush S 1 (by decide) (hXl 1) (by rfl) (.tmp 107) (.tmp 109) (by rfl) (by rfl) (by rfl) ?_; intro pz cz wz S'; replace S := S'; clear S'; clear y1 y2 y3 y4 u0 u1 yt yp g1 g2 g3 g4 z1 z2 z3 z4; obtain ⟨wc, rfl⟩ : ∃ q : World, q = wz := ⟨_, rfl⟩; obtain ⟨y1, y2, y3, y4, u0, u1, yt, yp, g1, g2, g3, g4, z1, z2, z3, z4⟩ := S.facts E)
    | (at_builtin; refine wpList_jpush S 2 (by decide) (hXl 2) (by rfl) (.tmp 118) (.tmp 120) (by rfl) (by rfl) (by rfl) ?_; intro pz cz wz S'; replace S := S'; clear S'; clear y1 y2 y3 y4 u0 u1 yt yp g1 g2 g3 g4 z1 z2 z3 z4; obtain ⟨wc, rfl⟩ : ∃ q : World, q = wz := ⟨_, rfl⟩; obtain ⟨y1, y2, y3, y4, u0, u1, yt, yp, g1, g2, g3, g4, z1, z2, z3, z4⟩ := S.facts E)
    | (at_builtin; refine wpList_jpush S 3 (by decide) (hXl 3) (by rfl) (.tmp 129) (.tmp 131) (by rfl) (by rfl) (by rfl) ?_; intro pz cz wz S'; replace S := S'; clear S'; clear y1 y2 y3 y4 u0 u1 yt yp g1 g2 g3 g4 z1 z2 z3 z4; obtain ⟨wc, rfl⟩ : ∃ q : World, q = wz := ⟨_, rfl⟩; obtain ⟨y1, y2, y3, y4, u0, u1, yt, yp, g1, g2, g3, g4, z1, z2, z3, z4⟩ := S.facts E))
  rw [HK9.out]
  exact jnext_of HN.out _ S.J (fun q hq => by
    match q, hq with
    | 0, _ | 1, _ | 2, _ | 3, _ | 4, _ => simp [updL, nxX, selB]
    | q + 5, hq => omega) ⟨fun b e => S.AP.lt b (.inl e), fun i k hi hk e => S.AP.aw i k hi hk (.inl e)⟩ S.kT (by rfl)

set_option maxRecDepth 1000000 in
set_option maxHeartbeats 16000000 in
theorem jr_1111 (w wc : World) (rt : Nat → Value) (t : Tr) (bt F m j : Nat) (X : Nat → List (Nat × Nat)) (V : List Ev) (G : List (List Int)) (k f r : Nat → Value) (K : Act → World → Prop) (Q0 : Exit → Act → World → Prop) (qb1 qo1 qb2 qo2 qb3 qo3 qb4 qo4 d1 d2 d3 d4 n1 n2 n3 : Nat) (P4 : Int) (E : JE w rt t F m j qb1 qo1 qb2 qo2 qb3 qo3 qb4 qo4 d1 d2 d3 d4 n1 n2 n3 P4) (hXl : ∀ q, (X q).length ≤ 1000000) (J : JI w wc r X V G) (AP : Apart (fun b => b = bt) wc r) (kT : Blk wc bt (tgC rt t) 34) (HB1 : Hid (n1.testBit j = true)) (HB2 : Hid (n2.testBit j = true)) (HB3 : Hid (n3.testBit j = true)) (hb4 : (P4 == (j : Int)) = true) (HN : Hid (JNext w rt t bt F m j (nxX X F m j (selB true true true true)) V G k K)) :
    Code.wp Tryz.prog jbody (Exit.then K Q0) ⟨jfrm k f r F m j bt, []⟩ wc := by
  obtain ⟨K9, hK9⟩ : ∃ K9, K9 = K := ⟨_, rfl⟩
  have HK9 : Hid _ := hK9
  rw [← hK9]
  clear hK9
  obtain ⟨-, -, -, -, -, -, -, -, -, -, -, hl1, hl2, hl3, hl4, hjm, hj24, hm24, hf24⟩ := id E
  have T0 := trivial
  conv => arg 2; whnf
  unfold jfrm
  go_wp2_with (first
    | (clear T0; refine wpList_storeB (by rfl) 83 (.tmp 19) (.tmp 95) (by rfl) wc.heap.size #[.int .i64 ((F : Int) + (j : Int)), .int .i64 ((F : Int) + (m : Int))] _ 83 (by rfl) (by rfl) Blk.new (by kernel_rfl) (by rfl) (by simp [Value.oneCell']) ?_; intro wa kP oa za; simp only [Act.put]; have S := JS.first J AP kT kP ((below_new _ _).trans (oa.below (by simp) (fun k hk => by omega))); clear za oa kP J AP kT; obtain ⟨bp, hbp⟩ : ∃ bp, wc.heap.size = bp := ⟨_, rfl⟩; rw [hbp] at S ⊢; clear hbp; obtain ⟨wc, rfl⟩ : ∃ q : World, q = wa := ⟨_, rfl⟩; obtain ⟨y1, y2, y3, y4, u0, u1, yt, yp, g1, g2, g3, g4, z1, z2, z3, z4⟩ := S.facts E; have T1 := trivial)
    | (go_at_call 32; clear T1; refine (bit10_any n1 j _ E.x1 (by omega)).mono ?_; rintro e wb ⟨rfl, hbb⟩; rw [HB1.out]; replace S := S.keep hbb; clear y1 y2 y3 y4 u0 u1 yt yp g1 g2 g3 g4 z1 z2 z3 z4; obtain ⟨wc, rfl⟩ : ∃ q : World, q = wb := ⟨_, rfl⟩; obtain ⟨y1, y2, y3, y4, u0, u1, yt, yp, g1, g2, g3, g4, z1, z2, z3, z4⟩ := S.facts E; have T2 := trivial)
    | (go_at_call 32; clear T2; refine (bit10_any n2 j _ E.x2 (by omega)).mono ?_; rintro e wb ⟨rfl, hbb⟩; rw [HB2.out]; replace S := S.keep hbb; clear y1 y2 y3 y4 u0 u1 yt yp g1 g2 g3 g4 z1 z2 z3 z4; obtain ⟨wc, rfl⟩ : ∃ q : World, q = wb := ⟨_, rfl⟩; obtain ⟨y1, y2, y3, y4, u0, u1, yt, yp, g1, g2, g3, g4, z1, z2, z3, z4⟩ := S.facts E; have T3 := trivial)
    | (go_at_call 32; clear T3; refine (bit10_any n3 j _ E.x3 (by omega)).mono ?_; rintro e wb ⟨rfl, hbb⟩; rw [HB3.out]; replace S := S.keep hbb; clear y1 y2 y3 y4 u0 u1 yt yp g1 g2 g3 g4 z1 z2 z3 z4; obtain ⟨wc, rfl⟩ : ∃ q : World, q = wb := ⟨_, rfl⟩; obtain ⟨y1, y2, y3, y4, u0, u1, yt, yp, g1, g2, g3, g4, z1, z2, z3, z4⟩ := S.facts E; have T4 := trivial)
    | (at_builtin; refine wpList_jpush S 0 (by decide) (hXl 0) (by rfl) (.tmp 96) (.tmp 98) (by rfl) (by rfl) (by rfl) ?_; intro pz cz wz S'; replace S := S'; clear S'; clear y1 y2 y3 y4 u0 u1 yt yp g1 g2 g3 g4 z1 z2 z3 z4; obtain ⟨wc, rfl⟩ : ∃ q : World, q = wz := ⟨_, rfl⟩; obtain ⟨y1, y2, y3, y4, u0, u1, yt, yp, g1, g2, g3, g4, z1, z2, z3, z4⟩ := S.facts E)
    | (at_builtin; refine wpList_jpush S 1 (by decide) (hXl 1) (by rfl) (.tmp 107) (.tmp 109) (by rfl) (by rfl) (by rfl) ?_; intro pz cz wz S'; replace S := S'; clear S'; clear y1 y2 y3 y4 u0 u1 yt yp g1 g2 g3 g4 z1 z2 z3 z4; obtain ⟨wc, rfl⟩ : ∃ q : World, q = wz := ⟨_, rfl⟩; obtain ⟨y1, y2, y3, y4, u0, u1, yt, yp, g1, g2, g3, g4, z1, z2, z3, z4⟩ := S.facts E)
    | (at_builtin; refine wpList_jpush S 2 (by decide) (hXl 2) (by rfl) (.tmp 118) (.tmp 120) (by rfl) (by rfl) (by rfl) ?_; intro pz cz wz S'; replace S := S'; clear S'; clear y1 y2 y3 y4 u0 u1 yt yp g1 g2 g3 g4 z1 z2 z3 z4; obtain ⟨wc, rfl⟩ : ∃ q : World, q = wz := ⟨_, rfl⟩; obtain ⟨y1, y2, y3, y4, u0, u1, yt, yp, g1, g2, g3, g4, z1, z2, z3, z4⟩ := S.facts E)
    | (at_builtin; refine wpList_jpush S 3 (by decide) (hXl 3) (by rfl) (.tmp 129) (.tmp 131) (by rfl) (by rfl) (by rfl) ?_; intro pz cz wz S'; replace S := S'; clear S'; clear y1 y2 y3 y4 u0 u1 yt yp g1 g2 g3 g4 z1 z2 z3 z4; obtain ⟨wc, rfl⟩ : ∃ q : World, q = wz := ⟨_, rfl⟩; obtain ⟨y1, y2, y3, y4, u0, u1, yt, yp, g1, g2, g3, g4, z1, z2, z3, z4⟩ := S.facts E)
    | (at_builtin; refine wpList_jpush S 4 (by decide) (hXl 4) (by rfl) (.tmp 140) (.tmp 142) (by rfl) (by rfl) (by rfl) ?_; intro pz cz wz S'; replace S := S'; clear S'; clear y1 y2 y3 y4 u0 u1 yt yp g1 g2 g3 g4 z1 z2 z3 z4; obtain ⟨wc, rfl⟩ : ∃ q : World, q = wz := ⟨_, rfl⟩; obtain ⟨y1, y2, y3, y4, u0, u1, yt, yp, g1, g2, g3, g4, z1, z2, z3, z4⟩ := S.facts E))
  rw [HK9.out]
  exact jnext_of HN.out _ S.J (fun q hq => by
    match q, hq with
    | 0, _ | 1, _ | 2, _ | 3, _ | 4, _ => simp [updL, nxX, selB]
    | q + 5, hq => omega) ⟨fun b e => S.AP.lt b (.inl e), fun i k hi hk e => S.AP.aw i k hi hk (.inl e)⟩ S.kT (by rfl)

theorem jround (w wr : World) (rt : Nat → Value) (t : Tr) (bt F m j : Nat) (PQ : Nat → List (Nat × Nat)) (V : List Ev) (G : List (List Int)) (k f r : Nat → Value) (K : Act → World → Prop) (Q0 : Exit → Act → World → Prop) (q1 q2 q3 q4 : Option Addr) (d1 d2 d3 d4 : Nat)
    (HE1 : Hid (rt 1 = .slice q1 t.ad.length d1)) (HE2 : Hid (rt 2 = .slice q2 t.da.length d2)) (HE3 : Hid (rt 3 = .slice q3 t.ct.length d3)) (HE4 : Hid (rt 4 = .slice q4 t.pa.length d4))
    (s1 : Sl MskE w (.slice q1 t.ad.length d1) t.ad) (s2 : Sl MskE w (.slice q2 t.da.length d2) t.da) (s3 : Sl MskE w (.slice q3 t.ct.length d3) t.ct) (s4 : Sl IntE w (.slice q4 t.pa.length d4) t.pa)
    (HL : Hid (t.ad.length = t.evs.length ∧ t.da.length = t.evs.length ∧ t.ct.length = t.evs.length ∧ t.pa.length = t.evs.length)) (HR0 : Hid (Rng t)) (hml : m < t.evs.length) (hte : t.evs.length ≤ 24) (hF24 : F ≤ 24) (HPQL : Hid (∀ q, (PQ q).length ≤ 1200)) (hjl : j < m)
    (J : JI w wr r (fun q => PQ q ++ prK (selS q) t F m j) V G) (AP : Apart (fun b => b = bt) wr r) (kT : Blk wr bt (tgC rt t) 34)
    (hnext : JNext w rt t bt F m j (fun q => PQ q ++ prK (selS q) t F m (j + 1)) V G k K) :
    Code.wp Tryz.prog jbody (Exit.then K Q0) ⟨jfrm k f r F m j bt, []⟩ wr := by
  have hjl' : (j : Int) < (m : Int) := by omega
  have hXl : ∀ q, (PQ q ++ prK (selS q) t F m j).length ≤ 1000000 := fun q => by
    have h1 := HPQL.out q
    have h2 := prK_len (S := selS q) (t := t) (f := F) (k := m) (m := j)
    rw [List.length_append]
    omega
  obtain ⟨L1, L2, L3, L4⟩ := HL.out
  have m1 : t.ad.getD m 0 = t.ad[m]'(by omega) := by rw [List.getD_eq_getElem?_getD, List.getElem?_eq_getElem (by omega)]; rfl
  have m2 : t.da.getD m 0 = t.da[m]'(by omega) := by rw [List.getD_eq_getElem?_getD, List.getElem?_eq_getElem (by omega)]; rfl
  have m3 : t.ct.getD m 0 = t.ct[m]'(by omega) := by rw [List.getD_eq_getElem?_getD, List.getElem?_eq_getElem (by omega)]; rfl
  have m4 : t.pa.getD m (-1) = t.pa[m]'(by omega) := by rw [List.getD_eq_getElem?_getD, List.getElem?_eq_getElem (by omega)]; rfl
  obtain ⟨qb1, qo1, hq1, g1⟩ := (msk_at s1).2 m (by omega)
  obtain ⟨qb2, qo2, hq2, g2⟩ := (msk_at s2).2 m (by omega)
  obtain ⟨qb3, qo3, hq3, g3⟩ := (msk_at s3).2 m (by omega)
  obtain ⟨qb4, qo4, hq4, g4⟩ := (ints_at s4).2 m (by omega)
  obtain ⟨n1, hn1, hx1⟩ := nat_of (HR0.out.1 _ (List.getElem_mem (by omega : m < t.ad.length)))
  obtain ⟨n2, hn2, hx2⟩ := nat_of (HR0.out.2.1 _ (List.getElem_mem (by omega : m < t.da.length)))
  obtain ⟨n3, hn3, hx3⟩ := nat_of (HR0.out.2.2 _ (List.getElem_mem (by omega : m < t.ct.length)))
  rw [hn1] at g1 m1
  rw [hn2] at g2 m2
  rw [hn3] at g3 m3
  generalize t.pa[m]'(by omega) = P4 at g4 m4
  subst hq1 hq2 hq3 hq4
  have G1 : Hid _ := g1
  have G2 : Hid _ := g2
  have G3 : Hid _ := g3
  have G4 : Hid _ := g4
  have M1' : Hid _ := m1
  have M2' : Hid _ := m2
  have M3' : Hid _ := m3
  have M4' : Hid _ := m4
  have hlt1 : (m : Int) < (t.ad.length : Int) := by omega
  have hlt2 : (m : Int) < (t.da.length : Int) := by omega
  have hlt3 : (m : Int) < (t.ct.length : Int) := by omega
  have hlt4 : (m : Int) < (t.pa.length : Int) := by omega
  have hj24 : (j : Int) ≤ 100 := by omega
  have hm24 : (m : Int) ≤ 100 := by omega
  have hF24' : (F : Int) ≤ 100 := by omega
  have E : JE w rt t F m j qb1 qo1 qb2 qo2 qb3 qo3 qb4 qo4 d1 d2 d3 d4 n1 n2 n3 P4 := ⟨HE1.out, HE2.out, HE3.out, HE4.out, hx1, hx2, hx3, G1.out, G2.out, G3.out, G4.out, hlt1, hlt2, hlt3, hlt4, hjl', hj24, hm24, hF24'⟩
  have sB : ∀ q, selS q t j m = selB (n1.testBit j) (n2.testBit j) (n3.testBit j) (P4 == (j : Int)) q := fun q => by
    match q with
    | 0 => rfl
    | 1 => exact (show (t.ad.getD m 0).toNat.testBit j = n1.testBit j by rw [M1'.out]; rfl)
    | 2 => exact (show (t.da.getD m 0).toNat.testBit j = n2.testBit j by rw [M2'.out]; rfl)
    | 3 => exact (show (t.ct.getD m 0).toNat.testBit j = n3.testBit j by rw [M3'.out]; rfl)
    | q + 4 => exact (show (t.pa.getD m (-1) == (j : Int)) = (P4 == (j : Int)) by rw [M4'.out])
  have HN : JNext w rt t bt F m j (nxX (fun q => PQ q ++ prK (selS q) t F m j) F m j (selB (n1.testBit j) (n2.testBit j) (n3.testBit j) (P4 == (j : Int)))) V G k K := fun f' r' w' h1 h2 h3 => hnext f' r' w' (h1.congr (fun q _ => by
    unfold nxX
    rw [← sB q]
    by_cases h : selS q t j m = true
    · rw [if_pos h, prK_next, h]; simp
    · rw [if_neg h, prK_next]; simp [h]) rfl) h2 h3
  clear sB M1' M2' M3' M4' g1 g2 g3 g4 m1 m2 m3 m4 hn1 hn2 hn3 L1 L2 L3 L4 hnext
  cases hb1 : n1.testBit j <;> cases hb2 : n2.testBit j <;> cases hb3 : n3.testBit j <;> cases hb4 : (P4 == (j : Int)) <;> rw [hb1, hb2, hb3, hb4] at HN
  · exact jr_0000 w wr rt t bt F m j _ V G k f r K Q0 _ _ _ _ _ _ _ _ d1 d2 d3 d4 n1 n2 n3 P4 E hXl J AP kT hb1 hb2 hb3 hb4 HN
  · exact jr_0001 w wr rt t bt F m j _ V G k f r K Q0 _ _ _ _ _ _ _ _ d1 d2 d3 d4 n1 n2 n3 P4 E hXl J AP kT hb1 hb2 hb3 hb4 HN
  · exact jr_0010 w wr rt t bt F m j _ V G k f r K Q0 _ _ _ _ _ _ _ _ d1 d2 d3 d4 n1 n2 n3 P4 E hXl J AP kT hb1 hb2 hb3 hb4 HN
  · exact jr_0011 w wr rt t bt F m j _ V G k f r K Q0 _ _ _ _ _ _ _ _ d1 d2 d3 d4 n1 n2 n3 P4 E hXl J AP kT hb1 hb2 hb3 hb4 HN
  · exact jr_0100 w wr rt t bt F m j _ V G k f r K Q0 _ _ _ _ _ _ _ _ d1 d2 d3 d4 n1 n2 n3 P4 E hXl J AP kT hb1 hb2 hb3 hb4 HN
  · exact jr_0101 w wr rt t bt F m j _ V G k f r K Q0 _ _ _ _ _ _ _ _ d1 d2 d3 d4 n1 n2 n3 P4 E hXl J AP kT hb1 hb2 hb3 hb4 HN
  · exact jr_0110 w wr rt t bt F m j _ V G k f r K Q0 _ _ _ _ _ _ _ _ d1 d2 d3 d4 n1 n2 n3 P4 E hXl J AP kT hb1 hb2 hb3 hb4 HN
  · exact jr_0111 w wr rt t bt F m j _ V G k f r K Q0 _ _ _ _ _ _ _ _ d1 d2 d3 d4 n1 n2 n3 P4 E hXl J AP kT hb1 hb2 hb3 hb4 HN
  · exact jr_1000 w wr rt t bt F m j _ V G k f r K Q0 _ _ _ _ _ _ _ _ d1 d2 d3 d4 n1 n2 n3 P4 E hXl J AP kT hb1 hb2 hb3 hb4 HN
  · exact jr_1001 w wr rt t bt F m j _ V G k f r K Q0 _ _ _ _ _ _ _ _ d1 d2 d3 d4 n1 n2 n3 P4 E hXl J AP kT hb1 hb2 hb3 hb4 HN
  · exact jr_1010 w wr rt t bt F m j _ V G k f r K Q0 _ _ _ _ _ _ _ _ d1 d2 d3 d4 n1 n2 n3 P4 E hXl J AP kT hb1 hb2 hb3 hb4 HN
  · exact jr_1011 w wr rt t bt F m j _ V G k f r K Q0 _ _ _ _ _ _ _ _ d1 d2 d3 d4 n1 n2 n3 P4 E hXl J AP kT hb1 hb2 hb3 hb4 HN
  · exact jr_1100 w wr rt t bt F m j _ V G k f r K Q0 _ _ _ _ _ _ _ _ d1 d2 d3 d4 n1 n2 n3 P4 E hXl J AP kT hb1 hb2 hb3 hb4 HN
  · exact jr_1101 w wr rt t bt F m j _ V G k f r K Q0 _ _ _ _ _ _ _ _ d1 d2 d3 d4 n1 n2 n3 P4 E hXl J AP kT hb1 hb2 hb3 hb4 HN
  · exact jr_1110 w wr rt t bt F m j _ V G k f r K Q0 _ _ _ _ _ _ _ _ d1 d2 d3 d4 n1 n2 n3 P4 E hXl J AP kT hb1 hb2 hb3 hb4 HN
  · exact jr_1111 w wr rt t bt F m j _ V G k f r K Q0 _ _ _ _ _ _ _ _ d1 d2 d3 d4 n1 n2 n3 P4 E hXl J AP kT hb1 hb2 hb3 hb4 HN
def nthV : List Value → Nat → Value
  | [], _ => undef
  | c :: _, 0 => c
  | _ :: l, n + 1 => nthV l n
set_option maxRecDepth 1000000 in
set_option maxHeartbeats 16000000 in
theorem jround_lit {w wr : World} {rt : Nat → Value} {t : Tr} {bt F m j : Nat} {PQ : Nat → List (Nat × Nat)} {V : List Ev} {G : List (List Int)} {r : Nat → Value} {K : Act → World → Prop} {Q0 : Exit → Act → World → Prop} {q1 q2 q3 q4 : Option Addr} {d1 d2 d3 d4 : Nat} {k0 k1 k2 k3 k4 k5 k6 k7 k13 k17 k20 k21 k22 k23 k24 k25 k26 k27 k28 k29 k30 k31 k32 k33 k34 k35 k36 k37 k38 k39 k40 k41 k42 k43 k44 k45 k46 k47 k48 k49 k50 k51 k52 k53 k54 k55 k56 k57 k58 k59 k60 k61 k62 k63 k64 k65 k66 k67 k68 k69 k70 k71 k72 k73 k74 k75 k76 k77 k78 k79 k80 k81 k82 k83 k144 k145 k146 k147 k148 k149 k150 k151 k152 k153 k154 k155 k156 k157 k158 k159 k160 k161 k162 k163 k164 k165 k166 k167 k168 k169 k170 k171 k172 k173 k174 k175 k176 k177 k178 k179 k180 k181 k182 k183 k184 k185 k186 f19 f84 f85 f86 f87 f88 f89 f90 f91 f92 f93 f94 f95 f96 f97 f98 f99 f100 f101 f102 f103 f104 f105 f106 f107 f108 f109 f110 f111 f112 f113 f114 f115 f116 f117 f118 f119 f120 f121 f122 f123 f124 f125 f126 f127 f128 f129 f130 f131 f132 f133 f134 f135 f136 f137 f138 f139 f140 f141 f142 f143 : Value}
    (HE1 : Hid (rt 1 = .slice q1 t.ad.length d1)) (HE2 : Hid (rt 2 = .slice q2 t.da.length d2)) (HE3 : Hid (rt 3 = .slice q3 t.ct.length d3)) (HE4 : Hid (rt 4 = .slice q4 t.pa.length d4))
    (s1 : Sl MskE w (.slice q1 t.ad.length d1) t.ad) (s2 : Sl MskE w (.slice q2 t.da.length d2) t.da) (s3 : Sl MskE w (.slice q3 t.ct.length d3) t.ct) (s4 : Sl IntE w (.slice q4 t.pa.length d4) t.pa)
    (HL : Hid (t.ad.length = t.evs.length ∧ t.da.length = t.evs.length ∧ t.ct.length = t.evs.length ∧ t.pa.length = t.evs.length)) (HR0 : Hid (Rng t)) (hml : m < t.evs.length) (hte : t.evs.length ≤ 24) (hF24 : F ≤ 24) (HPQL : Hid (∀ q, (PQ q).length ≤ 1200)) (hjl : j < m)
    (J : JI w wr r (fun q => PQ q ++ prK (selS q) t F m j) V G) (AP : Apart (fun b => b = bt) wr r) (kT : Blk wr bt (tgC rt t) 34)
    (hn : ∀ (f' r' : Nat → Value) (w' : World), JI w w' r' (fun q => PQ q ++ prK (selS q) t F m (j + 1)) V G → Apart (fun b => b = bt) w' r' → Blk w' bt (tgC rt t) 34 → K ⟨#[k0, k1, k2, k3, k4, k5, k6, k7, r' 0, r' 1, r' 2, r' 3, r' 4, k13, .int .i64 (F : Int), .pointer (some ⟨bt, 0, none⟩), .int .i64 (m : Int), k17, .int .i64 ((j + 1 : Nat) : Int), f' 19, k20, k21, k22, k23, k24, k25, k26, k27, k28, k29, k30, k31, k32, k33, k34, k35, k36, k37, k38, k39, k40, k41, k42, k43, k44, k45, k46, k47, k48, k49, k50, k51, k52, k53, k54, k55, k56, k57, k58, k59, k60, k61, k62, k63, k64, k65, k66, k67, k68, k69, k70, k71, k72, k73, k74, k75, k76, k77, k78, k79, k80, k81, k82, k83, f' 84, f' 85, f' 86, f' 87, f' 88, f' 89, f' 90, f' 91, f' 92, f' 93, f' 94, f' 95, f' 96, f' 97, f' 98, f' 99, f' 100, f' 101, f' 102, f' 103, f' 104, f' 105, f' 106, f' 107, f' 108, f' 109, f' 110, f' 111, f' 112, f' 113, f' 114, f' 115, f' 116, f' 117, f' 118, f' 119, f' 120, f' 121, f' 122, f' 123, f' 124, f' 125, f' 126, f' 127, f' 128, f' 129, f' 130, f' 131, f' 132, f' 133, f' 134, f' 135, f' 136, f' 137, f' 138, f' 139, f' 140, f' 141, f' 142, f' 143, k144, k145, k146, k147, k148, k149, k150, k151, k152, k153, k154, k155, k156, k157, k158, k159, k160, k161, k162, k163, k164, k165, k166, k167, k168, k169, k170, k171, k172, k173, k174, k175, k176, k177, k178, k179, k180, k181, k182, k183, k184, k185, k186], []⟩ w') :
    Code.wp Tryz.prog jbody (Exit.then K Q0) ⟨#[k0, k1, k2, k3, k4, k5, k6, k7, r 0, r 1, r 2, r 3, r 4, k13, .int .i64 (F : Int), .pointer (some ⟨bt, 0, none⟩), .int .i64 (m : Int), k17, .int .i64 (j : Int), f19, k20, k21, k22, k23, k24, k25, k26, k27, k28, k29, k30, k31, k32, k33, k34, k35, k36, k37, k38, k39, k40, k41, k42, k43, k44, k45, k46, k47, k48, k49, k50, k51, k52, k53, k54, k55, k56, k57, k58, k59, k60, k61, k62, k63, k64, k65, k66, k67, k68, k69, k70, k71, k72, k73, k74, k75, k76, k77, k78, k79, k80, k81, k82, k83, f84, f85, f86, f87, f88, f89, f90, f91, f92, f93, f94, f95, f96, f97, f98, f99, f100, f101, f102, f103, f104, f105, f106, f107, f108, f109, f110, f111, f112, f113, f114, f115, f116, f117, f118, f119, f120, f121, f122, f123, f124, f125, f126, f127, f128, f129, f130, f131, f132, f133, f134, f135, f136, f137, f138, f139, f140, f141, f142, f143, k144, k145, k146, k147, k148, k149, k150, k151, k152, k153, k154, k155, k156, k157, k158, k159, k160, k161, k162, k163, k164, k165, k166, k167, k168, k169, k170, k171, k172, k173, k174, k175, k176, k177, k178, k179, k180, k181, k182, k183, k184, k185, k186], []⟩ wr :=
  jround w wr rt t bt F m j PQ V G (nthV [k0, k1, k2, k3, k4, k5, k6, k7, undef, undef, undef, undef, undef, k13, undef, undef, undef, k17, undef, f19, k20, k21, k22, k23, k24, k25, k26, k27, k28, k29, k30, k31, k32, k33, k34, k35, k36, k37, k38, k39, k40, k41, k42, k43, k44, k45, k46, k47, k48, k49, k50, k51, k52, k53, k54, k55, k56, k57, k58, k59, k60, k61, k62, k63, k64, k65, k66, k67, k68, k69, k70, k71, k72, k73, k74, k75, k76, k77, k78, k79, k80, k81, k82, k83, f84, f85, f86, f87, f88, f89, f90, f91, f92, f93, f94, f95, f96, f97, f98, f99, f100, f101, f102, f103, f104, f105, f106, f107, f108, f109, f110, f111, f112, f113, f114, f115, f116, f117, f118, f119, f120, f121, f122, f123, f124, f125, f126, f127, f128, f129, f130, f131, f132, f133, f134, f135, f136, f137, f138, f139, f140, f141, f142, f143, k144, k145, k146, k147, k148, k149, k150, k151, k152, k153, k154, k155, k156, k157, k158, k159, k160, k161, k162, k163, k164, k165, k166, k167, k168, k169, k170, k171, k172, k173, k174, k175, k176, k177, k178, k179, k180, k181, k182, k183, k184, k185, k186]) (nthV [k0, k1, k2, k3, k4, k5, k6, k7, undef, undef, undef, undef, undef, k13, undef, undef, undef, k17, undef, f19, k20, k21, k22, k23, k24, k25, k26, k27, k28, k29, k30, k31, k32, k33, k34, k35, k36, k37, k38, k39, k40, k41, k42, k43, k44, k45, k46, k47, k48, k49, k50, k51, k52, k53, k54, k55, k56, k57, k58, k59, k60, k61, k62, k63, k64, k65, k66, k67, k68, k69, k70, k71, k72, k73, k74, k75, k76, k77, k78, k79, k80, k81, k82, k83, f84, f85, f86, f87, f88, f89, f90, f91, f92, f93, f94, f95, f96, f97, f98, f99, f100, f101, f102, f103, f104, f105, f106, f107, f108, f109, f110, f111, f112, f113, f114, f115, f116, f117, f118, f119, f120, f121, f122, f123, f124, f125, f126, f127, f128, f129, f130, f131, f132, f133, f134, f135, f136, f137, f138, f139, f140, f141, f142, f143, k144, k145, k146, k147, k148, k149, k150, k151, k152, k153, k154, k155, k156, k157, k158, k159, k160, k161, k162, k163, k164, k165, k166, k167, k168, k169, k170, k171, k172, k173, k174, k175, k176, k177, k178, k179, k180, k181, k182, k183, k184, k185, k186]) r K Q0 q1 q2 q3 q4 d1 d2 d3 d4 HE1 HE2 HE3 HE4 s1 s2 s3 s4 HL HR0 hml hte hF24 HPQL hjl J AP kT (fun f' r' w' a b c => hn f' r' w' a b c)
end Go.Proofs.YtcalinfdckklfaaGreatDoor
