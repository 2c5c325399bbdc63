/- What holds of the relations of a way (plain data): for ExecPo and ExecApart. -/
import Derived.Test.YtpmaifmokhnboaaGreatDoorExecM
import Derived.Test.YtpmaifmokhnboaaGreatDoorRelR
namespace Go.Proofs.YtpmaifmokhnboaaGreatDoor
open Go.RowKit

theorem within_relJ {S : Sel} {l : List Tr} : Within (totN l) (relJ S l 0) := fun i k h => by
  have := relJ_in h
  omega
theorem within_innerF {l : List Ev} : Within l.length (innerF l) := fun i k h => by
  unfold innerF at h
  split at h
  · rename_i x y h1 h2
    exact ⟨(List.getElem?_eq_some_iff.1 h1).1, (List.getElem?_eq_some_iff.1 h2).1⟩
  · cases h
theorem within_alikeF {l : List Ev} : Within l.length (alikeF l) := fun i k h => by
  obtain ⟨x, y, h1, h2, -, -⟩ := alike_mem h
  exact ⟨(List.getElem?_eq_some_iff.1 h1).1, (List.getElem?_eq_some_iff.1 h2).1⟩
theorem sz_relJ {l : List Tr} {S : Sel} (hn : totN l ≤ 32) : szR (mkR (totN l) (relJ S l 0)) = totN l := mkR_sz _ hn
theorem has_relJ {l : List Tr} {S : Sel} (hn : totN l ≤ 32) : hasR (mkR (totN l) (relJ S l 0)) = relJ S l 0 := mkR_fun hn within_relJ
theorem sz_evs {l : List Tr} {F : Nat → Nat → Bool} (hn : totN l ≤ 32) : szR (mkR (evsJ l 0).length F) = totN l := by rw [evsJ_len]; exact mkR_sz _ hn
theorem has_evs {l : List Tr} {F : Nat → Nat → Bool} (hn : totN l ≤ 32) (hF : Within (evsJ l 0).length F) : hasR (mkR (evsJ l 0).length F) = F := mkR_fun (by rw [evsJ_len]; exact hn) hF
theorem po_plus {l : List Tr} : plusF (totN l) (relJ poS l 0) = relJ poS l 0 := by
  funext i k
  exact (plus_only within_relJ (fun i k h => h) (fun i j k => po_trans) (fun i k h => plus_has h) i k).symm
theorem po_acy {l : List Tr} (hn : totN l ≤ 32) : acyL (mkR (totN l) (relJ poS l 0)) = true := by
  unfold acyL
  rw [sz_relJ hn, has_relJ hn, acy_iff within_relJ]
  intro i
  rw [po_plus]
  cases h : relJ poS l 0 i i with
  | false => rfl
  | true => have := (po_lt h).1; omega
theorem po_closed {l : List Tr} (hn : totN l ≤ 32) : cleanR (plusL (mkR (totN l) (relJ poS l 0))) = cleanR (mkR (totN l) (relJ poS l 0)) :=
  same_of (by rw [plus_sz]) (by rw [plus_hasL, sz_relJ hn, has_relJ hn, po_plus])
theorem po_both {l : List Tr} (hn : totN l ≤ 32) : cleanR (orL (mkR (totN l) (relJ poS l 0)) (invL (mkR (totN l) (relJ poS l 0)))) = cleanR (mkR (evsJ l 0).length (innerF (evsJ l 0))) := by
  have hs : szR (mkR (totN l) (relJ poS l 0)) = szR (invL (mkR (totN l) (relJ poS l 0))) := by rw [inv_sz]
  refine same_of (by rw [or_sz hs, sz_relJ hn, sz_evs hn]) ?_
  rw [or_has hs, inv_has, has_relJ hn, has_evs hn within_innerF]
  funext i k
  unfold orF invF
  rw [Bool.eq_iff_iff, inner_is, Bool.or_eq_true]
/-- The relations that lead along Po, together. -/
def allR (l : List Tr) : List Nat := orL (orL (mkR (totN l) (relJ adS l 0)) (mkR (totN l) (relJ daS l 0))) (orL (mkR (totN l) (relJ ctS l 0)) (mkR (totN l) (relJ rmS l 0)))
def allF (l : List Tr) : Nat → Nat → Bool := orF (orF (relJ adS l 0) (relJ daS l 0)) (orF (relJ ctS l 0) (relJ rmS l 0))
theorem sz_all {l : List Tr} (hn : totN l ≤ 32) : szR (allR l) = totN l := by
  unfold allR
  have h1 : szR (mkR (totN l) (relJ adS l 0)) = szR (mkR (totN l) (relJ daS l 0)) := by rw [sz_relJ hn, sz_relJ hn]
  have h2 : szR (mkR (totN l) (relJ ctS l 0)) = szR (mkR (totN l) (relJ rmS l 0)) := by rw [sz_relJ hn, sz_relJ hn]
  rw [or_sz (by rw [or_sz h1, or_sz h2, sz_relJ hn, sz_relJ hn]), or_sz h1, sz_relJ hn]
theorem has_all {l : List Tr} (hn : totN l ≤ 32) : hasR (allR l) = allF l := by
  unfold allR allF
  have h1 : szR (mkR (totN l) (relJ adS l 0)) = szR (mkR (totN l) (relJ daS l 0)) := by rw [sz_relJ hn, sz_relJ hn]
  have h2 : szR (mkR (totN l) (relJ ctS l 0)) = szR (mkR (totN l) (relJ rmS l 0)) := by rw [sz_relJ hn, sz_relJ hn]
  rw [or_has (by rw [or_sz h1, or_sz h2, sz_relJ hn, sz_relJ hn]), or_has h1, or_has h2, has_relJ hn, has_relJ hn, has_relJ hn, has_relJ hn]
theorem all_rd {l : List Tr} {i k : Nat} (h : allF l i k = true) : ∃ S, RdS S ∧ relJ S l 0 i k = true := by
  unfold allF orF at h
  simp only [Bool.or_eq_true] at h
  rcases h with (h | h) | (h | h)
  · exact ⟨adS, .inl rfl, h⟩
  · exact ⟨daS, .inr (.inl rfl), h⟩
  · exact ⟨ctS, .inr (.inr (.inl rfl)), h⟩
  · exact ⟨rmS, .inr (.inr (.inr rfl)), h⟩
theorem and_all {f g : Nat → Nat → Bool} (h : ∀ i k, f i k = true → g i k = true) : andF f g = f := by
  funext i k
  unfold andF
  cases hf : f i k with
  | false => rfl
  | true => rw [h i k hf]; rfl
theorem all_po {l : List Tr} (hn : totN l ≤ 32) : cleanR (andL (allR l) (mkR (totN l) (relJ poS l 0))) = cleanR (allR l) := by
  have hs : szR (allR l) = szR (mkR (totN l) (relJ poS l 0)) := by rw [sz_all hn, sz_relJ hn]
  refine same_of (by rw [and_sz hs]) ?_
  rw [and_has hs, has_all hn, has_relJ hn]
  exact and_all fun i k h => by
    obtain ⟨S, _, h⟩ := all_rd h
    exact relJ_po h
theorem bits_all {k : Nat} (h : k < 32) : (4294967295 : Nat).testBit k = true := by
  rw [show (4294967295 : Nat) = 2 ^ 32 - 1 by decide, Nat.testBit_two_pow_sub_one]
  simpa using h
theorem all_reads {l : List Tr} {locs : Int} (hl : ∀ t ∈ l, RunTr locs t) (hn : totN l ≤ 32) : cleanR (onlyL (allR l) (kdM (evsJ l 0) fun e => [(1 : Int)].contains e.kd) 4294967295) = cleanR (allR l) := by
  refine same_of (by rw [only_sz]) ?_
  rw [only_has, has_all hn]
  exact and_all fun i k h => by
    obtain ⟨S, hS, h⟩ := all_rd h
    obtain ⟨e, he, hk⟩ := way_reads hl hS h
    have h32 := (relJ_in h).2.2
    unfold crossF
    rw [Bool.and_eq_true]
    exact ⟨kdM_bit.2 ⟨e, he, by simp [hk]⟩, bits_all (by omega)⟩
theorem data_reads {l : List Tr} {locs : Int} (hl : ∀ t ∈ l, RunTr locs t) (hn : totN l ≤ 32) : cleanR (onlyL (mkR (totN l) (relJ daS l 0)) (kdM (evsJ l 0) fun e => [(1 : Int)].contains e.kd) (kdM (evsJ l 0) fun e => [(2 : Int)].contains e.kd)) = cleanR (mkR (totN l) (relJ daS l 0)) := by
  refine same_of (by rw [only_sz]) ?_
  rw [only_has, has_relJ hn]
  exact and_all fun i k h => by
    obtain ⟨e, he, hk⟩ := way_reads hl (.inr (.inl rfl)) h
    obtain ⟨f, hf, hk2⟩ := way_data hl h
    unfold crossF
    rw [Bool.and_eq_true]
    exact ⟨kdM_bit.2 ⟨e, he, by simp [hk]⟩, kdM_bit.2 ⟨f, hf, by simp [hk2]⟩⟩
theorem rmw_alike {l : List Tr} {locs : Int} (hl : ∀ t ∈ l, RunTr locs t) (hn : totN l ≤ 32) : cleanR (andL (mkR (totN l) (relJ rmS l 0)) (mkR (evsJ l 0).length (alikeF (evsJ l 0)))) = cleanR (mkR (totN l) (relJ rmS l 0)) := by
  have hs : szR (mkR (totN l) (relJ rmS l 0)) = szR (mkR (evsJ l 0).length (alikeF (evsJ l 0))) := by rw [sz_relJ hn, sz_evs hn]
  refine same_of (by rw [and_sz hs]) ?_
  rw [and_has hs, has_relJ hn, has_evs hn within_alikeF]
  exact and_all fun i k h => (way_pair hl h).1
/-- All that is within threads. -/
theorem sz_all2 {l : List Tr} (hn : totN l ≤ 32) : szR (orL (allR l) (mkR (totN l) (relJ poS l 0))) = totN l := by
  rw [or_sz (by rw [sz_all hn, sz_relJ hn]), sz_all hn]
theorem all_inner {l : List Tr} (hn : totN l ≤ 32) : cleanR (andL (orL (allR l) (mkR (totN l) (relJ poS l 0))) (mkR (evsJ l 0).length (innerF (evsJ l 0)))) = cleanR (orL (allR l) (mkR (totN l) (relJ poS l 0))) := by
  have h1 : szR (allR l) = szR (mkR (totN l) (relJ poS l 0)) := by rw [sz_all hn, sz_relJ hn]
  have hs : szR (orL (allR l) (mkR (totN l) (relJ poS l 0))) = szR (mkR (evsJ l 0).length (innerF (evsJ l 0))) := by rw [sz_all2 hn, sz_evs hn]
  refine same_of (by rw [and_sz hs]) ?_
  rw [and_has hs, or_has h1, has_all hn, has_relJ hn, has_evs hn within_innerF]
  exact and_all fun i k h => by
    rw [inner_is]
    unfold orF at h
    rw [Bool.or_eq_true] at h
    rcases h with h | h
    · obtain ⟨S, _, h⟩ := all_rd h
      exact .inl (relJ_po h)
    · exact .inl h
theorem alike_mem2 {l : List Ev} (hn : l.length ≤ 32) : cleanR (onlyL (mkR l.length (alikeF l)) (kdM l fun e => [(1 : Int), 2].contains e.kd) (kdM l fun e => [(1 : Int), 2].contains e.kd)) = cleanR (mkR l.length (alikeF l)) := by
  refine same_of (by rw [only_sz]) ?_
  rw [only_has, mkR_fun hn within_alikeF]
  exact and_all fun i k h => by
    obtain ⟨x, y, h1, h2, m1, m2⟩ := alike_mem h
    unfold memB at m1 m2
    unfold crossF
    rw [Bool.and_eq_true]
    refine ⟨kdM_bit.2 ⟨x, h1, ?_⟩, kdM_bit.2 ⟨y, h2, ?_⟩⟩
    · simpa using m1
    · simpa using m2
/-- The bits of those to which pairs lead. -/
def toM (p : List (Nat × Nat)) : Nat := p.foldl (fun a x => a ||| 2 ^ x.2) 0
theorem fold_bit {b : Nat} : ∀ (p : List (Nat × Nat)) (a : Nat), (p.foldl (fun a x => a ||| 2 ^ x.2) a).testBit b = (a.testBit b || p.any fun x => x.2 == b)
  | [], a => by simp
  | x :: p, a => by
    rw [List.foldl_cons, fold_bit p, Nat.testBit_or, Nat.testBit_two_pow, List.any_cons, Bool.or_assoc]
    congr 2
theorem toM_next {p : List (Nat × Nat)} {k : Nat} {x : Nat × Nat} (h : p[k]? = some x) : toM (p.take (k + 1)) = toM (p.take k) ||| 2 ^ x.2 := by
  unfold toM
  rw [List.take_add_one, h, Option.toList_some, List.foldl_append]
  rfl
theorem toM_lt {p : List (Nat × Nat)} (h : ∀ x ∈ p, x.2 < 32) : toM p < 4294967296 := by
  have : toM p < 2 ^ 32 := Nat.lt_pow_two_of_testBit _ fun b hb => by
    unfold toM
    rw [fold_bit, Nat.zero_testBit, Bool.false_or, List.any_eq_false]
    intro x hx
    have := h x hx
    simp
    omega
  simpa using this

theorem kdM_lt {l : List Ev} {p : Ev → Bool} (h : l.length ≤ 32) : kdM l p < 4294967296 := rowN_u32 h
/-- What ExecPo asks. -/
structure PoFacts (x : Ex) : Prop where
  f0 : x.evs.length ≤ 24
  f1 : acyL x.po = true
  f2 : cleanR (plusL x.po) = cleanR x.po
  f3 : cleanR (orL x.po (invL x.po)) = cleanR (mkR x.evs.length (innerF x.evs))
  f4 : cleanR (andL (orL (orL x.ad x.da) (orL x.ct x.rm)) x.po) = cleanR (orL (orL x.ad x.da) (orL x.ct x.rm))
  f5 : cleanR (onlyL (orL (orL x.ad x.da) (orL x.ct x.rm)) (kdM x.evs fun e => [(1 : Int)].contains e.kd) 4294967295) = cleanR (orL (orL x.ad x.da) (orL x.ct x.rm))
  f6 : cleanR (onlyL x.da (kdM x.evs fun e => [(1 : Int)].contains e.kd) (kdM x.evs fun e => [(2 : Int)].contains e.kd)) = cleanR x.da
  f7 : cleanR (andL x.rm (mkR x.evs.length (alikeF x.evs))) = cleanR x.rm
/-- What ExecApart asks. -/
structure ApFacts (x : Ex) : Prop where
  f0 : x.evs.length ≤ 24
  f1 : cleanR (andL (orL (orL (orL x.ad x.da) (orL x.ct x.rm)) x.po) (mkR x.evs.length (innerF x.evs))) = cleanR (orL (orL (orL x.ad x.da) (orL x.ct x.rm)) x.po)
  f2 : toM (pairsL x.rm) = kdM x.evs fun e => e.ex && (e.kd == 2)
  f3 : cleanR (onlyL (mkR x.evs.length (alikeF x.evs)) (kdM x.evs fun e => [(1 : Int), 2].contains e.kd) (kdM x.evs fun e => [(1 : Int), 2].contains e.kd)) = cleanR (mkR x.evs.length (alikeF x.evs))
  f4 : ∀ p ∈ pairsL x.rm, p.2 < 32
theorem po_facts {xs : List Int} {ts : List (List Ins)} {x : Ex} (h : x ∈ (allZ xs ts).1) : PoFacts x := by
  obtain ⟨h3, q, hway, hxe⟩ := allZ_mem h
  have hr := way_runs hway
  have ht := way_tot hway h3
  have hn : totN (q.map St.tr) ≤ 32 := by omega
  subst hxe
  exact ⟨by show (evsJ _ _).length ≤ _; rw [evsJ_len]; exact ht, po_acy hn, po_closed hn, po_both hn, all_po hn, all_reads hr hn, data_reads hr hn, rmw_alike hr hn⟩
theorem ap_facts {xs : List Int} {ts : List (List Ins)} {x : Ex} (h : x ∈ (allZ xs ts).1) : ApFacts x := by
  obtain ⟨h3, q, hway, hxe⟩ := allZ_mem h
  have hr := way_runs hway
  have ht := way_tot hway h3
  have hn : totN (q.map St.tr) ≤ 32 := by omega
  have hm : ∀ p ∈ pairsL (mkR (totN (q.map St.tr)) (relJ rmS (q.map St.tr) 0)), p.2 < 32 := fun p hp => by
    obtain ⟨a, b⟩ := p
    unfold pairsL at hp
    rw [sz_relJ hn, pairs_mem] at hp
    show b < 32
    omega
  subst hxe
  refine ⟨by show (evsJ _ _).length ≤ _; rw [evsJ_len]; exact ht, all_inner hn, ?_, alike_mem2 (by show (evsJ _ _).length ≤ _; rw [evsJ_len]; exact hn), hm⟩
  show toM (pairsL (mkR (totN (q.map St.tr)) (relJ rmS (q.map St.tr) 0))) = kdM (evsJ (q.map St.tr) 0) fun e => e.ex && (e.kd == 2)
  refine Nat.eq_of_testBit_eq fun b => ?_
  rw [Bool.eq_iff_iff, kdM_bit]
  unfold toM
  rw [fold_bit, Nat.zero_testBit, Bool.false_or, List.any_eq_true]
  constructor
  · rintro ⟨⟨a, c⟩, hp, e⟩
    have e' : c = b := by simpa using e
    subst e'
    unfold pairsL at hp
    rw [sz_relJ hn, has_relJ hn, pairs_mem] at hp
    obtain ⟨-, e, he, h2, hx⟩ := way_pair hr hp.2.2
    exact ⟨e, he, by simp [h2, hx]⟩
  · rintro ⟨e, he, h⟩
    rw [Bool.and_eq_true, beq_iff_eq] at h
    obtain ⟨a, ha⟩ := way_own hr he h.2 h.1
    have := relJ_in ha
    refine ⟨(a, b), ?_, by simp⟩
    unfold pairsL
    rw [sz_relJ hn, has_relJ hn, pairs_mem]
    exact ⟨by omega, by omega, ha⟩
end Go.Proofs.YtpmaifmokhnboaaGreatDoor
