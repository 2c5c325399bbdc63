/- The contract of order.All: rows that are written over in place. -/
import Derived.Test.YtpgbedaonjfpnaaOrdFits
namespace Go.Proofs.Ytpgbedaonjfpnaa
open Go.RowKit Go.Shelf
attribute [local go_sem] Ext.cell Ext.frozen

theorem OwnN.put {w : World} {base : Nat} {e : TypeId} {v : Value} {l : List Nat} {b j : Nat} (h : OwnN w base e v l) (hv : v.ownBlock = some b) (z : Nat) : OwnN (w.setCell ⟨b, j, none⟩ (natV z)) base e v (l.set j z) := by
  obtain ⟨h1, h2⟩ := h
  refine ⟨by simp, ?_⟩
  rcases h2 with ⟨rfl, h2⟩ | ⟨g, cap, cur, rfl, hb, hg, h3, h4, h5, h6⟩
  · simp [Value.ownBlock] at hv
  · have e2 : g = b := by simpa [Value.ownBlock] using hv
    subst e2
    refine .inr ⟨g, cap, cur.setIfInBounds j (natV z), by simp, hb, Blk.set (i := j) hg (natV z), by simpa using h3, h4, by simpa using h5, ?_⟩
    rw [Array.toList_setIfInBounds, List.take_set, List.length_set, h6, List.map_set]

theorem own_put {e t : TypeId} {A : Nat → Prop} {w : World} {base : Nat} {v : Value} {items : List (List Nat × Nat)} (h : Own A (RowE e) w base t v items) (hp : items.Pairwise (fun x y => x.1 ≠ [] → x.2 ≠ y.2)) {k j : Nat} (hk : k < items.length) (hall : ∀ x ∈ items, x.1 ≠ []) (z : Nat) :
    Own A (RowE e) (w.setCell ⟨items[k].2, j, none⟩ (natV z)) base t v (items.set k (items[k].1.set j z, items[k].2)) := by
  have hne := hall _ (List.getElem_mem hk)
  obtain ⟨cc, h1, h2, h3⟩ := h
  have ho : Only (fun b => b = items[k].2) w (w.setCell ⟨items[k].2, j, none⟩ (natV z)) := grownBy_only (grownBy_set _ _ _) fun q e => by cases e; rfl
  obtain ⟨uk, huk, hrk, hAk⟩ := h3 k hk (by omega)
  have hbk : uk.ownBlock = some items[k].2 := by
    rcases hrk.2 with h | ⟨_, h⟩
    · exact h
    · exact absurd h hne
  refine ⟨cc, ?_, by simpa using h2, fun i hi hi' => ?_⟩
  · obtain ⟨h4, h5⟩ := h1
    refine ⟨by simpa using h4, ?_⟩
    rcases h5 with ⟨h5, h6⟩ | ⟨g, cap, cur, rfl, hb, hg, h6⟩
    · exact .inl ⟨h5, by simpa using h6⟩
    · refine .inr ⟨g, cap, cur, by simp, hb, ?_, by simpa using h6⟩
      rw [ho.block g (Array.getElem?_eq_some_iff.1 hg).1 (fun e => (hAk hbk).2 (by rw [← e]; rfl))]
      exact hg
  · have hi2 : i < items.length := by simpa using hi
    obtain ⟨u, hu, hr, hA⟩ := h3 i hi2 hi'
    by_cases eik : i = k
    · subst eik
      simp only [List.getElem_set_self]
      have e1 : uk = u := by rw [hu] at huk; simpa using huk.symm
      subst e1
      exact ⟨uk, hu, ⟨hrk.1.put hbk z, .inl hbk⟩, hAk⟩
    · have e2 : (items.set k (items[k].1.set j z, items[k].2))[i] = items[i] := List.getElem_set_ne (by omega) _
      rw [e2]
      refine ⟨u, hu, ?_, hA⟩
      have hie := hall _ (List.getElem_mem hi2)
      refine hr.only ho fun e => ?_
      rcases Nat.lt_or_gt_of_ne eik with hlt | hlt
      · exact List.pairwise_iff_getElem.1 hp i k hi2 hk hlt hie e
      · exact List.pairwise_iff_getElem.1 hp k i hk hi2 hlt hne e.symm
theorem pair_put {items : List (List Nat × Nat)} (hp : items.Pairwise (fun x y => x.1 ≠ [] → x.2 ≠ y.2)) {k j z : Nat} (hk : k < items.length) : (items.set k (items[k].1.set j z, items[k].2)).Pairwise (fun x y => x.1 ≠ [] → x.2 ≠ y.2) := by
  rw [List.pairwise_iff_getElem] at *
  intro a b ha hb hab
  have ha' : a < items.length := by simpa using ha
  have hb' : b < items.length := by simpa using hb
  have h := hp a b ha' hb' hab
  simp only [List.getElem_set]
  by_cases ea : k = a
  · have eb : ¬ k = b := by omega
    subst ea
    rw [if_pos rfl, if_neg eb]
    intro hn
    refine h fun e => hn ?_
    simp [e]
  · rw [if_neg ea]
    by_cases eb : k = b
    · subst eb
      rw [if_pos rfl]
      exact h
    · rw [if_neg eb]; exact h
/-- The k-th row. -/
theorem own_at {e t : TypeId} {A : Nat → Prop} {w : World} {base : Nat} {p : Option Addr} {n c : Nat} {items : List (List Nat × Nat)} (h : Own A (RowE e) w base t (.slice p n c) items) {k : Nat} (hk : k < items.length) : n = items.length ∧ ∃ b o u, p = some ⟨b, o, none⟩ ∧ w.cell? ⟨b, o + k, none⟩ = some u ∧ RowV e w u items[k] ∧ (items[k].1 ≠ [] → u.ownBlock = some items[k].2 ∧ A items[k].2) := by
  obtain ⟨h1, h2⟩ := h.sl.at
  obtain ⟨b, o, hp, _, cs, ⟨u, rfl, hr, _⟩, h4⟩ := h2 k hk
  have h5 := h4 0 u rfl
  refine ⟨h1, b, o, u, hp, by simpa [RowE] using h5, hr, fun hne => ⟨?_, own_rows h _ (List.getElem_mem hk) hne⟩⟩
  rcases hr.2 with h | ⟨_, h⟩
  · exact h
  · exact absurd h hne

theorem new_has (n : Int) : hasR (newL n) = noF ∧ szR (newL n) = newN n := by
  have h32 := newN_le n
  refine ⟨?_, by unfold newL; exact mkR_sz _ h32⟩
  funext i k
  unfold newL noF
  rw [mkR_has _ h32]
  simp
/-- All orders of a list. -/
def allL (l : List Nat) : List (List Nat) := if l.length ≤ 6 then (extF l.length noF l.length []).map fun o => o.map fun i => l.getD i 0 else []
theorem linL_new {n : Nat} (hn : n ≤ 6) : linL (newL (n : Int)) = extF n noF n [] := by
  obtain ⟨h1, h2⟩ := new_has (n : Int)
  have h3 : newN (n : Int) = n := newN_nat (by omega)
  unfold linL
  rw [h2, h3, if_pos hn, h1, lin_no]

/-- One row more is written over. -/
theorem set_mid {α : Type} {g : α → α} {l : List α} {j : Nat} (hj : j < l.length) : ((l.take j).map g ++ l.drop j).set j (g l[j]) = (l.take (j + 1)).map g ++ l.drop (j + 1) := by
  have e1 : ((l.take j).map g).length = j := by simp; omega
  rw [List.set_append_right _ _ (by omega), e1, Nat.sub_self, List.drop_eq_getElem_cons hj, List.take_succ_eq_append_getElem hj, List.map_append, List.append_assoc]
  rfl
theorem set_at {α : Type} {a b : List α} {x y : α} {k : Nat} (hk : a.length = k) : (a ++ x :: b).set k y = a ++ y :: b := by
  subst hk
  rw [List.set_append_right _ _ (Nat.le_refl _), Nat.sub_self]
  rfl
theorem own_cell {w : World} {base : Nat} {e : TypeId} {v : Value} {l : List Nat} {b j : Nat} (h : OwnN w base e v l) (hv : v.ownBlock = some b) (hj : j < l.length) : w.cell? ⟨b, j, none⟩ = some (.int .i64 (l[j] : Nat)) ∧ w.frozen? ⟨b, j, none⟩ = false ∧ ∃ c, v = .slice (some ⟨b, 0, none⟩) l.length c := by
  obtain ⟨h1, h2⟩ := h
  rcases h2 with ⟨rfl, h2⟩ | ⟨g, cap, cur, rfl, hb, hg, h3, h4, h5, h6⟩
  · simp [Value.ownBlock] at hv
  · have e2 : g = b := by simpa [Value.ownBlock] using hv
    subst e2
    have hB : Blk w g cur e := hg
    refine ⟨?_, hB.frozen j, cap, rfl⟩
    rw [hB.cell j]
    have h7 := congrArg (fun z => z[j]?) h6
    simp only [Nat.mul_one, List.getElem?_take, hj, if_true, List.getElem?_map, List.getElem?_eq_getElem hj, Option.map_some] at h7
    rw [← Array.getElem?_toList, h7]
    rfl

theorem own_ptr {w : World} {base : Nat} {e : TypeId} {p : Option Addr} {n c : Nat} {l : List Nat} {b : Nat} (h : OwnN w base e (.slice p n c) l) (hv : (Value.slice p n c).ownBlock = some b) : p = some ⟨b, 0, none⟩ := by
  rcases h.2 with ⟨h2, _⟩ | ⟨g, cap, cur, h2, _⟩
  · rw [h2] at hv; simp [Value.ownBlock] at hv
  · simp only [Value.slice.injEq] at h2
    obtain ⟨rfl, _, _⟩ := h2
    have : g = b := by simpa [Value.ownBlock] using hv
    rw [this]
theorem own_rebase {α : Type} {R : Elem α} {A : Nat → Prop} {w : World} {base base' : Nat} {e : TypeId} {v : Value} {xs : List α} (h : Own A R w base e v xs) (hb : base' ≤ base) : Own A R w base' e v xs := by
  obtain ⟨cc, ⟨k1, k2⟩, k3⟩ := h
  refine ⟨cc, ⟨k1, ?_⟩, k3⟩
  rcases k2 with k2 | ⟨g, cap, cur, hv, hg, k4⟩
  · exact .inl k2
  · exact .inr ⟨g, cap, cur, hv, by omega, k4⟩

set_option maxHeartbeats 4000000 in
theorem All_any (p : Option Addr) (c : Nat) (l : List Nat) (w : World) (hl : Sl NatE w (.slice p l.length c) l) : Calls Try.prog 9 #[.slice p l.length c] w (ListsT w (allL l)) := by
  by_cases hn : l.length ≤ 6
  · have hn' : ¬ (6 : Int) < (l.length : Int) := by omega
    have el : Hid _ := (show allL l = (extF l.length noF l.length []).map fun o => o.map fun i => l.getD i 0 by unfold allL; rw [if_pos hn])
    have en := linL_new hn
    have hrl : ∀ o ∈ extF l.length noF l.length [], o.length = l.length := fun o ho => by have := ext_len ho; simpa using this
    have hre : ∀ o ∈ extF l.length noF l.length [], ∀ a ∈ o, a < l.length := fun o ho => (ext_fit ho).lt
    have hcnt : (extF l.length noF l.length []).length ≤ 46656 := by have := lin_count (f := noF) hn; rw [lin_no] at this; exact this
    generalize extF l.length noF l.length [] = rows at el en hrl hre hcnt
    have hg : Hid _ := (show ∀ i (h : i < l.length), l.getD i 0 = l[i] from fun i h => by simp [h])
    obtain ⟨g, hgg⟩ : ∃ g : Nat → Nat, g = fun i => l.getD i 0 := ⟨_, rfl⟩
    have HG : Hid _ := (show ∀ i (h : i < l.length), g i = l[i] from fun i h => by rw [hgg]; exact hg.out i h)
    rw [← hgg] at el
    clear hgg hg
    have HRL : Hid _ := hrl
    have HRE : Hid _ := hre
    clear hrl hre
    have HE : Hid _ := en
    clear en
    have C1 := New_l w (l.length : Int)
    obtain ⟨nl, hnl⟩ : ∃ nl, newL (l.length : Int) = nl := ⟨_, rfl⟩
    rw [hnl] at C1
    have HE : Hid _ := (show linL nl = rows by rw [← hnl]; exact HE.out)
    clear hnl
    go_enter Try.func9, Try.ntmps9
    go_wp2_with (first
      | (go_at_call 14; refine C1.mono ?_; clear C1; rintro e w1 ⟨p1, c1, rfl, hr, hb1⟩; have C2 := Linear_any p1 c1 nl w1 hr; clear hr)
      | (go_at_call 8; refine C2.mono ?_; clear C2; rintro e w2 ⟨v, its0, A, rfl, hit, hO, hA, hP, hb2⟩; obtain ⟨pv, cv, rfl⟩ := hO.len))
    have hit' : its0.map Prod.fst = rows := by rw [hit]; exact HE.out
    have hlen : its0.length = rows.length := by rw [← hit']; simp
    have hB2 := Below.thru hb1 hb2 (Nat.le_refl _)
    have hA1 : ∀ b, A b → w.heap.size ≤ b := fun b h => by have := hA b h; have := hb1.size; omega
    have hz1 := hb1.size
    clear hit hb1 hb2 hA
    have HLEN : Hid _ := hlen
    have HIT : Hid _ := hit'
    clear hlen hit'
    generalize hm : its0.length = m at *
    have HM : Hid _ := hm
    clear hm
    have hm1 : m ≤ 46656 := by have := HLEN.out; omega
    go_loopw [17] (fun i wr => ∃ (k : Nat) (its : List (List Nat × Nat)), k ≤ m ∧ i = .int .i64 k ∧ its.length = m ∧ its.map Prod.fst = (rows.take k).map (List.map g) ++ rows.drop k ∧ Own A (RowE 3) wr w1.heap.size 24 (.slice pv m cv) its ∧ its.Pairwise (fun x y => x.1 ≠ [] → x.2 ≠ y.2) ∧ Below w.heap.size w wr) (fun i _ => m - (intOf i).toNat)
    case atStart => exact ⟨0, its0, Nat.zero_le _, rfl, HM.out, by simp [HIT.out], hO, hP, hB2⟩
    case round =>
      obtain ⟨k, its, hk, rfl, hil, hif, hOr, hPr, hBr⟩ := hrel
      have HIL : Hid _ := hil
      have HIF : Hid _ := hif
      clear hil hif
      obtain ⟨w3, rfl⟩ : ∃ x : World, x = wr := ⟨_, rfl⟩
      by_cases hlt : k < m
      · have hlt' : (k : Int) < (m : Int) := by omega
        have hki : k < its.length := by rw [HIL.out]; exact hlt
        have hkr : k < rows.length := by rw [← HLEN.out]; exact hlt
        have hrow : its[k].1 = rows[k] := by
          have h := congrArg (fun z => z[k]?) HIF.out
          rw [List.getElem?_append_right (by simp; omega)] at h
          simp [hki, hkr, Nat.min_eq_left (Nat.le_of_lt hkr)] at h
          exact h
        obtain ⟨_, bv, ov, u, rfl, hcu, hru, hua⟩ := own_at hOr hki
        obtain ⟨pu, cu, rfl⟩ := hru.1.len
        have hrowl : rows[k].length = l.length := HRL.out _ (List.getElem_mem hkr)
        have hrowe : ∀ a ∈ rows[k], a < l.length := HRE.out _ (List.getElem_mem hkr)
        have hus : its[k].1 ≠ [] → pu = some ⟨its[k].2, 0, none⟩ ∧ A its[k].2 := fun h => ⟨own_ptr hru.1 (hua h).1, (hua h).2⟩
        clear hua
        rw [hrow] at hcu hus
        have hq : rows = rows.take k ++ rows[k] :: rows.drop (k + 1) := by rw [← List.drop_eq_getElem_cons hkr, List.take_append_drop]
        have hq2 : (rows.take (k + 1)).map (List.map g) ++ rows.drop (k + 1) = (rows.take k).map (List.map g) ++ rows[k].map g :: rows.drop (k + 1) := by
          rw [List.take_succ_eq_append_getElem hkr, List.map_append, List.append_assoc]; rfl
        have hq0 : its.map Prod.fst = (rows.take k).map (List.map g) ++ rows[k] :: rows.drop (k + 1) := by rw [HIF.out, ← List.drop_eq_getElem_cons hkr]
        have HQ2 : Hid _ := hq2
        have HQ0 : Hid _ := hq0
        have hall : ∀ (its' : List (List Nat × Nat)) (r : List Nat), r.length = l.length → its'.map Prod.fst = (rows.take k).map (List.map g) ++ r :: rows.drop (k + 1) → l.length ≠ 0 → ∀ x ∈ its', x.1 ≠ [] := by
          intro its' r hr he hnz x hx e
          have h1 : x.1 ∈ its'.map Prod.fst := List.mem_map_of_mem hx
          rw [he, List.mem_append, List.mem_cons] at h1
          have h2 : x.1.length = l.length := by
            rcases h1 with h1 | h1 | h1
            · obtain ⟨y, hy, e2⟩ := List.mem_map.1 h1
              rw [← e2, List.length_map]
              exact HRL.out y (List.mem_of_mem_take hy)
            · rw [h1, hr]
            · exact HRL.out _ (List.mem_of_mem_drop h1)
          rw [e] at h2
          exact hnz h2.symm
        have HALL : Hid _ := hall
        have HRW : Hid _ := hrow
        have HRWL : Hid _ := hrowl
        have HRWE : Hid _ := hrowe
        clear hq hq2 hq0 hall hrow hrowl hrowe hru
        obtain ⟨bk, hbk⟩ : ∃ b, b = its[k].2 := ⟨_, rfl⟩
        rw [← hbk] at hus
        have HBK : Hid _ := hbk
        clear hbk
        generalize rows[k] = row at *
        have hrl6 : row.length ≤ 6 := by have := HRWL.out; omega
        go_wp2
        go_loopw [23] (fun i wr => ∃ (j : Nat) (its' : List (List Nat × Nat)) (hk' : k < its'.length), j ≤ row.length ∧ i = .int .i64 j ∧ its'.length = m ∧ its'.map Prod.fst = (rows.take k).map (List.map g) ++ ((row.take j).map g ++ row.drop j) :: rows.drop (k + 1) ∧ its'[k].2 = bk ∧ Own A (RowE 3) wr w1.heap.size 24 (.slice (some ⟨bv, ov, none⟩) m cv) its' ∧ its'.Pairwise (fun x y => x.1 ≠ [] → x.2 ≠ y.2) ∧ Below w.heap.size w wr) (fun i _ => row.length - (intOf i).toNat)
        case atStart => exact ⟨0, its, hki, Nat.zero_le _, rfl, HIL.out, by simpa using HQ0.out, HBK.out.symm, hOr, hPr, hBr⟩
        case round =>
          obtain ⟨j, its', hk', hj, rfl, hil, hif, hib, hOi, hPi, hBi⟩ := hrel
          have HIL' : Hid _ := hil
          have HIF' : Hid _ := hif
          have HIB' : Hid _ := hib
          clear hil hif hib
          by_cases hjl : j < row.length
          · have hjl' : (j : Int) < (row.length : Int) := by omega
            have hne : row ≠ [] := fun e => by rw [e] at hjl; simp at hjl
            obtain ⟨rfl, hAb⟩ := hus hne
            have hnz : l.length ≠ 0 := by have := HRWL.out; omega
            have hmid : ((row.take j).map g ++ row.drop j).length = row.length := by simp; omega
            have hal := HALL.out its' ((row.take j).map g ++ row.drop j) (by rw [hmid]; exact HRWL.out) HIF'.out hnz
            have hrow' : its'[k].1 = (row.take j).map g ++ row.drop j := by
              have h := congrArg (fun z => z[k]?) HIF'.out
              rw [List.getElem?_append_right (by simp; omega)] at h
              simp [hk', Nat.min_eq_left (Nat.le_of_lt hkr)] at h
              rw [List.map_take]
              exact h
            obtain ⟨_, b2, o2, u2, e2, _, hr2, hu2⟩ := own_at hOi hk'
            obtain ⟨hub2, _⟩ := hu2 (hal _ (List.getElem_mem hk'))
            have hj2 : j < its'[k].1.length := by rw [hrow', hmid]; exact hjl
            obtain ⟨hcell, hfr, _⟩ := own_cell hr2.1 hub2 hj2
            rw [HIB'.out] at hcell hfr
            have hval : its'[k].1[j] = row[j] := by
              have : its'[k].1[j]? = row[j]? := by
                rw [hrow', List.getElem?_append_right (by simp; omega)]
                simp [Nat.min_eq_left (Nat.le_of_lt hjl)]
              rw [List.getElem?_eq_getElem hj2, List.getElem?_eq_getElem hjl] at this
              simpa using this
            rw [hval] at hcell
            have hpl := HRWE.out row[j] (List.getElem_mem hjl)
            have hput := own_put hOi hPi hk' hal (j := j) (g row[j])
            have hpp := pair_put (j := j) (z := g row[j]) hPi hk'
            have hiff : (its'.set k (its'[k].1.set j (g row[j]), its'[k].2)).map Prod.fst = (rows.take k).map (List.map g) ++ ((row.take (j + 1)).map g ++ row.drop (j + 1)) :: rows.drop (k + 1) := by
              rw [List.map_set, HIF'.out, set_at (by simp; omega), hrow', set_mid hjl]
            rw [HIB'.out] at hput hpp hiff
            rw [HG.out _ hpl] at hput hpp hiff
            obtain ⟨lb, lo, rfl, _, hlc⟩ := (nat_at (hl.keep hBi)).2 row[j] hpl
            have hpl' : ((row[j] : Nat) : Int) < (l.length : Int) := by omega
            have HPUT : Hid _ := hput
            have HPP : Hid _ := hpp
            have HIFF : Hid _ := hiff
            have hbo := hA1 bk hAb
            clear hput hpp hiff hal hrow' hmid hr2 hu2 hub2 e2 hval hne
            have hj2' : Hid _ := hj2
            clear hj2
            generalize l[row[j]] = z at *
            generalize row[j] = y at *
            go_wp2
            go_roundw
            case rel => exact ⟨j + 1, _, by simpa using hk', by omega, by go_num, by simpa using HIL'.out, HIFF.out, by simp, HPUT.out, HPP.out, below_set hBi hbo _⟩
            case measure => simp [intOf]; omega
          · have ej : j = row.length := by omega
            have hfin : its'.map Prod.fst = (rows.take (k + 1)).map (List.map g) ++ rows.drop (k + 1) := by
              rw [HIF'.out, HQ2.out, ej]; simp
            have HFIN : Hid _ := hfin
            clear ej hfin
            go_wp2
            go_roundw
            case rel => exact ⟨k + 1, its', by omega, by go_num, HIL'.out, HFIN.out, hOi, hPi, hBi⟩
            case measure => simp [intOf]; omega
      · have ek : k = m := by omega
        have hfin : its.map Prod.fst = allL l := by
          rw [HIF.out, el.out, ek]
          have := HLEN.out
          rw [List.take_of_length_le (by omega), List.drop_of_length_le (by omega), List.append_nil]
        have hrt : ListsT w (allL l) (.returned (.slice pv m cv)) w3 := by
          exact RowsT.lists ⟨_, its, fun b => A b, rfl, hfin, own_rebase hOr hz1, hA1, hPr, hBr⟩
        clear hfin ek
        go_wp2
        go_ret
        exact hrt
  · have hn' : (6 : Int) < (l.length : Int) := by omega
    have el : Hid _ := (show allL l = [] by unfold allL; rw [if_neg hn])
    clear hn
    go_enter Try.func9, Try.ntmps9
    go_wp2
    go_ret
    rw [el.out]
    exact ⟨none, 0, rfl, SlA.nil, Below.refl _ _⟩
end Go.Proofs.Ytpgbedaonjfpnaa
