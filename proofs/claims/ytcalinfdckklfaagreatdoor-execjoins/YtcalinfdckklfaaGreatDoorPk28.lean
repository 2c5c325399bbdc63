/- ValsCalls: ValsFurther, ValsOf, ValsCalls, in one text. -/
import Derived.Test.YtcalinfdckklfaaGreatDoorPk24
import Derived.Test.YtcalinfdckklfaaGreatDoorPk26
import Derived.Test.YtcalinfdckklfaaGreatDoorPk12
import Derived.Test.YtcalinfdckklfaaGreatDoorPk27
namespace Go.Proofs.YtcalinfdckklfaaGreatDoor
open Go.RowKit
attribute [local go_sem] Ext.cell Ext.frozen

/-- The lists that are brought together. -/
def furL (ts : List (List Ins)) (locs : Int) (l : List Int) : List (List Int) := l :: ts.map fun th => putsN [] (wroteT (tracesT th locs l))
theorem furL_len {locs : Int} {l : List Int} (hl : l.length ≤ 8) : ∀ {ts : List (List Ins)}, (∀ th ∈ ts, th.length ≤ 8) → (furL ts locs l).flatten.length ≤ 8 + 8 * sum16 ts
  | [], _ => by simp [furL, sum16]; exact hl
  | th :: ts, h => by
    have ih := furL_len (locs := locs) hl (ts := ts) fun t ht => h t (List.mem_cons_of_mem _ ht)
    unfold furL at ih ⊢
    simp only [List.map_cons, List.flatten_cons, List.length_append, sum16] at ih ⊢
    have h1 : (putsN [] (wroteT (tracesT th locs l))).length ≤ _ := putsN_len
    have h2 := wroteT_len (l := tracesT th locs l) fun s hs => tracesT_evs hs
    have h3 := tracesT_len (th := th) (locs := locs) hl
    simp only [List.length_nil] at h1
    omega
theorem furL_next {ts : List (List Ins)} {locs : Int} {l : List Int} (hup : Up l) : putsN [] (furL ts locs l).flatten = nextN ts locs l := by
  refine up_ext (up_putsN (by simp [Up])) (up_nextN hup) fun x => ?_
  rw [nextN_is, mem_putsN, mem_putsN]
  unfold furL
  simp only [List.flatten_cons, List.mem_append, List.mem_flatten, List.mem_map, List.mem_flatMap, List.not_mem_nil, or_false]
  constructor
  · rintro (h | ⟨q, ⟨th, hth, rfl⟩, h⟩)
    · exact .inr h
    · refine .inl ⟨th, hth, ?_⟩
      rcases mem_putsN.1 h with h | h
      · exact h
      · simp at h
  · rintro (⟨th, hth, h⟩ | h)
    · exact .inr ⟨_, ⟨th, hth, rfl⟩, mem_putsN.2 (.inl h)⟩
    · exact .inl h
theorem furL_wf {ts : List (List Ins)} {locs : Int} {l : List Int} (hl : ∀ x ∈ l, InZ x) : ∀ x ∈ (furL ts locs l).flatten, InZ x := by
  intro x hx
  unfold furL at hx
  simp only [List.flatten_cons, List.mem_append, List.mem_flatten, List.mem_map] at hx
  rcases hx with hx | ⟨q, ⟨th, _, rfl⟩, hx⟩
  · exact hl x hx
  · exact putsN_wf (fun _ h => by simp at h) (wrote_wf hl) x hx
theorem furL_take {ts : List (List Ins)} {locs : Int} {l : List Int} {k : Nat} {th : List Ins} (h : ts[k]? = some th) : furL (ts.take (k + 1)) locs l = furL (ts.take k) locs l ++ [putsN [] (wroteT (tracesT th locs l))] := by
  unfold furL
  rw [List.take_add_one, h]
  simp
theorem furL_size {ts : List (List Ins)} {locs : Int} {l : List Int} : (furL ts locs l).length = ts.length + 1 := by simp [furL]

theorem own_one {α : Type} {R : Elem α} {w : World} {base b : Nat} {e : TypeId} {v : Value} {x : List α} (hb : base ≤ b) (h : Blk w b #[v] e) (hx : SlA (fun k => k ≠ b) R w v x) : Own (fun _ => True) (SlE R) w base e (.slice (some ⟨b, 0, none⟩) 1 1) [x] :=
  ⟨[[v]], ⟨by simp [SlE], .inr ⟨b, 1, #[v], rfl, hb, h, Nat.le_refl _, by unfold maxLen; omega, by simp [SlE], by simp [SlE]⟩⟩, rfl, fun i hi hi' => by
    have : i = 0 := by simp at hi; omega
    subst this
    exact ⟨v, rfl, hx.mono fun k hk => ⟨trivial, fun e => hk (by simpa [Value.ownBlock] using e)⟩⟩⟩
theorem info_i64s : ∃ i, Tryz.prog.info? 60 = some i ∧ i.zero = some (.slice none 0 0) ∧ i.size = 1 ∧ i.bytes = 24 := by
  have h : (Tryz.prog.info? 60).map (fun i => (i.zero, i.size, i.bytes)) = some (some (.slice none 0 0), 1, 24) := by kernel_rfl
  cases hi : Tryz.prog.info? 60 with
  | none => rw [hi] at h; cases h
  | some i =>
    rw [hi] at h
    simp only [Option.map_some, Option.some.injEq, Prod.mk.injEq] at h
    exact ⟨i, rfl, h.1, h.2.1, h.2.2⟩

set_option maxRecDepth 20000 in
set_option maxHeartbeats 8000000 in
theorem further_any (pi pt pl : Option Addr) (ci ct cl : Nat) (xs : List Int) (ts : List (List Ins)) (l : List Int) (w : World) (T : FEnv w) (_ : Sl IntE w (.slice pi xs.length ci) xs) (ht : Sl ThrE w (.slice pt ts.length ct) ts) (hl : Sl IntE w (.slice pl l.length cl) l)
    (hl8 : l.length ≤ 8) (hz : ∀ x ∈ l, InZ x) (hup : Up l) (h8 : ∀ th ∈ ts, th.length ≤ 8) (hs : sum16 ts ≤ 65539) (h3 : ts.length ≤ 3) :
    Calls Tryz.prog 64 #[.agg #[.slice pi xs.length ci, .slice pt ts.length ct], .slice pl l.length cl] w fun e w' => ∃ v, e = .returned v ∧ SlA (fun k => w.heap.size ≤ k) IntE w' v (nextN ts xs.length l) ∧ Below w.heap.size w w' := by
  obtain ⟨w1, hw1⟩ : ∃ w1, w1 = w.alloc (.cells #[.slice pi xs.length ci, .slice pt ts.length ct] 63) := ⟨_, rfl⟩
  have k1 : Blk w1 w.heap.size #[.slice pi xs.length ci, .slice pt ts.length ct] 63 := by rw [hw1]; exact Blk.new
  have b1 : Below w.heap.size w w1 := by rw [hw1]; exact below_new _ _
  have s1 : w1.heap.size = w.heap.size + 1 := by rw [hw1]; simp
  obtain ⟨w2, hw2⟩ : ∃ w2, w2 = w1.alloc (.cells #[.slice pl l.length cl] 60) := ⟨_, rfl⟩
  have k2 : Blk w2 w1.heap.size #[.slice pl l.length cl] 60 := by rw [hw2]; exact Blk.new
  have b2 : Below w1.heap.size w1 w2 := by rw [hw2]; exact below_new _ _
  have B2 := Below.thru b1 b2 (Nat.le_refl _)
  have k12 := k1.keep b2
  have O2 : Own (fun _ => True) (SlE IntE) w2 (w.heap.size + 1) 60 (.slice (some ⟨w1.heap.size, 0, none⟩) 1 1) [l] := own_one (by omega) k2 (SlA.mono (fun b hb => by omega) (hl.old.keep B2))
  have hf0 : furL (ts.take 0) xs.length l = [l] := by simp [furL]
  rw [s1] at O2
  have HW1 : Hid _ := hw1
  have HW2 : Hid _ := hw2
  have HZ : Hid _ := hz
  have HU : Hid _ := hup
  have H8 : Hid _ := h8
  clear hw1 hw2 hz hup h8 k1 k2 b1 b2
  have x0 := k12.cell 0
  have x1 := k12.cell 1
  have lx := k12.lt
  simp only [List.getElem?_toArray, List.getElem?_cons_zero, List.getElem?_cons_succ] at x0 x1
  obtain ⟨ii, j1, j2, j3, j4⟩ := info_i64s
  have J1 : Hid _ := j1
  have J2 : Hid _ := j2
  have J3 : Hid _ := j3
  have J4 : Hid _ := j4
  clear j1 j2 j3 j4
  go_enter Tryz.func64, Tryz.ntmps64
  go_wp2
  rw [← HW1.out, ← HW2.out]
  clear HW1 HW2 x0 x1 lx
  go_loopw [5, 13] (fun a i wr => ∃ k : Nat, k ≤ ts.length ∧ i = .int .i64 k ∧ Own (fun _ => True) (SlE IntE) wr (w.heap.size + 1) 60 a (furL (ts.take k) xs.length l) ∧ Blk wr w.heap.size #[.slice pi xs.length ci, .slice pt ts.length ct] 63 ∧ Below w.heap.size w wr) (fun _ i _ => ts.length - (intOf i).toNat)
  case atStart => exact ⟨0, Nat.zero_le _, rfl, by rw [hf0]; exact O2, k12, B2⟩
  case round =>
    clear O2 k12 B2 s1 hf0
    obtain ⟨k, hk, rfl, hO, kb, hbr⟩ := hrel
    have hsz := hbr.size
    have hfl := furL_size (ts := ts.take k) (locs := xs.length) (l := l)
    rw [List.length_take, Nat.min_eq_left hk] at hfl
    by_cases hlt : k < ts.length
    · obtain ⟨bt, ot, rfl, v, g1, hv⟩ := (thr_at (ht.keep hbr)).2 k hlt
      have hv1 := hv.any
      have h8t := H8.out _ (List.getElem_mem hlt)
      have hst := furL_take (locs := xs.length) (l := l) (List.getElem?_eq_getElem hlt)
      generalize ts[k] = th at hv1 h8t hst
      clear hv
      obtain ⟨pv, cv, rfl⟩ := hv1.len
      have lg := cell_lt g1
      have x0 := kb.cell 0
      have lx := kb.lt
      simp only [List.getElem?_toArray, List.getElem?_cons_zero] at x0
      have hlt' : (k : Int) < (ts.length : Int) := by omega
      have hlen : (tracesT th xs.length l).length ≤ 65536 := tracesT_len4 hl8
      have hevs : ∀ s ∈ tracesT th xs.length l, s.evs.length ≤ 8 := fun s hs => tracesT_evs hs
      have hwf : ∀ x ∈ wroteT (tracesT th xs.length l), InZ x := wrote_wf HZ.out
      have hTr := fun W (hB : Below wr.heap.size wr W) => Traces_new pv pl cv cl th xs.length l W ((T.below hbr).below hB) hl8 (by omega) (hv1.keep hB) ((hl.keep hbr).keep hB)
      generalize tracesT th xs.length l = TT at *
      have HV : Hid _ := hevs
      have HF : Hid _ := hwf
      have HT : Hid _ := hTr
      have HS : Hid _ := hst
      clear hevs hwf hTr hst
      have hWr := fun p3 c3 w3 (h : Sl TrE w3 (.slice p3 TT.length c3) TT) => Wrote_new p3 c3 TT w3 h HV.out (by omega) HF.out
      generalize furL (ts.take k) xs.length l = L at *
      generalize putsN [] (wroteT TT) = PL at *
      have HW : Hid _ := hWr
      clear hWr
      obtain ⟨pL, cL, rfl⟩ := hO.len
      have hL6 : L.length ≤ 1000 := by omega
      clear hfl
      have F1 := trivial
      go_wp2_with (first
        | (go_at_call 45; clear F1; refine (HT.out _ (Below.refl _ _)).mono ?_; rintro e w3 ⟨v3, rfl, hV3, hb3⟩; obtain ⟨p3, c3, rfl⟩ := hV3.len; have hV3a := hV3.any; have F2 := trivial)
        | (go_at_call 83; clear F2; refine (HW.out p3 c3 w3 hV3a).mono ?_; rintro e w4 ⟨v4, rfl, hV4, hb4⟩; obtain ⟨p4, c4, rfl⟩ := hV4.len; have B4 := Below.thru hb3 hb4 (Nat.le_refl _); have F3 := trivial)
        | (at_builtin; clear F3; have hb5 := below_new w4 (.cells #[.slice p4 PL.length c4] 60); have B5 := Below.thru B4 hb5 (Nat.le_refl _); have kN : SlA (fun x => wr.heap.size ≤ x) (SlE IntE) (w4.alloc (.cells #[.slice p4 PL.length c4] 60)) (.slice (some ⟨w4.heap.size, 0, none⟩) 1 1) [PL] := sl_one B4.size (by rw [Blk.cell Blk.new]; rfl) (SlA.mono (fun x hx => Nat.le_trans hb3.size hx) (hV4.keep hb5)) (Nat.le_refl _); refine wpList_app (R := SlE IntE) (A := fun _ => True) (B := fun x => wr.heap.size ≤ x) (xs := L) (ys := [PL]) (by rfl) (.tmp 17) (.tmp 25) 40 60 ii (.slice none 0 0) 24 (by rfl) Tryz.underlying40 J1.out J2.out J3.out J4.out (by rfl) (w.heap.size + 1) (.slice pL L.length cL) (.slice (some ⟨w4.heap.size, 0, none⟩) 1 1) (by rfl) (by rfl) (hO.keep B5) kN (fun _ _ _ h => (SlE IntE).mono (fun x hx => ⟨trivial, fun e => by have := (hO.lt x e.symm).2; omega⟩) h) (by simp only [List.length_cons, List.length_nil]; omega) (by decide) (by have := B5.size; omega) ?_; intro p6 c6 w6 hO6 hg6 _; have B6 : Below w.heap.size w w6 := (Below.thru hbr B5 (Nat.le_refl _)).grown hg6 (by have := B5.size; omega) (fun q hq => by have := (hO.lt q hq).1; omega); have kb6 := (kb.keep B5).grown hg6 (fun e => by have := (hO.lt _ e.symm).1; omega); have F4 := trivial))
      go_roundw
      case rel => exact ⟨k + 1, by omega, by go_num, by rw [HS.out]; rw [show (L ++ [PL]).length = L.length + 1 by simp] at hO6; exact hO6, kb6, B6⟩
      case measure => simp [intOf]; omega
    · have hlt' : ¬ (k : Int) < (ts.length : Int) := by omega
      have e : furL (ts.take k) xs.length l = furL ts xs.length l := by rw [List.take_of_length_le (by omega)]
      rw [e] at hO hfl
      have hn : (furL ts xs.length l).flatten.length ≤ 1000000 := by have := furL_len (locs := xs.length) hl8 H8.out; omega
      have hnext := furL_next (ts := ts) (locs := xs.length) HU.out
      have hwf := furL_wf (ts := ts) (locs := xs.length) HZ.out
      clear e
      generalize furL ts xs.length l = L at *
      have HN : Hid _ := hnext
      have HF : Hid _ := hwf
      have HM : Hid _ := hn
      clear hnext hwf hn
      obtain ⟨pL, cL, rfl⟩ := hO.len
      have hL6 : L.length ≤ 1000 := by omega
      clear hfl
      have hS := hO.sl.any
      go_wp2_with (go_at_call 63; refine (rising_any pL cL L _ hS HF.out HM.out (by omega)).mono ?_; rintro e w3 ⟨v, rfl, hV, hb4⟩)
      go_ret
      refine ⟨v, rfl, ?_, Below.thru hbr hb4 (Nat.le_refl _)⟩
      rw [← HN.out]
      exact hV.mono (fun q hq => by omega)
end Go.Proofs.YtcalinfdckklfaaGreatDoor

namespace Go.Proofs.YtcalinfdckklfaaGreatDoor
open Go.RowKit
attribute [local go_sem] Ext.cell Ext.frozen

theorem ofP_bad {xs : List Int} {ts : List (List Ins)} (h : (checkZ xs ts).2.2 ≠ 0) : ofZ xs ts = ([], (checkZ xs ts).2.2) := if_neg h
theorem ofP_some {xs : List Int} {ts : List (List Ins)} {l : List Int} (h : (checkZ xs ts).2.2 = 0) (hl : closeN ts xs.length (storesTs ts) (putsN [] xs) = some l) : ofZ xs ts = (l, 0) := by unfold ofZ; rw [if_pos h, hl]
theorem ofP_none {xs : List Int} {ts : List (List Ins)} (h : (checkZ xs ts).2.2 = 0) (hl : closeN ts xs.length (storesTs ts) (putsN [] xs) = none) : ofZ xs ts = ([], 3) := by unfold ofZ; rw [if_pos h, hl]

set_option maxRecDepth 20000 in
set_option maxHeartbeats 8000000 in
theorem Of_new (pi pt : Option Addr) (ci ct : Nat) (xs : List Int) (ts : List (List Ins)) (w : World) (T : FEnv w) (hi : Sl IntE w (.slice pi xs.length ci) xs) (ht : Sl ThrE w (.slice pt ts.length ct) ts) (hM : sizeTs ts ≤ 1000000) (hz : ∀ x ∈ xs, InZ x) :
    Calls Tryz.prog 44 #[.agg #[.slice pi xs.length ci, .slice pt ts.length ct]] w fun e w' => ∃ u, e = .returned (.tuple #[u, .int .i64 (ofZ xs ts).2]) ∧ Sl IntE w' u (ofZ xs ts).1 ∧ Below w.heap.size w w' := by
  have hb1 := below_new w (.cells #[.slice pi xs.length ci, .slice pt ts.length ct] 63)
  have k1 : Blk (w.alloc (.cells #[.slice pi xs.length ci, .slice pt ts.length ct] 63)) w.heap.size #[.slice pi xs.length ci, .slice pt ts.length ct] 63 := Blk.new
  have hC := fun W (hB : Below w.heap.size w W) => Check_any pi pt ci ct xs ts W (T.tab.below hB) (hi.keep hB) (ht.keep hB) hM
  by_cases h0 : (checkZ xs ts).2.2 = 0
  · obtain ⟨f1, f2, f3, f4, f5, f6, f7, f8⟩ := check_facts h0
    obtain ⟨S, hS⟩ : ∃ S, storesTs ts = S := ⟨_, rfl⟩
    have hcnt : cntTs ts 0 0 = (((loadsTs ts : Nat) : Int), (S : Int)) := by rw [cntTs_is, hS, Int.zero_add, Int.zero_add]
    have hsome := fun l h => ofP_some (l := l) h0 (xs := xs) (ts := ts) h
    have hnone := ofP_none h0 (xs := xs) (ts := ts)
    rw [hS] at hsome hnone f6
    have hcz : (checkZ xs ts).2.2 = 0 := h0
    generalize checkZ xs ts = z at *
    have hzb : (z.2.2 != 0) = false := by simp [hcz]
    have hN := fun W (hB : Below w.heap.size w W) => Count_any pi pt xs.length ci ct ts W (T.tab.below hB) (ht.keep hB) hM (by omega)
    rw [hcnt] at hN
    have hup : Up (putsN [] xs) := up_putsN (by simp [Up])
    have hwf : ∀ x ∈ putsN [] xs, InZ x := putsN_wf (fun _ h => by simp at h) hz
    have hl3 : (putsN [] xs).length ≤ 3 := by have h1 : (putsN [] xs).length ≤ _ := putsN_len; simp only [List.length_nil] at h1; omega
    have hRi := fun (b : Nat) W (h : Sl (SlE IntE) W (.slice (some ⟨b, 0, none⟩) 1 1) [xs]) => rising_one b 1 xs W h hz (by omega)
    have hclose : closeN ts xs.length S (putsN [] xs) = closeN ts xs.length (S - 0) (putsN [] xs) := rfl
    have hFu := fun (pl : Option Addr) (cl : Nat) (l : List Int) W (hB : Below w.heap.size w W) (hl : Sl IntE W (.slice pl l.length cl) l) (hl8 : l.length ≤ 8) (hz : ∀ x ∈ l, InZ x) (hup : Up l) => further_any pi pt pl ci ct cl xs ts l W (T.below hB) (hi.keep hB) (ht.keep hB) hl hl8 hz hup f7 f8 (by omega)
    have HN : Hid _ := hN
    have HC : Hid _ := hC
    have HS : Hid _ := hsome
    have HO : Hid _ := hnone
    have HUP : Hid _ := hup
    have HWF : Hid _ := hwf
    have HRI : Hid _ := hRi
    have HFU : Hid _ := hFu
    have HCL : Hid _ := hclose
    clear hN hC hsome hnone hup hwf hRi hFu hclose f7 f8 h0 hcz hcnt hS hz f1 f2 f3 f4 f5
    have hmin : min (S : Int) 6 = (S : Int) := by omega
    have F1 := trivial
    go_enter Tryz.func44, Tryz.ntmps44
    go_wp2_with (first
      | (go_at_call 61; clear F1; refine (HC.out _ hb1).mono ?_; rintro e w2 ⟨rfl, hb2⟩; have B2 := Below.thru hb1 hb2 (Nat.le_refl _); have k2 := k1.keep hb2; have x0 := k2.cell 0; have x1 := k2.cell 1; have lx := k2.lt; simp only [List.getElem?_toArray, List.getElem?_cons_zero, List.getElem?_cons_succ] at x0 x1; clear hb2; have F2 := trivial)
      | (go_at_call 62; clear F2; refine (HN.out _ B2).mono ?_; rintro e w3 ⟨rfl, hb3⟩; have B3 := Below.thru B2 hb3 (Nat.le_refl _); have k3 := k2.keep hb3; replace x0 := cell_keep x0 hb3; replace x1 := cell_keep x1 hb3; replace lx := k3.lt; have F3 := trivial)
      | (go_at_call 63; clear F3; have hb4 := below_new w3 (.cells #[.slice pi xs.length ci] 60); have B4 := Below.thru B3 hb4 (Nat.le_refl _); refine (HRI.out _ _ (sl_one trivial (by rw [Blk.cell Blk.new]; rfl) (hi.keep B4) (Nat.le_refl _))).mono ?_; rintro e w5 ⟨v5, rfl, hV5, hb5⟩; have b5 := Below.thru hb4 hb5 (Nat.le_refl _); have B5 := Below.thru B3 b5 (Nat.le_refl _); have k5 := k3.keep b5; have hV := hV5.any; clear hV5 hb4 hb5 B4 b5; have F4 := trivial))
    clear x0 x1 lx hmin
    go_loopw [9, 30] (fun a i wr => ∃ (n : Nat) (l : List Int), n ≤ S ∧ i = .int .i64 n ∧ Sl IntE wr a l ∧ l.length ≤ 8 ∧ Up l ∧ (∀ x ∈ l, InZ x) ∧ closeN ts xs.length (S - n) l = closeN ts xs.length S (putsN [] xs) ∧ Below w5.heap.size w5 wr) (fun _ i _ => S - (intOf i).toNat)
    case atStart => exact ⟨0, putsN [] xs, Nat.zero_le _, rfl, hV, by omega, HUP.out, HWF.out, HCL.out.symm, Below.refl _ _⟩
    case round =>
      obtain ⟨n, l, hn, rfl, hL, hl8, hup, hwf, hF, hbr⟩ := hrel
      have HF : Hid _ := hF
      clear hF
      obtain ⟨pl, cl, rfl⟩ := hL.len
      have Br := Below.thru B5 hbr (Nat.le_refl _)
      have kr := k5.keep hbr
      have x0 := kr.cell 0
      have x1 := kr.cell 1
      have lx := kr.lt
      simp only [List.getElem?_toArray, List.getElem?_cons_zero, List.getElem?_cons_succ] at x0 x1
      by_cases hlt : n < S
      · have hC := fun W (hB : Below wr.heap.size wr W) => HFU.out pl cl l W (Below.thru Br hB (Nat.le_refl _)) (hL.keep hB) hl8 hwf hup
        have hstep : closeN ts xs.length (S - n) l = if 8 < (nextN ts xs.length l).length then none else closeN ts xs.length (S - (n + 1)) (nextN ts xs.length l) := by
          rw [show S - n = (S - (n + 1)) + 1 by omega, closeN]
        have hup' := up_nextN (ts := ts) (locs := xs.length) hup
        have hwf' := nextN_wf (ts := ts) (locs := xs.length) hwf
        generalize nextN ts xs.length l = u at *
        have HC2 : Hid _ := hC
        have HST : Hid _ := hstep
        have HU2 : Hid _ := hup'
        have HW2 : Hid _ := hwf'
        clear hC hstep hup' hwf' hup hwf
        by_cases h8 : 8 < u.length
        · have h8' : (8 : Int) < (u.length : Int) := by omega
          go_wp2_with (go_at_call 64; refine (HC2.out _ (Below.refl _ _)).mono ?_; rintro e w6 ⟨v6, rfl, hV6, hb6⟩; obtain ⟨p6, c6, rfl⟩ := hV6.len)
          go_ret2
          have hzz := HO.out (by rw [← HF.out, HST.out, if_pos h8])
          exact ⟨.slice none 0 0, by rw [hzz]; rfl, by rw [hzz]; exact SlA.nil, Below.thru Br hb6 (Nat.le_refl _)⟩
        · have h8' : ¬ (8 : Int) < (u.length : Int) := by omega
          go_wp2_with (go_at_call 64; refine (HC2.out _ (Below.refl _ _)).mono ?_; rintro e w6 ⟨v6, rfl, hV6, hb6⟩; obtain ⟨p6, c6, rfl⟩ := hV6.len)
          go_roundw
          case rel => exact ⟨n + 1, u, by omega, by go_num, hV6.any, by omega, HU2.out, HW2.out, by rw [← HF.out, HST.out, if_neg h8], Below.thru hbr hb6 (Nat.le_refl _)⟩
          case measure => simp [intOf]; omega
      · go_wp2
        go_ret2
        have hzz := HS.out l (by rw [← HF.out, show S - n = 0 by omega]; rfl)
        exact ⟨.slice pl l.length cl, by rw [hzz]; rfl, by rw [hzz]; exact hL, Br⟩
  · have hzz := ofP_bad h0
    generalize checkZ xs ts = z at *
    have hzb : (z.2.2 != 0) = true := by simp [h0]
    have HZ : Hid _ := hzz
    have HC : Hid _ := hC
    clear hzz hC
    go_enter Tryz.func44, Tryz.ntmps44
    go_wp2_with (go_at_call 61; refine (HC.out _ hb1).mono ?_; rintro e w2 ⟨rfl, hb2⟩)
    go_ret2
    exact ⟨.slice none 0 0, by rw [HZ.out]; rfl, by rw [HZ.out]; exact SlA.nil, Below.thru hb1 hb2 (Nat.le_refl _)⟩
end Go.Proofs.YtcalinfdckklfaaGreatDoor

namespace Go.Proofs.YtcalinfdckklfaaGreatDoor
open Go.RowKit
theorem Of_any (pi pt : Option Addr) (ci ct : Nat) (xs : List Int) (ts : List (List Ins)) (w : World) (T : FEnv w) (hi : Sl IntE w (.slice pi xs.length ci) xs) (ht : Sl ThrE w (.slice pt ts.length ct) ts) (hM : sizeTs ts ≤ 1000000) (hz : ∀ x ∈ xs, InZ x) :
    Calls Tryz.prog 44 #[.agg #[.slice pi xs.length ci, .slice pt ts.length ct]] w fun e w' => ∃ u, e = .returned (.tuple #[u, .int .i64 (ofZ xs ts).2]) ∧ Sl IntE w' u (ofZ xs ts).1 ∧ Below w.heap.size w w' :=
  Of_new pi pt ci ct xs ts w T hi ht hM hz
end Go.Proofs.YtcalinfdckklfaaGreatDoor
