/- Contracts of test.copied, Bare, Fenced. -/
import Derived.Test.YtpmecgagbjphdaaDoorTestTurned2
import Derived.Test.YtpmecgagbjphdaaDoorTestMath
namespace Go.Proofs.YtpmecgagbjphdaaDoor
open Go.RowKit

/-- What a function of tests gives back: a test in memory of its own. -/
def TestRet (w : World) (e : Ending) (w' : World) (xs : List Int) (ts : List (List Ins)) : Prop :=
  ∃ qi di qt dt, e = .returned (.agg #[.slice qi xs.length di, .slice qt ts.length dt]) ∧ SlA (fun b => w.heap.size ≤ b) IntE w' (.slice qi xs.length di) xs ∧ SlA (fun b => w.heap.size ≤ b) ThrE w' (.slice qt ts.length dt) ts ∧ Below w.heap.size w w'

theorem size_len {ts : List (List Ins)} : ∀ l ∈ ts, l.length ≤ sizeTs ts := by
  induction ts with
  | nil => intro l h; cases h
  | cons t ts ih =>
    intro l h
    rw [sizeTs]
    rcases List.mem_cons.1 h with rfl | h
    · omega
    · have := ih l h; omega

/-- A test stored into the result's own block. -/
theorem ret_test {w w3 : World} {r : Nat} {cs : Array Value} {t : TypeId} {v1 v2 : Value} {xs : List Int} {ts : List (List Ins)} (hR : Blk w3 r cs t) (hcs : cs.size = 2) (hr : w.heap.size ≤ r)
    (s1 : SlA (fun b => r + 1 ≤ b) IntE w3 v1 xs) (s2 : SlA (fun b => r + 1 ≤ b) ThrE w3 v2 ts) (hB : Below w.heap.size w w3) :
    ((w3.setCell ⟨r, 0, none⟩ v1).setCell ⟨r, 1, none⟩ v2).cell? ⟨r, 0, none⟩ = some v1 ∧ ((w3.setCell ⟨r, 0, none⟩ v1).setCell ⟨r, 1, none⟩ v2).cell? ⟨r, 1, none⟩ = some v2 ∧
    SlA (fun b => w.heap.size ≤ b) IntE ((w3.setCell ⟨r, 0, none⟩ v1).setCell ⟨r, 1, none⟩ v2) v1 xs ∧ SlA (fun b => w.heap.size ≤ b) ThrE ((w3.setCell ⟨r, 0, none⟩ v1).setCell ⟨r, 1, none⟩ v2) v2 ts ∧ Below w.heap.size w ((w3.setCell ⟨r, 0, none⟩ v1).setCell ⟨r, 1, none⟩ v2) := by
  have hRs := (hR.set (i := 0) v1).set (i := 1) v2
  have hb0 := hRs.cell 0
  have hb1 := hRs.cell 1
  have g1 := grownBy_set w3 ⟨r, 0, none⟩ v1
  have g2 := grownBy_set (w3.setCell ⟨r, 0, none⟩ v1) ⟨r, 1, none⟩ v2
  have t1 := (s1.agree (grownBy_agree g1 (fun b hb e => by simp at e; omega))).agree (grownBy_agree g2 (fun b hb e => by simp at e; omega))
  have t2 := (s2.agree (grownBy_agree g1 (fun b hb e => by simp at e; omega))).agree (grownBy_agree g2 (fun b hb e => by simp at e; omega))
  refine ⟨?_, ?_, SlA.mono (fun b hb => by omega) t1, SlA.mono (fun b hb => by omega) t2, (hB.setCell (p := ⟨r, 0, none⟩) hr v1).setCell (p := ⟨r, 1, none⟩) hr v2⟩
  · rw [hb0, Array.getElem?_setIfInBounds_ne (by decide), Array.getElem?_setIfInBounds_self_of_lt (by omega)]
  · rw [hb1, Array.getElem?_setIfInBounds_self_of_lt (by simp [hcs])]

set_option maxHeartbeats 1000000 in
theorem copied_any (pi pt : Option Addr) (ci ct : Nat) (xs : List Int) (ts : List (List Ins)) (w : World) (T : Tab w)
    (hi : Sl IntE w (.slice pi xs.length ci) xs) (ht : Sl ThrE w (.slice pt ts.length ct) ts) (hL : xs.length ≤ 1000000) (hM : ts.length ≤ 1000000) (hS : sizeTs ts ≤ 1000000) :
    Calls Tryd.prog 27 #[.agg #[.slice pi xs.length ci, .slice pt ts.length ct]] w fun e w' => TestRet w e w' xs ts := by
  have hb1 := (((Below.refl w.heap.size w).alloc (Nat.le_refl _) (.cells #[.slice pi xs.length ci, .slice pt ts.length ct] 25)).alloc (by simp) (.cells #[.slice none 0 0, .slice none 0 0] 25))
  have hr := Blk.new (w := w.alloc (.cells #[.slice pi xs.length ci, .slice pt ts.length ct] 25)) (cs := #[.slice none 0 0, .slice none 0 0]) (t := 25)
  have C := turned_any _ (.inr (.inr rfl)) (fun _ => true) id copied1_ok pi pt ci ct xs ts _ (T.below hb1) (hi.keep hb1) (ht.keep hb1) hL hM (fun l hl => ⟨by have := size_len l hl; omega, rfl⟩)
  rw [List.map_id] at C
  go_enter Tryd.func27, Tryd.ntmps27
  go_wp2_with (go_at_call 28; refine C.mono ?_; rintro e w3 ⟨qi, di, qt, dt, rfl, s1, s2, hb3⟩; obtain ⟨hc, hf⟩ := bcell hb3)
  clear C
  have hB3 := hb1.trans (hb3.mono (by simp; omega))
  obtain ⟨c0, c1, t1, t2, hBf⟩ := ret_test (r := w.heap.size + 1) (by simpa using hr.keep hb3) rfl (by omega) (SlA.mono (fun b hb => by simp at hb; omega) s1) (SlA.mono (fun b hb => by simp at hb; omega) s2) hB3
  exact bodyPost_ret (v := .agg #[.slice qi xs.length di, .slice qt ts.length dt]) (by simp [results, Tryd.results27, go_sem, c0, c1]) rfl ⟨qi, di, qt, dt, rfl, t1, t2, hBf⟩

set_option maxHeartbeats 1000000 in
theorem Bare_any (pi pt : Option Addr) (ci ct : Nat) (xs : List Int) (ts : List (List Ins)) (w : World) (T : Tab w)
    (hi : Sl IntE w (.slice pi xs.length ci) xs) (ht : Sl ThrE w (.slice pt ts.length ct) ts) (hL : xs.length ≤ 1000000) (hM : ts.length ≤ 1000000) (hS : sizeTs ts ≤ 1000000) :
    Calls Tryd.prog 15 #[.agg #[.slice pi xs.length ci, .slice pt ts.length ct]] w fun e w' => TestRet w e w' xs (bareT xs ts) := by
  have hb1 := (((Below.refl w.heap.size w).alloc (Nat.le_refl _) (.cells #[.slice pi xs.length ci, .slice pt ts.length ct] 25)).alloc (by simp) (.cells #[.slice none 0 0, .slice none 0 0] 25))
  have hr := Blk.new (w := w.alloc (.cells #[.slice pi xs.length ci, .slice pt ts.length ct] 25)) (cs := #[.slice none 0 0, .slice none 0 0]) (t := 25)
  cases hm : ((checkZ xs ts).2.2 == 0)
  · have E : Hid (bareT xs ts = ts) := by unfold Hid bareT; rw [if_neg (by simpa using hm)]
    rw [E.out]
    have HM : Hid _ := hm
    clear hm
    go_enter Tryd.func15, Tryd.ntmps15
    go_wp2_with (go_at_call 26; refine (may_any _ _ _ _ _ _ _ (T.below hb1) (hi.keep hb1) (ht.keep hb1) hS).mono ?_; rintro e w2 ⟨rfl, hb2⟩; obtain ⟨hc, hf⟩ := bcell hb2; rw [HM.out]; have hz2 : w.heap.size + 1 < w2.heap.size := (by have := hb2.size; simp at this; omega); have hz2' : w.heap.size < w2.heap.size := (by omega))
    have hB2 := hb1.trans (hb2.mono (by simp; omega))
    refine (copied_any _ _ _ _ _ _ _ (T.below hB2) (hi.keep hB2) (ht.keep hB2) hL hM hS).mono ?_
    rintro e w3 ⟨qi, di, qt, dt, rfl, s1, s2, hb3⟩
    obtain ⟨hc3, hf3⟩ := bcell hb3
    have hB3 := hB2.trans (hb3.mono hB2.size)
    go_wp2
    obtain ⟨c0, c1, t1, t2, hBf⟩ := ret_test (w := w) (r := w.heap.size + 1) (by simpa using (hr.keep hb2).keep hb3) rfl (by omega) (SlA.mono (fun b hb => by omega) s1) (SlA.mono (fun b hb => by omega) s2) hB3
    exact bodyPost_ret (v := .agg #[.slice qi xs.length di, .slice qt ts.length dt]) (by simp [results, Tryd.results15, go_sem, c0, c1]) rfl ⟨qi, di, qt, dt, rfl, t1, t2, hBf⟩
  · have h0 : (checkZ xs ts).2.2 = 0 := by simpa using hm
    have E : Hid (bareT xs ts = ts.map (relay lay0)) := by unfold Hid bareT; rw [if_pos h0]; rfl
    rw [E.out]
    generalize hus : ts.map (relay lay0) = us
    have HUS : Hid _ := hus
    clear hus
    have hin := check_inside h0
    have HM : Hid _ := hm
    clear hm h0
    go_enter Tryd.func15, Tryd.ntmps15
    go_wp2_with (go_at_call 26; refine (may_any _ _ _ _ _ _ _ (T.below hb1) (hi.keep hb1) (ht.keep hb1) hS).mono ?_; rintro e w2 ⟨rfl, hb2⟩; obtain ⟨hc, hf⟩ := bcell hb2; rw [HM.out]; have hz2 : w.heap.size + 1 < w2.heap.size := (by have := hb2.size; simp at this; omega); have hz2' : w.heap.size < w2.heap.size := (by omega))
    have hB2 := hb1.trans (hb2.mono (by simp; omega))
    have C := turned_any _ (.inl rfl) inside (relay lay0) bare1_ok _ _ _ _ _ _ _ (T.below hB2) (hi.keep hB2) (ht.keep hB2) hL hM (fun l hl => ⟨by have := hin l hl; omega, (hin l hl).2⟩)
    rw [HUS.out] at C
    refine C.mono ?_
    clear C
    rintro e w3 ⟨qi, di, qt, dt, rfl, s1, s2, hb3⟩
    obtain ⟨hc3, hf3⟩ := bcell hb3
    have hB3 := hB2.trans (hb3.mono hB2.size)
    go_wp2
    obtain ⟨c0, c1, t1, t2, hBf⟩ := ret_test (w := w) (r := w.heap.size + 1) (by simpa using (hr.keep hb2).keep hb3) rfl (by omega) (SlA.mono (fun b hb => by omega) s1) (SlA.mono (fun b hb => by omega) s2) hB3
    exact bodyPost_ret (v := .agg #[.slice qi xs.length di, .slice qt us.length dt]) (by simp [results, Tryd.results15, go_sem, c0, c1]) rfl ⟨qi, di, qt, dt, rfl, t1, t2, hBf⟩

theorem size_map_le {ts : List (List Ins)} {g : List Ins → List Ins} (h : ∀ l ∈ ts, (g l).length ≤ l.length) : sizeTs (ts.map g) ≤ sizeTs ts := by
  induction ts with
  | nil => simp
  | cons t ts ih =>
    simp only [List.map_cons, sizeTs]
    have h1 := h t (by simp)
    have h2 := ih (fun l hl => h l (by simp [hl]))
    omega

set_option maxHeartbeats 1000000 in
theorem Fenced_any (pi pt : Option Addr) (ci ct : Nat) (xs : List Int) (ts : List (List Ins)) (w : World) (T : Tab w)
    (hi : Sl IntE w (.slice pi xs.length ci) xs) (ht : Sl ThrE w (.slice pt ts.length ct) ts) (hL : xs.length ≤ 1000000) (hM : ts.length ≤ 1000000) (hS : sizeTs ts ≤ 1000000) :
    Calls Tryd.prog 16 #[.agg #[.slice pi xs.length ci, .slice pt ts.length ct]] w fun e w' => TestRet w e w' xs (fencedT xs ts) := by
  have hb1 := (((Below.refl w.heap.size w).alloc (Nat.le_refl _) (.cells #[.slice pi xs.length ci, .slice pt ts.length ct] 25)).alloc (by simp) (.cells #[.slice none 0 0, .slice none 0 0] 25))
  have hr := Blk.new (w := w.alloc (.cells #[.slice pi xs.length ci, .slice pt ts.length ct] 25)) (cs := #[.slice none 0 0, .slice none 0 0]) (t := 25)
  cases hm : ((checkZ xs ts).2.2 == 0)
  · have E : Hid (fencedT xs ts = ts) := by unfold Hid fencedT; rw [if_neg (by simpa using hm)]
    rw [E.out]
    have HM : Hid _ := hm
    clear hm
    go_enter Tryd.func16, Tryd.ntmps16
    go_wp2_with (go_at_call 26; refine (may_any _ _ _ _ _ _ _ (T.below hb1) (hi.keep hb1) (ht.keep hb1) hS).mono ?_; rintro e w2 ⟨rfl, hb2⟩; obtain ⟨hc, hf⟩ := bcell hb2; rw [HM.out]; have hz2 : w.heap.size + 1 < w2.heap.size := (by have := hb2.size; simp at this; omega); have hz2' : w.heap.size < w2.heap.size := (by omega))
    have hB2 := hb1.trans (hb2.mono (by simp; omega))
    refine (copied_any _ _ _ _ _ _ _ (T.below hB2) (hi.keep hB2) (ht.keep hB2) hL hM hS).mono ?_
    rintro e w3 ⟨qi, di, qt, dt, rfl, s1, s2, hb3⟩
    obtain ⟨hc3, hf3⟩ := bcell hb3
    have hB3 := hB2.trans (hb3.mono hB2.size)
    go_wp2
    obtain ⟨c0, c1, t1, t2, hBf⟩ := ret_test (w := w) (r := w.heap.size + 1) (by simpa using (hr.keep hb2).keep hb3) rfl (by omega) (SlA.mono (fun b hb => by omega) s1) (SlA.mono (fun b hb => by omega) s2) hB3
    exact bodyPost_ret (v := .agg #[.slice qi xs.length di, .slice qt ts.length dt]) (by simp [results, Tryd.results16, go_sem, c0, c1]) rfl ⟨qi, di, qt, dt, rfl, t1, t2, hBf⟩
  · have h0 : (checkZ xs ts).2.2 = 0 := by simpa using hm
    have E : Hid (fencedT xs ts = (ts.map bareL).map (relay lay1)) := by unfold Hid fencedT; rw [if_pos h0, List.map_map]; rfl
    have E2 : Hid (bareT xs ts = ts.map bareL) := by unfold Hid bareT; rw [if_pos h0]
    rw [E.out]
    have hin := check_inside h0
    have hsz : sizeTs (ts.map bareL) ≤ 1000000 := Nat.le_trans (size_map_le fun l _ => bareL_len l) hS
    have hul : (ts.map bareL).length ≤ 1000000 := by rw [List.length_map]; exact hM
    have hui : ∀ l ∈ ts.map bareL, l.length ≤ 1000000 ∧ inside l = true := fun l hl => by
      obtain ⟨l', hl', rfl⟩ := List.mem_map.1 hl
      have := bareL_len l'
      have := hin l' hl'
      exact ⟨by omega, inside_bare l'⟩
    generalize hus : ts.map bareL = us at *
    generalize hvs : us.map (relay lay1) = vs
    have HUS : Hid _ := hus
    have HVS : Hid _ := hvs
    clear hus hvs
    have HM : Hid _ := hm
    clear hm h0
    go_enter Tryd.func16, Tryd.ntmps16
    go_wp2_with (go_at_call 26; refine (may_any _ _ _ _ _ _ _ (T.below hb1) (hi.keep hb1) (ht.keep hb1) hS).mono ?_; rintro e w2 ⟨rfl, hb2⟩; obtain ⟨hc, hf⟩ := bcell hb2; rw [HM.out]; have hz2 : w.heap.size + 1 < w2.heap.size := (by have := hb2.size; simp at this; omega); have hz2' : w.heap.size < w2.heap.size := (by omega))
    have hB2 := hb1.trans (hb2.mono (by simp; omega))
    have C := Bare_any _ _ _ _ _ _ _ (T.below hB2) (hi.keep hB2) (ht.keep hB2) hL hM hS
    rw [E2.out] at C
    refine C.mono ?_
    clear C
    rintro e w3 ⟨qi, di, qt, dt, rfl, s1, s2, hb3⟩
    obtain ⟨hc3, hf3⟩ := bcell hb3
    have hB3 := hB2.trans (hb3.mono hB2.size)
    have C := turned_any _ (.inr (.inl rfl)) inside (relay lay1) fenced1_ok _ _ _ _ _ us _ (T.below hB3) s1.any s2.any hL hul hui
    rw [HVS.out] at C
    go_wp2_with (go_at_call 28; refine C.mono ?_; rintro e w4 ⟨qi2, di2, qt2, dt2, rfl, r1, r2, hb4⟩; obtain ⟨hc4, hf4⟩ := bcell hb4; have hz3 : w.heap.size + 1 < w3.heap.size := (by have := hb3.size; omega))
    clear C
    have hB4 := hB3.trans (hb4.mono hB3.size)
    have hs4 : w2.heap.size ≤ w3.heap.size := hb3.size
    obtain ⟨c0, c1, t1, t2, hBf⟩ := ret_test (w := w) (r := w.heap.size + 1) (by simpa using ((hr.keep hb2).keep hb3).keep hb4) rfl (by omega) (SlA.mono (fun b hb => by omega) r1) (SlA.mono (fun b hb => by omega) r2) hB4
    exact bodyPost_ret (v := .agg #[.slice qi2 xs.length di2, .slice qt2 vs.length dt2]) (by simp [results, Tryd.results16, go_sem, c0, c1]) rfl ⟨qi2, di2, qt2, dt2, rfl, t1, t2, hBf⟩
end Go.Proofs.YtpmecgagbjphdaaDoor
