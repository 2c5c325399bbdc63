/- The contract of order.First. -/
import Derived.Test.YtpgbedaonjfpnaaOrdCol
namespace Go.Proofs.Ytpgbedaonjfpnaa
open Go.RowKit Go.Shelf
attribute [local go_sem] Oper.semAt_some

def FirI (b2 b3 : Nat) : RowsOf := fun A items W => items = [] ∧ Blk W b2 #[.slice none 0 0] 24 ∧ Blk W b3 #[.bool false] 4 ∧ A b2 ∧ A b3
def FirX (b2 b3 : Nat) : Code → RowsOf := fun c A items W => c = .ret ∧ ∃ x v, items = [x] ∧ RowV 3 W v x ∧ (v.ownBlock = some x.2 → A x.2) ∧ Blk W b2 #[v] 24 ∧ Blk W b3 #[.bool true] 4 ∧ A b2 ∧ A b3
theorem FirI.stays (b2 b3 : Nat) : Stays (FirI b2 b3) := by
  rintro A items W W' ⟨h0, h1, h2, h3, h4⟩ ho
  exact ⟨h0, h1.only ho (fun h => h h3), h2.only ho (fun h => h h4), h3, h4⟩
theorem row_kept {e : TypeId} {A B : Nat → Prop} {w w' : World} {v : Value} {x : List Nat × Nat} (h : RowV e w v x) (hA : v.ownBlock = some x.2 → A x.2) (ho : Only B w w') (hB : ∀ b, A b → ¬ B b) : RowV e w' v x := by
  obtain ⟨h1, h2⟩ := h
  refine ⟨h1.only ho fun b hb => ?_, h2⟩
  rcases h2 with h2 | ⟨rfl, _⟩
  · have e2 := h2
    rw [h2] at hb; injection hb with hb; subst hb; exact hB _ (hA e2)
  · simp [Value.ownBlock] at hb
theorem FirX.stays (b2 b3 : Nat) (c : Code) : Stays (FirX b2 b3 c) := by
  rintro A items W W' ⟨h0, x, v, h1, h2, h3, h4, h5, h6, h7⟩ ho
  exact ⟨h0, x, v, h1, row_kept h2 h3 ho (fun b hb hn => hn hb), h3, h4.only ho (fun h => h h6), h5.only ho (fun h => h h7), h6, h7⟩

theorem fir_step {b2 b3 : Nat} {A : Nat → Prop} {x : List Nat × Nat} {v : Value} {W : World} (h1 : Blk W b2 #[.slice none 0 0] 24) (h2 : Blk W b3 #[.bool false] 4) (h3 : A b2) (h4 : A b3) (hne : b2 ≠ b3) (hAlt : ∀ b, A b → b < W.heap.size) (hv : RowV 3 W v x) (hx : ¬ A x.2) :
    RoundLeft (FirX b2 b3 .ret) A [] x W ((W.setCell ⟨b2, 0, none⟩ v).setCell ⟨b3, 0, none⟩ (.bool true)) := by
  have o2 : Only A W (W.setCell ⟨b2, 0, none⟩ v) := grownBy_only (grownBy_set _ _ _) fun k e => by cases e; exact h3
  have o3 : Only A (W.setCell ⟨b2, 0, none⟩ v) ((W.setCell ⟨b2, 0, none⟩ v).setCell ⟨b3, 0, none⟩ (.bool true)) := grownBy_only (grownBy_set _ _ _) fun k e => by cases e; exact h4
  have o := o2.trans o3 fun b h => .inl h
  have hs := o.size
  refine ⟨fun b => A b ∨ (b = x.2 ∧ b < W.heap.size), fun b h => ?_, fun b h => ?_, o, rfl, x, v, rfl, hv.only o hx, fun e => .inr ⟨rfl, (hv.1.lt _ e).2⟩, ?_, ?_, .inl h3, .inl h4⟩
  · rcases h with h | h
    · have := hAlt b h; omega
    · omega
  · rcases h with h | h
    · exact .inl h
    · exact .inr (.inl h.1)
  · have h5 := Blk.set (i := 0) h1 v
    rw [show (#[Value.slice none 0 0] : Array Value).setIfInBounds 0 v = #[v] from rfl] at h5
    exact h5.grown (grownBy_set _ _ _) (by simpa using hne)
  · have h5 := Blk.set (i := 0) (h2.grown (grownBy_set _ ⟨b2, 0, none⟩ v) (by simpa using hne.symm)) (.bool true)
    rw [show (#[Value.bool false] : Array Value).setIfInBounds 0 (.bool true) = #[.bool true] from rfl] at h5
    exact h5

/-- The first one, told. -/
def FirT (w : World) (ls : List (List Nat)) (e : Ending) (w' : World) : Prop :=
  ∃ v b, e = .returned (.tuple #[v, .bool b]) ∧ ((b = false ∧ ls = [] ∧ v = .slice none 0 0) ∨ (b = true ∧ ∃ x rest, ls = x :: rest ∧ SlA (fun b => w.heap.size ≤ b) NatE w' v x)) ∧ Below w.heap.size w w'

set_option maxRecDepth 100000 in
set_option maxHeartbeats 4000000 in
theorem First_any (p : Option Addr) (c : Nat) (xs : List Nat) (w : World) (hx : Sl U32E w (.slice p xs.length c) xs) : Calls Try.prog 22 #[.slice p xs.length c] w (FirT w (linF (szR xs) (hasR xs))) := by
  have hb1 : Below w.heap.size w ((w.alloc (.cells #[.slice none 0 0] 24)).alloc (.cells #[.bool false] 4)) := ((Below.refl _ _).alloc (Nat.le_refl _) _).alloc (by simp) _
  refine (callsIn_wide (n := 3)).1 ?_
  refine callsIn_of_wp_marks Try.func22 rfl trivial ?_
  simp only [Try.ntmps22, List.size_toArray, List.length_cons, List.length_nil, Nat.reduceAdd, Nat.reduceSub, Array.replicate_succ, Array.replicate_zero, List.push_toArray, List.append_toArray, List.nil_append, List.cons_append]
  gi_wp2_with (refine ⟨trivial, ?_⟩; gi_at_call 25; refine (callsIn_wide.2 (linear_ret p c xs _)).mono ?_; rintro e w2 ⟨rfl, rfl⟩)
  have hb3 : Below w.heap.size w (((w.alloc (.cells #[.slice none 0 0] 24)).alloc (.cells #[.bool false] 4)).alloc (.cells #[.slice p xs.length c] 33)) := hb1.alloc (by simp; omega) _
  have B2 : Blk (((w.alloc (.cells #[.slice none 0 0] 24)).alloc (.cells #[.bool false] 4)).alloc (.cells #[.slice p xs.length c] 33)) w.heap.size #[.slice none 0 0] 24 := (Blk.new.alloc _).alloc _
  have B3 : Blk (((w.alloc (.cells #[.slice none 0 0] 24)).alloc (.cells #[.bool false] 4)).alloc (.cells #[.slice p xs.length c] 33)) (w.heap.size + 1) #[.bool false] 4 := (Blk.newAt (by simp)).alloc _
  have B4 : Blk (((w.alloc (.cells #[.slice none 0 0] 24)).alloc (.cells #[.bool false] 4)).alloc (.cells #[.slice p xs.length c] 33)) (w.heap.size + 1 + 1) #[.slice p xs.length c] 33 := Blk.newAt (by simp)
  have hz : (((w.alloc (.cells #[.slice none 0 0] 24)).alloc (.cells #[.bool false] 4)).alloc (.cells #[.slice p xs.length c] 33)).heap.size = w.heap.size + 3 := by simp
  generalize ((w.alloc (.cells #[.slice none 0 0] 24)).alloc (.cells #[.bool false] 4)).alloc (.cells #[.slice p xs.length c] 33) = w3 at *
  refine wpIn_rows (e := 3) (w0 := w3) (lo := w.heap.size) (gf := 36) (lb := #[.pointer (some ⟨w.heap.size + 1 + 1, 0, none⟩)]) rfl (enters_of Try.func36 (by kernel_rfl) rfl) (linear1_any p c (w.heap.size + 1 + 1) _ w.heap.size xs w3 (by omega) B4 (hx.keep hb3) (Nat.le_refl _)) (by omega) (Below.refl _ _) rfl (FirI w.heap.size (w.heap.size + 1)) (FirX w.heap.size (w.heap.size + 1)) (FirI.stays _ _) (FirX.stays _ _) (fun b => b = w.heap.size ∨ b = w.heap.size + 1) (fun b h => by omega) ⟨rfl, B2, B3, .inl rfl, .inr rfl⟩
    (fun v => { tmps := #[.slice p xs.length c, undef, .pointer (some ⟨w.heap.size, 0, none⟩), .pointer (some ⟨w.heap.size + 1, 0, none⟩), v, .slice p xs.length c, .func (.func 36) #[] #[.pointer (some ⟨w.heap.size + 1 + 1, 0, none⟩)], v, undef], defers := [] }) ?assign ?body ?done ?stop
  case assign =>
    intro l v W K hK
    gi_wp2
    exact hK
  case body =>
    rintro l A pre x v W ⟨rfl, h1, h2, h3, h4⟩ hAlt hv hxA hlen
    have hR := fir_step h1 h2 h3 h4 (by omega) hAlt hv hxA
    have c1 := h1.cell 0
    have f1 := h1.frozen 0
    have h2' := h2.grown (grownBy_set W ⟨w.heap.size, 0, none⟩ v) (by simp)
    have c2 := h2'.cell 0
    have f2 := h2'.frozen 0
    obtain ⟨pv, kv, rfl⟩ := hv.1.len
    simp only [List.getElem?_toArray, List.getElem?_cons_zero] at c1 c2
    gi_wp2
    exact hR
  case done =>
    rintro D A items W hD hnD hit ⟨rfl, h1, h2, h3, h4⟩ hA hB hK
    have hls : linF (szR xs) (hasR xs) = [] := by rw [← hit]; rfl
    have c1 := h1.cell 0
    have f1 := h1.frozen 0
    have h2' := h2.grown (grownBy_set W ⟨w.heap.size, 0, none⟩ (.slice none 0 0)) (by simp)
    have c2 := h2'.cell 0
    have f2 := h2'.frozen 0
    simp only [List.getElem?_toArray, List.getElem?_cons_zero] at c1 c2
    gi_wp2
    have g1 := Blk.set (i := 0) h1 (.slice none 0 0)
    have g1' := g1.grown (grownBy_set (W.setCell ⟨w.heap.size, 0, none⟩ (.slice none 0 0)) ⟨w.heap.size + 1, 0, none⟩ (.bool false)) (by simp)
    have g2 := Blk.set (i := 0) h2' (.bool false)
    have o2 : Only A W (W.setCell ⟨w.heap.size, 0, none⟩ (.slice none 0 0)) := grownBy_only (grownBy_set _ _ _) fun k e => by cases e; exact h3
    have o3 : Only A (W.setCell ⟨w.heap.size, 0, none⟩ (.slice none 0 0)) ((W.setCell ⟨w.heap.size, 0, none⟩ (.slice none 0 0)).setCell ⟨w.heap.size + 1, 0, none⟩ (.bool false)) := grownBy_only (grownBy_set _ _ _) fun k e => by cases e; exact h4
    have o := o2.trans o3 fun b h => .inl h
    clear g1 c1 c2 f1 f2 h2' o2 o3
    generalize (W.setCell ⟨w.heap.size, 0, none⟩ (.slice none 0 0)).setCell ⟨w.heap.size + 1, 0, none⟩ (.bool false) = W5 at *
    have hDl := (Array.getElem?_eq_some_iff.1 hK).1
    have hK5 : W5.heap[D]? = some (.deferred (some [])) := by rw [o.block D hDl hnD]; exact hK
    have oD : Only (fun b => b = D) W5 (W5.putObj D (.deferred none)) := only_putObj _ rfl
    have n1 : ¬ w.heap.size = D := fun e => hnD (e ▸ h3)
    have n2 : ¬ w.heap.size + 1 = D := fun e => hnD (e ▸ h4)
    have d1 := (g1'.only oD n1).cell 0
    have d2 := (g2.only oD n2).cell 0
    simp only [List.getElem?_toArray, List.setIfInBounds_toArray, List.set, List.getElem?_cons_zero] at d1 d2
    have hz5 := o.size
    have hBz := hB.size
    refine ⟨by simp, .inl ⟨_, _, rfl, run_takeDeferred hK5, ?_⟩⟩
    exact ⟨.tuple #[.slice none 0 0, .bool false], by simp [results, Try.results22, go_sem, d1, d2], _, _, rfl, .inl ⟨rfl, hls, rfl⟩, ((hb3.trans hB).trans (o.below (by omega) fun b h => (hA b h).1)).trans (oD.below (by omega) fun b e => by subst e; omega)⟩
  case stop =>
    rintro D c A items W hD hnD hit ⟨rfl, x, v, rfl, h1, h2, h3, h4, h5, h6⟩ hA hB hK
    gi_wp2
    have oD : Only (fun b => b = D) W (W.putObj D (.deferred none)) := only_putObj _ rfl
    have d1 := (h3.only oD fun e => hnD (e ▸ h5)).cell 0
    have d2 := (h4.only oD fun e => hnD (e ▸ h6)).cell 0
    simp only [List.getElem?_toArray, List.getElem?_cons_zero] at d1 d2
    have hr := (row_kept h1 h2 oD fun b hb e => hnD (e ▸ hb)).1.sl
    have hBz := hB.size
    obtain ⟨rest, hrest⟩ := hit
    simp at hrest
    obtain ⟨pv, kv, rfl⟩ := h1.1.len
    refine ⟨by simp, .inl ⟨_, _, rfl, run_takeDeferred hK, ?_⟩⟩
    refine ⟨.tuple #[.slice pv x.1.length kv, .bool true], by simp [results, Try.results22, go_sem, d1, d2], _, _, rfl, .inr ⟨rfl, x.1, rest, hrest.symm, SlA.mono (fun b hb => ?_) hr⟩, (hb3.trans hB).trans (oD.below (by omega) fun b e => by subst e; omega)⟩
    rcases h1.2 with h | ⟨h, _⟩
    · rw [h] at hb; injection hb with hb; subst hb; exact (hA _ (h2 h)).1
    · rw [h] at hb; simp [Value.ownBlock] at hb
end Go.Proofs.Ytpgbedaonjfpnaa
