/- Contract of source.All. -/
import Derived.Test.YtgffeihfcmbobaaSrcAll
import Derived.Laws.EntriesVeiled
namespace Go.Proofs.Ytgffeihfcmbobaa
open Go.RowKit
attribute [local go_sem] Ext.cell Ext.frozen

theorem cho_all (n bl bw bg g base : Nat) (hn : n ≤ 1000) : ∀ ps : List (Nat × List Int), (∀ p ∈ ps, p.2.length ≤ 100000) → ChOk n bl bw bg g base ps
  | [], _ => cho_nil n bl bw bg g base hn
  | p :: ps, h => cho_cons n bl bw bg g base p ps (cho_all n bl bw bg g base hn ps fun q hq => h q (List.mem_cons_of_mem _ hq)) (h p List.mem_cons_self)
theorem choE_len (l : List Ev) (init : List Int) (x : Ev) : (choE l init x).length ≤ l.length + 1 := by
  unfold choE
  split
  · exact mayE_len l init x
  · simp

set_option maxRecDepth 20000 in
set_option maxHeartbeats 8000000 in
theorem All_any (v : Value) (r : Nat → Value) (q pi : Option Addr) (c ci : Nat) (l : List Ev) (init : List Int) (w : World) (hv : v = .slice q l.length c) (hl : Sl EvE w (.slice q l.length c) l) (hi : Sl IntE w (.slice pi init.length ci) init) (hn : l.length ≤ 1000) :
    Calls Try.prog 16 #[exV v r, .slice pi init.length ci] w fun e w' => ∃ u, e = .returned u ∧ SlA (fun k => w.heap.size ≤ k) (SlE IntE) w' u (srcZ l init) ∧ Below w.heap.size w w' := by
  subst hv
  obtain ⟨w1, hw1⟩ : ∃ w1, w.alloc (.cells #[.slice q l.length c, r 1, r 2, r 3, r 4, r 5, r 6] 30) = w1 := ⟨_, rfl⟩
  have k1 : Blk w1 w.heap.size #[.slice q l.length c, r 1, r 2, r 3, r 4, r 5, r 6] 30 := by rw [← hw1]; exact Blk.new
  have b1 : Below w.heap.size w w1 := by rw [← hw1]; exact below_new _ _
  obtain ⟨c0, c1, c2, c3, c4, c5, c6⟩ := ex_cells k1
  have lc := k1.lt
  have hB := begin_any (.slice q l.length c) r q pi c ci l init w1 rfl (hl.keep b1) (hi.keep b1) hn
  unfold exV at *
  have HB : Hid (Calls _ _ _ _ _) := hB
  clear hB
  have F1 := trivial
  go_enter Try.func16, Try.ntmps16
  go_wp2_with (first
    | (go_at_call 26; clear F1; refine HB.out.mono ?_; rintro e w2 ⟨hb2, hC⟩; rcases hC with ⟨g, u, rfl, hg, hG, hU, hpos, hprod⟩ | ⟨rfl, hz⟩ <;> have F2 := trivial)
    | (go_at_call 27; clear F2
       generalize hfv : Value.func (Fn.func 27) #[] _ = fv
       have kw : Blk (((w2.alloc (.cells #[.slice (some ⟨g, 0, none⟩) l.length l.length] 24)).alloc (.cells #[.slice none 0 0] 39)).alloc (.cells #[fv] 65)) w2.heap.size #[.slice (some ⟨g, 0, none⟩) l.length l.length] 24 := (Blk.new.alloc _).alloc _
       have ka : Blk (((w2.alloc (.cells #[.slice (some ⟨g, 0, none⟩) l.length l.length] 24)).alloc (.cells #[.slice none 0 0] 39)).alloc (.cells #[fv] 65)) (w2.heap.size + 1) #[.slice none 0 0] 39 := (Blk.newAt (by simp)).alloc _
       have kf : Blk (((w2.alloc (.cells #[.slice (some ⟨g, 0, none⟩) l.length l.length] 24)).alloc (.cells #[.slice none 0 0] 39)).alloc (.cells #[fv] 65)) (w2.heap.size + 1 + 1) #[fv] 65 := Blk.newAt (by simp)
       have b6 : Below w2.heap.size w2 (((w2.alloc (.cells #[.slice (some ⟨g, 0, none⟩) l.length l.length] 24)).alloc (.cells #[.slice none 0 0] 39)).alloc (.cells #[fv] 65)) := ((below_new _ _).alloc (by simp) _).alloc (by simp; omega) _
       have s6 : (((w2.alloc (.cells #[.slice (some ⟨g, 0, none⟩) l.length l.length] 24)).alloc (.cells #[.slice none 0 0] 39)).alloc (.cells #[fv] 65)).heap.size = w2.heap.size + 3 := by simp
       generalize ((w2.alloc (.cells #[.slice (some ⟨g, 0, none⟩) l.length l.length] 24)).alloc (.cells #[.slice none 0 0] 39)).alloc (.cells #[fv] 65) = w6 at *
       have lg := hG.lt
       have F6 : ChFix w6 l.length (w2.heap.size + 1) w2.heap.size (w2.heap.size + 1 + 1) g (w2.heap.size + 3) := ⟨kw, by rw [hfv]; exact kf, ⟨by omega, by omega, by omega, by omega, by omega⟩, ⟨by omega, by omega, by omega, by omega⟩⟩
       have hlen : (headsL (choZ l init)).length = l.length := by unfold headsL; rw [List.length_map, choZ_len]
       have I6 : ChInv w6 l.length (w2.heap.size + 1) g (w2.heap.size + 3) (.slice none 0 0) [] (headsL (choZ l init)) := ⟨ka, Own.nil, hG.keep b6, hlen, by omega⟩
       have hcs : SlA (coldCh (w2.heap.size + 1) g (w2.heap.size + 3)) ChoE w6 u (opensZ (choZ l init) 0) := SlA.mono (A := fun b => g < b ∧ b < w2.heap.size) (fun b hb => ⟨by have := hb.2; omega, by have := hb.1; omega, by have := hb.2; omega⟩) ((SlA.lt hU).keep b6)
       have hps := opensZ_len (choZ l init) 0
       rw [choZ_len] at hps
       have CC := cho_all l.length (w2.heap.size + 1) w2.heap.size (w2.heap.size + 1 + 1) g (w2.heap.size + 3) hn (opensZ (choZ l init) 0) (fun p hp => by
         obtain ⟨x, _, hx⟩ := List.mem_map.1 (opensZ_mem hp).2.2
         rw [← hx]
         have := choE_len l init x
         omega) w6 (.slice none 0 0) [] (headsL (choZ l init)) u F6 I6 hcs (fun p hp => by have := (opensZ_mem hp).2.1; rw [choZ_len] at this; omega) (by rw [genN_opens _ _ hpos]; simp; omega) (by omega)
       refine CC.mono ?_
       clear CC F6
       rintro e w7 ⟨rfl, o7, lv7, u7, I7, _⟩
       rw [List.nil_append, genL_src hpos hprod] at I7
       have x7 := I7.all.cell 0
       have lx7 := I7.all.lt
       simp only [List.getElem?_toArray, List.getElem?_cons_zero] at x7
       have F3 := trivial))
  · go_ret
    have B2 := Below.thru b1 hb2 (Nat.le_refl _)
    have hs1 := b1.size
    have hs2 := B2.size
    have hs6 := b6.size
    refine ⟨lv7, rfl, I7.own.sl.mono fun b hb => ?_, (B2.trans (b6.mono hs2)).trans (o7.below (by omega) fun b hb => ?_)⟩
    · rcases hb with hb | hb <;> omega
    · rcases hb with hb | hb | hb <;> omega
  · go_ret
    exact ⟨_, rfl, by rw [hz]; exact SlA.nil, (Below.thru b1 hb2 (Nat.le_refl _)).alloc (Below.thru b1 hb2 (Nat.le_refl _)).size _⟩
end Go.Proofs.Ytgffeihfcmbobaa
