/- The document's Read at a text that begins with no name. -/
import Derived.Test.YtjmcplbhjihepaaDoorTextRefRead
namespace Go.Proofs.YtjmcplbhjihepaaDoor
open Go.RowKit

attribute [local go_sem] Ext.cell Ext.frozen

set_option maxRecDepth 100000 in
set_option maxHeartbeats 8000000 in
theorem refRead_none (s h0 : List UInt8) (t : List (List UInt8)) (hs : s.length ≤ 300) (hw : split 32 [] s = h0 :: t) (hn : ∀ k : Int, 1 ≤ k → k ≤ 14 → nameS k ≠ ⟨h0.toArray⟩) (w : World) :
    Calls Tryd.prog 6 #[.string ⟨s.toArray⟩] w fun e w' => e = .returned (readV 0 0 0 0 0 0 false) ∧ Below w.heap.size w w' := by
  have HN : Hid (∀ k : Int, 1 ≤ k → k ≤ 14 → ((nameS k).toList == h0) = false) := fun k h1 h2 => by
    have := ne_l (a := nameS k) (b := ⟨h0.toArray⟩) (hn k h1 h2)
    simpa using this
  have HW : Hid _ := hw
  clear hn hw
  go_enter Tryd.func6, Tryd.ntmps6
  go_wp2_with fail
  have C := refCut_any s 32 (by omega) (w.alloc (.cells zero6 23))
  rw [HW.out] at C
  refine C.mono ?_
  clear C
  rintro e w1 ⟨pw, cw, rfl, hS1, hb1⟩
  have hR1 : Blk w1 w.heap.size zero6 23 := Blk.keep Blk.new hb1
  have hB1 : Below w.heap.size w w1 := ((Below.refl _ _).alloc (Nat.le_refl _) _).trans (hb1.mono (by simp))
  clear hb1
  generalize hRR : w.heap.size = R at hR1 ⊢
  have HR : Hid _ := hRR
  clear hRR
  obtain ⟨b0, o0, rfl, _⟩ := (str_at hS1).2 0 (by simp)
  obtain ⟨w10, rfl⟩ : ∃ x : World, x = w1 := ⟨_, rfl⟩
  go_wp2
  go_loopw [5] (fun q wr => ∃ k : Int, 1 ≤ k ∧ k ≤ 15 ∧ q = .int .i64 k ∧ Blk wr R zero6 23 ∧ Sl StrE wr (.slice (some ⟨b0, o0, none⟩) (h0 :: t).length cw) (h0 :: t) ∧ Below w.heap.size w wr) (fun q _ => 15 - (intOf q).toNat)
  case atStart => exact ⟨1, by omega, by omega, rfl, hR1, hS1, hB1⟩
  case round =>
    obtain ⟨k, hk1, hk2, rfl, hR, hS, hB⟩ := hrel
    clear hR1 hS1 hB1
    by_cases hk : k ≤ 14
    · have hc0 : wr.cell? ⟨b0, o0, none⟩ = some (.string ⟨h0.toArray⟩) := by
        obtain ⟨_, _, e, hc⟩ := (str_at hS).2 0 (by simp)
        simp only [Option.some.injEq, Addr.mk.injEq, and_true] at e
        obtain ⟨rfl, rfl⟩ := e
        exact hc
      have hz0 : b0 < wr.heap.size := cell_lt hc0
      have hnn := HN.out k hk1 hk
      go_wp2
      have hne : ∀ w, Nonempty (Ext w) := ext_some
      refine wp_region_ext (by kernel_rfl) (by kernel_rfl) ?_
      repeat (go_big_quiet_step (first | (go_at_call 17; exact calls_ext (refName_any _ _))))
      refine wpQuiet_nil ?_
      rintro _ ⟨p, rfl⟩
      go_wp2
      go_roundw
      case rel => exact ⟨k + 1, by omega, by omega, rfl, hR.keep p.ok, hS.keep p.ok, hB.trans (p.ok.mono hB.size)⟩
      case measure => simp [intOf]; omega
    · have hcR : ∀ j, wr.cell? ⟨R, j, none⟩ = zero6[j]? := fun j => hR.cell j
      have hfR : ∀ j, wr.frozen? ⟨R, j, none⟩ = false := fun j => hR.frozen j
      unfold zero6 at hcR
      go_wp2
      obtain ⟨W, hW, c0, c1, c2, c3, c4, c5, hBf⟩ := ret_ins (v0 := .int .i64 0) (v1 := .int .i64 0) (v2 := .int .i64 0) (v3 := .int .i64 0) (v4 := .int .i64 0) (v5 := .int .i64 0) hR rfl (Nat.le_of_eq HR.out) hB
      rw [hW]
      exact bodyPost_ret (v := readV 0 0 0 0 0 0 false) (by simp [results, Tryd.results6, go_sem, c0, c1, c2, c3, c4, c5, readV]) rfl ⟨rfl, hBf⟩
end Go.Proofs.YtjmcplbhjihepaaDoor
