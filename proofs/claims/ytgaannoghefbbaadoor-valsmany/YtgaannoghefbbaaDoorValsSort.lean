/- slices.Sorted(maps.Keys(m)) of a map of numbers: its numbers, rising. -/
import Derived.Test.YtgaannoghefbbaaDoorShelf
import Derived.Test.YtgaannoghefbbaaDoorValsSet
import Derived.Shelf.SortM.Plain
import Derived.Shelf.SortM.SortNone
namespace Go.Proofs.YtgaannoghefbbaaDoor
open Go.RowKit Go.Maps Go.Sort Go.Shelf

theorem sorts64 (m : Nat) : AnyZI.SortsIn Tryd.prog Tryd.sortedA_ren Fence.wide m :=
  ⟨fun blk off cap ss W hH hblk hsz => callsIn_wide.2 (AnyM.slices_Sort_int Tryd.sortA blk off cap ss W hH hblk hsz),
   fun p cap W => callsIn_wide.2 (AnyM.slices_Sort_int_none Tryd.sortA p cap W)⟩

theorem Keys_any (mb : Option Nat) (w : World) : Calls Tryd.prog 35 #[.map mb] w fun e w' =>
    e = .returned (.func (.func 49) #[] #[.pointer (some ⟨w.heap.size, 0, none⟩)]) ∧ w' = w.alloc (.cells #[.map mb] 77) :=
  (callsIn_wide (n := 5)).1 (AnyZI.keys_in Tryd.keysA Fence.wide 5 trivial rfl mb w)

theorem size_le_n {w : World} {b n : Nat} {D : DataW Unit} (h : w.ownsMap Tryd.prog 2 unitElem b n D) : Maps.size D ≤ n := h.size_le

set_option maxHeartbeats 1000000 in
theorem Sorted_any (Bm b n : Nat) (l : List Int) (w : World) (hm : w.cell? ⟨Bm, 0, none⟩ = some (.map (some b))) (hs : SetAt w b n l) (hn : n ≤ 1000000) :
    Calls Tryd.prog 34 #[.func (.func 49) #[] #[.pointer (some ⟨Bm, 0, none⟩)]] w fun e w' =>
      ∃ v, e = .returned v ∧ SlA (fun k => w.heap.size ≤ k) IntE w' v (putsN [] l) ∧ Below w.heap.size w w' := by
  obtain ⟨D, h1, h2⟩ := hs
  have hsz := h1.size_le
  have hseq : SeqGives Fence.wide 2 Tryd.prog 49 #[.pointer (some ⟨Bm, 0, none⟩)] encZ (fun ss => ss.Perm (intKeys D)) (Maps.size D) w :=
    AnyZI.keys_gives (ρ := Tryd.keysA_ren) { Tryd.keysA with } Fence.wide _ trivial rfl (by omega) Bm b n D w (cell_lt hm) hm h1
  have cS := AnyZI.sorted_in Tryd.sortedA Fence.wide 5 trivial trivial trivial trivial rfl (by omega) (sorts64 _) (enters_of Tryd.func48 (by kernel_rfl) rfl) 49 #[.pointer (some ⟨Bm, 0, none⟩)] trivial (enters_of Tryd.func49 (by kernel_rfl) rfl) _ (Maps.size D) (by unfold maxLen; omega) (by omega) w hseq
  refine ((callsIn_wide (n := 5)).1 cS).mono ?_
  rintro e w' ⟨v, ss, rfl, hS, hrow, hnil, hb⟩
  have hsort : ss.mergeSort leI = putsN [] l := SetAt.sorted h1 h2 hS
  have hlen : ss.length = (putsN [] l).length := by rw [← hsort, List.length_mergeSort]
  have hrow' : w'.ownsRow w.heap.size 2 1 v (putsN [] l).length ((putsN [] l).map encZ) := by
    rw [← hlen, ← hsort]; exact hrow
  exact ⟨v, rfl, (own_ints hrow').sl.mono (fun k hk => hk.elim id False.elim), hb⟩
end Go.Proofs.YtgaannoghefbbaaDoor
