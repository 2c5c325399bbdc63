/- The contract of slices.SortFunc at outcomes, by cond.Compare. -/
import Derived.Test.YtdealgleehbhlaaDoorCondCmp2
import Derived.Test.YtdealgleehbhlaaDoorShelf
import Derived.Shelf.SlSortCmp.WholeK
import Derived.Shelf.SlSortCmp.NoneTotal
namespace Go.Proofs.YtdealgleehbhlaaDoor
open Go.RowKit Go.Sort

/-- An outcome in memory: two slices, in blocks below B, that read as its lists in w. -/
structure SO (w : World) (B : Nat) where
  v1 : Value
  v2 : Value
  o : Out
  h : SlA (fun b => b < B) (SlE IntE) w v1 o.regs ∧ SlA (fun b => b < B) IntE w v2 o.mem
  z : Osz o
def SO.enc {w : World} {B : Nat} (x : SO w B) : List Value := [x.v1, x.v2]
def SO.cf {w : World} {B : Nat} (x y : SO w B) : Int := cmpO x.o y.o
def SO.dflt (w : World) (B : Nat) : SO w B := ⟨.slice none 0 0, .slice none 0 0, ⟨[], []⟩, ⟨SlA.nil, SlA.nil⟩, by unfold Osz; simp⟩
theorem SO.swo {w : World} {B : Nat} : SWO (ltOf (SO.cf (w := w) (B := B))) where
  irrefl x := by unfold ltOf SO.cf; rw [cmpO_self]; rfl
  trans x y z h1 h2 := by
    unfold ltOf SO.cf at *
    have r1 := cmpO_range x.o y.o
    have r2 := cmpO_range y.o z.o
    simp only [decide_eq_true_eq] at *
    have := cmpO_trans (show cmpO x.o y.o = -1 by omega) (show cmpO y.o z.o = -1 by omega)
    omega
  ntrans x y z h1 h2 := by
    unfold ltOf SO.cf at *
    have r1 := cmpO_range x.o y.o
    have r2 := cmpO_range y.o z.o
    have r3 := cmpO_range x.o z.o
    have s1 := cmpO_swap x.o y.o
    simp only [decide_eq_false_iff_not] at *
    intro h3
    rcases r1 with r1 | r1 | r1
    · omega
    · have e := cmpO_eq.1 r1
      rw [e] at h3
      exact h2 h3
    · have := cmpO_trans (show cmpO y.o x.o = -1 by omega) (show cmpO x.o z.o = -1 by omega)
      omega

theorem sortW_heap {α : Type} [Inhabited α] (enc : α → List Value) (k : Nat) (w : World) (blk off m : Nat) (dk : Array α) (os : Array Obj) (b : Nat) (hb : b < w.heap.size) (hne : b ≠ blk) : (sortWorldK enc k w blk off m dk os).heap[b]? = w.heap[b]? := by
  show ((w.heap.modify blk _) ++ os)[b]? = _
  rw [Array.getElem?_append_left (by simpa using hb), Array.getElem?_modify, if_neg (fun e => hne e.symm)]
theorem sortW_below {α : Type} [Inhabited α] (enc : α → List Value) (k : Nat) (w : World) (blk off m : Nat) (dk : Array α) (os : Array Obj) (B : Nat) (hB : B ≤ blk) (hblk : blk < w.heap.size) : Below B w (sortWorldK enc k w blk off m dk os) :=
  ⟨rfl, rfl, rfl, by show _ ≤ ((w.heap.modify blk _) ++ os).size; simp, fun b hb => sortW_heap enc k w blk off m dk os b (by omega) (by omega)⟩

theorem aggO : ∀ w, (isAgg 36).run Tryd.prog w = .ok true w := Tryd.isAgg36
theorem sizeO : ∀ w, (Go.sizeOf 36).run Tryd.prog w = .ok 2 w := Tryd.sizeOf36

theorem cmpLays_O {w : World} {B : Nat} [Inhabited (SO w B)] (blk : Nat) (hB : B ≤ blk) (n : Nat) : CmpLays Tryd.prog 18 #[] (SO.enc (w := w) (B := B)) 2 SO.cf blk 0 n w := by
  intro m os dk _ x y
  have hA : Agree (fun b => b < B) w (sortWorldK SO.enc 2 w blk 0 m dk os) := fun b hb hl => sortW_heap _ _ _ _ _ _ _ _ b hl (by omega)
  have hx : OutV (sortWorldK SO.enc 2 w blk 0 m dk os) x.v1 x.v2 x.o := ⟨(x.h.1.agree hA).any, (x.h.2.agree hA).any⟩
  have hy : OutV (sortWorldK SO.enc 2 w blk 0 m dk os) y.v1 y.v2 y.o := ⟨(y.h.1.agree hA).any, (y.h.2.agree hA).any⟩
  exact Compare_grow x.v1 x.v2 y.v1 y.v2 x.o y.o _ hx hy x.z

theorem val_one {w : World} {A : Nat → Prop} {α : Type} {R : Elem α} {v : Value} {xs : List α} (h : SlA A R w v xs) : v.oneCell' = true := by
  obtain ⟨p, c, rfl⟩ := h.len; rfl

set_option maxHeartbeats 1000000 in
theorem sort_any (w : World) (B blk cap : Nat) (xs : List (SO w B)) (hB : B ≤ blk) (hblk : blk < w.heap.size) (hrow : ∀ i (h : i < xs.length), w.cell? ⟨blk, i * 2, none⟩ = some xs[i].v1 ∧ w.cell? ⟨blk, i * 2 + 1, none⟩ = some xs[i].v2) (hfz : ∀ i, w.frozen? ⟨blk, i, none⟩ = false) (hsz : xs.length ≤ 1000) :
    Calls Tryd.prog 35 #[.slice (some ⟨blk, 0, none⟩) xs.length cap, .func (.func 18) #[] #[]] w fun e w' => e = .returned (.tuple #[]) ∧ ∃ ys : List (SO w B), ys.Perm xs ∧
      (∀ i j (hj : j < ys.length) (hij : i < j), ¬ cmpO ys[j].o ys[i].o < 0) ∧ (∀ i (h : i < ys.length), w'.cell? ⟨blk, i * 2, none⟩ = some ys[i].v1 ∧ w'.cell? ⟨blk, i * 2 + 1, none⟩ = some ys[i].v2) ∧ Below B w w' := by
  have I : Inhabited (SO w B) := ⟨SO.dflt w B⟩
  have hH : HoldsK SO.enc 2 w blk 0 xs.toArray := by
    intro t ht
    rw [size_flatK] at ht
    have hi : t / 2 < xs.length := by simp at ht; omega
    rw [get_flatK _ _ _ _ ht, Nat.zero_add]
    refine ⟨?_, hfz t⟩
    obtain ⟨r1, r2⟩ := hrow _ hi
    have ex : xs.toArray[t / 2]! = xs[t / 2] := by rw [getElem!_pos xs.toArray (t / 2) (by simpa using hi)]; simp
    rw [ex]
    rcases Nat.mod_two_eq_zero_or_one t with h0 | h0
    · have e : t / 2 * 2 = t := by omega
      rw [e] at r1
      rw [h0]
      exact r1
    · have e : t / 2 * 2 + 1 = t := by omega
      rw [e] at r2
      rw [h0]
      exact r2
  have hcon := AnyQ.slices_SortFunc Tryd.laysSort 2 aggO sizeO (SO.enc (w := w) (B := B)) (fun _ => rfl) (fun x v hv => by
    simp [SO.enc] at hv
    rcases hv with rfl | rfl
    · exact val_one x.h.1
    · exact val_one x.h.2) SO.cf SO.swo 18 #[] blk 0 cap xs.toArray w (enters_of Tryd.func18 (by kernel_rfl) rfl) (cmpLays_O blk hB _) hH hblk (by simp; omega)
  have hs : xs.toArray.size = xs.length := by simp
  rw [hs] at hcon
  change Calls Tryd.prog 35 _ _ _ at hcon
  refine hcon.mono ?_
  rintro e w' ⟨he, d', n, os, hp, hq, rfl⟩
  obtain ⟨hp1, _, hp3⟩ := hp
  have hd : d'.size = xs.length := by rw [hp1]; simp
  have hHk : HoldsK SO.enc 2 (sortWorldK SO.enc 2 w blk 0 n d' os) blk 0 d' := holdsK_sortWorldK_c SO.enc 2 w blk 0 xs.toArray d' n os hH hblk (by rw [hp1])
  refine ⟨he, d'.toList, ?_, fun i j hj hij => ?_, fun i hi => ?_, sortW_below _ _ _ _ _ _ _ _ _ hB hblk⟩
  · have e1 : d'.extract 0 xs.length = d' := by rw [← hd]; simp
    have e2 : xs.toArray.extract 0 xs.length = xs.toArray := by rw [← hs]; simp
    rw [e1, e2] at hp3
    simpa using hp3
  · have hj' : j < d'.size := by simpa using hj
    have := hq i j (Nat.zero_le _) hij (by omega)
    rw [getElem!_pos d' j hj', getElem!_pos d' i (by omega)] at this
    simp only [Array.getElem_toList]
    exact of_decide_eq_false this
  · have hi' : i < d'.size := by simpa using hi
    have h0 := (hHk.cell hi' (show 0 < 2 by decide)).1
    have h1 := (hHk.cell hi' (show 1 < 2 by decide)).1
    rw [getElem!_pos d' i hi'] at h0 h1
    simp only [Nat.zero_add, Nat.add_zero] at h0 h1
    exact ⟨by simpa [SO.enc] using h0, by simpa [SO.enc] using h1⟩
theorem sort_none (p : Option Addr) (cap : Nat) (w : World) :
    Calls Tryd.prog 35 #[.slice p 0 cap, .func (.func 18) #[] #[]] w fun e w' => e = .returned (.tuple #[]) ∧ w' = w :=
  AnyF.slices_SortFunc_none { Tryd.laysSort with } p cap _ w
end Go.Proofs.YtdealgleehbhlaaDoor
