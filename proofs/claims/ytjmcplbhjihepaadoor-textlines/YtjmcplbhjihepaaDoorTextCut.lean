/- The contract of the document's cut: a text in parts. -/
import Derived.Test.YtjmcplbhjihepaaDoorTextNum
namespace Go.Proofs.YtjmcplbhjihepaaDoor
open Go.RowKit

/-- Texts, in a slice. -/
def StrE : Elem (List UInt8) where
  size := 1
  pos := Nat.one_pos
  cs := fun _ _ l c => c = [.string ⟨l.toArray⟩]
  len := fun h => by subst h; rfl
  one := fun h u hu => by subst h; simp at hu; subst hu; rfl
  keep := fun h _ => h
  mono := fun _ h => h
  lt := fun h => h
theorem str_at {A : Nat → Prop} {w : World} {p : Option Addr} {n c : Nat} {xs : List (List UInt8)} (h : SlA A StrE w (.slice p n c) xs) : n = xs.length ∧ ∀ k (hk : k < xs.length), ∃ b o, p = some ⟨b, o, none⟩ ∧ w.cell? ⟨b, o + k, none⟩ = some (.string ⟨xs[k].toArray⟩) := by
  obtain ⟨h1, h2⟩ := h.at
  refine ⟨h1, fun k hk => ?_⟩
  obtain ⟨b, o, rfl, _, cs, h3, h4⟩ := h2 k hk
  have := h4 0 _ (by rw [show cs = [.string ⟨xs[k].toArray⟩] from h3]; rfl)
  exact ⟨b, o, rfl, by simpa [StrE] using this⟩
theorem str_one {A : Nat → Prop} {w : World} {b c : Nat} (x : List UInt8) (hA : A b) (h : w.cell? ⟨b, 0, none⟩ = some (.string ⟨x.toArray⟩)) (hc : 1 ≤ c := by decide) : SlA A StrE w (.slice (some ⟨b, 0, none⟩) 1 c) [x] := by
  refine ⟨_, c, rfl, ⟨(fun e => by cases e), hc⟩, fun _ => ⟨b, 0, rfl, hA, fun i hi => ⟨[.string ⟨x.toArray⟩], ?_, fun j u hu => ?_⟩⟩⟩
  · have : i = 0 := by simp at hi; omega
    subst this; rfl
  · have : i = 0 := by simp at hi; omega
    subst this
    match j, hu with
    | 0, hu => simp at hu; subst hu; simpa using h
    | j + 1, hu => simp at hu
theorem infoS : (Tryd.prog.info? 9).map (fun i => (i.zero, i.size, i.bytes)) = some (some (.string ⟨#[]⟩), 1, 16) := by kernel_rfl

theorem ext_part (l : List UInt8) (f k : Nat) : (⟨l.toArray⟩ : ByteArray).extract f k = ⟨((l.drop f).take (k - f)).toArray⟩ := by
  rw [Lib.extract_eq]
/-- How far the parts are. -/
def cutRel (c : UInt8) (l : List UInt8) (k f : Nat) (acc : List (List UInt8)) : Prop :=
  acc ++ (bif decide (k ≤ l.length) then split c ((l.drop f).take (k - f)) (l.drop k) else []) = split c [] l
theorem cutRel_at {c : UInt8} {l : List UInt8} {k f : Nat} {acc : List (List UInt8)} (hk : k < l.length) (hx : l[k] = c) (h : cutRel c l k f acc) : cutRel c l (k + 1) (k + 1) (acc ++ [(l.drop f).take (k - f)]) := by
  unfold cutRel at *
  rw [decide_eq_true (by omega), cond_true, drop_at hk] at h
  rw [decide_eq_true (by omega), cond_true]
  simp only [split, hx, if_true] at h
  simpa using h
theorem cutRel_end {c : UInt8} {l : List UInt8} {k f : Nat} {acc : List (List UInt8)} (hk : k = l.length) (h : cutRel c l k f acc) : cutRel c l (k + 1) (k + 1) (acc ++ [(l.drop f).take (k - f)]) := by
  unfold cutRel at *
  have e : l.drop k = [] := List.drop_of_length_le (by omega)
  rw [decide_eq_true (by omega), cond_true, e] at h
  rw [decide_eq_false (by omega), cond_false]
  simpa [split] using h
theorem cutRel_on {c : UInt8} {l : List UInt8} {k f : Nat} {acc : List (List UInt8)} (hk : k < l.length) (hf : f ≤ k) (hx : l[k] ≠ c) (h : cutRel c l k f acc) : cutRel c l (k + 1) f acc := by
  unfold cutRel at *
  rw [decide_eq_true (by omega), cond_true, drop_at hk] at h
  rw [decide_eq_true (by omega), cond_true]
  simp only [split, hx, if_false] at h
  have e : (l.drop f).take (k + 1 - f) = (l.drop f).take (k - f) ++ [l[k]] := by
    rw [show k + 1 - f = (k - f) + 1 by omega, List.take_add_one]
    congr 1
    rw [List.getElem?_drop, show f + (k - f) = k by omega, List.getElem?_eq_getElem hk]
    rfl
  rw [e]
  exact h

set_option maxRecDepth 100000 in
set_option maxHeartbeats 2000000 in
theorem refCut_any (l : List UInt8) (c : UInt8) (hl : l.length ≤ 1000000) (w : World) :
    Calls Tryd.prog 16 #[.string ⟨l.toArray⟩, .int .u8 c.toNat] w fun e w' => ∃ p cap, e = .returned (.slice p (split c [] l).length cap) ∧ Sl StrE w' (.slice p (split c [] l).length cap) (split c [] l) ∧ Below w.heap.size w w' := by
  have hsz := size_l l
  obtain ⟨i0, hi, hz⟩ := Option.map_eq_some_iff.1 infoS
  simp only [Prod.mk.injEq] at hz
  obtain ⟨hz0, hz1, hz2⟩ := hz
  have L1 : Hid _ := hi
  have L2 : Hid _ := hz0
  have L3 : Hid (i0.size = StrE.size) := hz1
  have L4 : Hid _ := hz2
  clear hi hz0 hz1 hz2
  go_enter Tryd.func16, Tryd.ntmps16
  go_wp2
  go_loopw [5, 6, 7] (fun v fr i wr => ∃ (k f : Nat) (acc : List (List UInt8)), k ≤ l.length + 1 ∧ f ≤ k ∧ i = .int .i64 k ∧ fr = .int .i64 f ∧ Own (fun _ => False) StrE wr w.heap.size 9 v acc ∧ acc.length ≤ k ∧ cutRel c l k f acc ∧ Below w.heap.size w wr) (fun _ _ i _ => l.length + 1 - (intOf i).toNat)
  case atStart => exact ⟨0, 0, [], by omega, by omega, rfl, rfl, Own.nil, by simp, by simp [cutRel], by go_grown⟩
  case round =>
    obtain ⟨k, f, acc, hk, hf, rfl, rfl, hO, hO2, hR, hB⟩ := hrel
    obtain ⟨pa, ca, rfl⟩ := hO.len
    by_cases hke : k = l.length
    · subst hke
      have HR : Hid (cutRel c l (l.length + 1) (l.length + 1) (acc ++ [(l.drop f).take (l.length - f)])) := cutRel_end rfl hR
      clear hR
      have HE : (⟨l.toArray⟩ : ByteArray).extract f l.length = ⟨((l.drop f).take (l.length - f)).toArray⟩ := ext_part l f _
      generalize (l.drop f).take (l.length - f) = part at *
      go_wp2_with (at_builtin; refine wpList_app (R := StrE) (A := fun _ => False) (B := fun _ => True) (xs := acc) (ys := [part]) (by rfl) (.tmp 25) (.tmp 30) 50 9 i0 (.string ⟨#[]⟩) 16 (by rfl) Tryd.underlying50 L1.out L2.out L3.out L4.out rfl w.heap.size (.slice pa acc.length ca) (.slice (some ⟨wr.heap.size, 0, none⟩) 1 1) (by rfl) (by rfl) (hO.keep ((Below.refl _ _).alloc (Nat.le_refl _) _)) (str_one part trivial (by simp)) (fun _ _ _ h => h) (by simp; omega) (by decide) (by have := hB.size; simp; omega) ?_; intro p6 c6 w6 hO6 hg6 _)
      go_roundw
      case rel => exact ⟨l.length + 1, l.length + 1, acc ++ [part], by omega, Nat.le_refl _, by go_num, by go_num, by simpa using hO6, by simp; omega, HR.out, (hB.alloc hB.size _).grown hg6 (by have := hB.size; simp; omega) (fun q hq => (hO.lt q hq).1)⟩
      case measure => first | (simp [intOf]; omega) | simp [intOf]
    · by_cases hlt : k < l.length
      · obtain ⟨x, hx⟩ : ∃ x, l[k] = x := ⟨_, rfl⟩
        have hxk : (⟨l.toArray⟩ : ByteArray)[k]'(by rw [hsz]; exact hlt) = x := hx
        by_cases hxc : x = c
        · have HR : Hid (cutRel c l (k + 1) (k + 1) (acc ++ [(l.drop f).take (k - f)])) := cutRel_at hlt (hx.trans hxc) hR
          clear hR
          have HE : (⟨l.toArray⟩ : ByteArray).extract f k = ⟨((l.drop f).take (k - f)).toArray⟩ := ext_part l f _
          generalize (l.drop f).take (k - f) = part at *
          subst hxc
          clear hx
          go_wp2_with (at_builtin; refine wpList_app (R := StrE) (A := fun _ => False) (B := fun _ => True) (xs := acc) (ys := [part]) (by rfl) (.tmp 25) (.tmp 30) 50 9 i0 (.string ⟨#[]⟩) 16 (by rfl) Tryd.underlying50 L1.out L2.out L3.out L4.out rfl w.heap.size (.slice pa acc.length ca) (.slice (some ⟨wr.heap.size, 0, none⟩) 1 1) (by rfl) (by rfl) (hO.keep ((Below.refl _ _).alloc (Nat.le_refl _) _)) (str_one part trivial (by simp)) (fun _ _ _ h => h) (by simp; omega) (by decide) (by have := hB.size; simp; omega) ?_; intro p6 c6 w6 hO6 hg6 _)
          go_roundw
          case rel => exact ⟨k + 1, k + 1, acc ++ [part], by omega, Nat.le_refl _, by go_num, by go_num, by simpa using hO6, by simp; omega, HR.out, (hB.alloc hB.size _).grown hg6 (by have := hB.size; simp; omega) (fun q hq => (hO.lt q hq).1)⟩
          case measure => first | (simp [intOf]; omega) | simp [intOf]
        · have HR : Hid (cutRel c l (k + 1) f acc) := cutRel_on hlt hf (fun e => hxc (hx.symm.trans e)) hR
          clear hR hx
          have hne : ((x.toNat : Int) == (c.toNat : Int)) = false := by rw [beq_eq_false_iff_ne]; exact fun e => hxc (UInt8.toNat_inj.1 (Int.ofNat.inj e))
          have hkl : ((k : Int) == (l.length : Int)) = false := by rw [beq_eq_false_iff_ne]; omega
          go_wp2
          go_roundw
          case rel => exact ⟨k + 1, f, acc, by omega, by omega, by go_num, rfl, hO, by omega, HR.out, hB⟩
          case measure => first | (simp [intOf]; omega) | simp [intOf]
      · have hk1 : k = l.length + 1 := by omega
        have HR : Hid (acc = split c [] l) := by
          unfold Hid
          unfold cutRel at hR
          rw [decide_eq_false (by omega), cond_false, List.append_nil] at hR
          exact hR
        clear hR
        have hgt : l.length < k := by omega
        clear hk1
        go_wp2
        go_ret
        rw [← HR.out]
        exact ⟨_, _, rfl, hO.sl.any, hB⟩
end Go.Proofs.YtjmcplbhjihepaaDoor
