/- Contracts of text.initLine, and of text.readInit at the line of the document's small test. -/
import Derived.Test.YtjmcplbhjihepaaDoorTextLib
namespace Go.Proofs.YtjmcplbhjihepaaDoor
open Go.RowKit

def initL : List UInt8 := [105, 110, 105, 116]
theorem take_body (xs : List Int) (k : Nat) (hk : k < xs.length) : body (xs.take (k + 1)) = body (xs.take k) ++ figs xs[k] := by
  rw [List.take_add_one, List.getElem?_eq_getElem hk, body_app]
  simp [body]
set_option maxRecDepth 100000 in
set_option maxHeartbeats 2000000 in
theorem initLine_any (p : Option Addr) (c : Nat) (xs : List Int) (w : World) (E : Env w) (hi : Sl IntE w (.slice p xs.length c) xs) (hx : ∀ n ∈ xs, in64 n) (hL : xs.length ≤ 1000) :
    Calls Tryd.prog 52 #[.slice p xs.length c] w fun e w' => e = .returned (.string ⟨(initL ++ body xs).toArray⟩) ∧ Below w.heap.size w w' := by
  have HL : Hid (∀ k, k ≤ xs.length → (initL ++ body (xs.take k)).length ≤ 100000) := fun k hk => by
    have := body_len (xs.take k) (fun n hn => hx n (List.mem_of_mem_take hn))
    have h2 : (xs.take k).length ≤ 1000 := by rw [List.length_take]; omega
    have h3 : initL.length = 4 := rfl
    rw [List.length_append]
    omega
  go_enter Tryd.func52, Tryd.ntmps52
  go_wp2_with fail
  have hg : gTop < w.heap.size := E.lt
  generalize hW : w.alloc (Obj.cells #[Value.pointer none, Value.slice none 0 0] 60) = W
  have hBW : Below w.heap.size w W := by rw [← hW]; exact (Below.refl _ _).alloc (Nat.le_refl _) _
  have hBd : Bld W w.heap.size [] := by rw [← hW]; exact Bld.new w
  have hiW : SlA (fun b => b < w.heap.size) IntE W (.slice p xs.length c) xs := hi.old.keep hBW
  clear hW
  generalize hBB : w.heap.size = B at *
  have C := WriteString_any B [] initL W hBd (by decide)
  refine C.mono ?_
  clear C
  rintro e w1 ⟨rfl, hB1, hb1⟩
  rw [List.nil_append] at hB1
  go_wp2
  go_loopw [9] (fun q wr => ∃ k : Nat, k ≤ xs.length ∧ q = .int .i64 k ∧ Bld wr B (initL ++ body (xs.take k)) ∧ Below B W wr) (fun q _ => xs.length - (intOf q).toNat)
  case atStart => exact ⟨0, by omega, rfl, by simpa [body] using hB1, hb1⟩
  case round =>
    obtain ⟨k, hk, rfl, hBr, hBWr⟩ := hrel
    have Er : Env wr := (E.below (hBB ▸ hBW)).belowAt hBWr (by omega)
    have hLk := HL.out k hk
    by_cases hlt : k < xs.length
    · obtain ⟨ub, uo, rfl, e0⟩ := (ints_at (hiW.agree (Below.agreeAt hBWr (fun b h => h)))).2 k hlt
      have hin := hx xs[k] (List.getElem_mem hlt)
      have HT : Hid (initL ++ body (xs.take (k + 1)) = initL ++ body (xs.take k) ++ figs xs[k]) := by unfold Hid; rw [take_body xs k hlt, List.append_assoc]
      generalize xs[k] = x at *
      generalize initL ++ body (xs.take k) = acc at *
      go_wp2_with fail
      refine (writeNumber_any B acc x wr Er hin hBr (by omega) hg).mono ?_
      rintro e w2 ⟨rfl, hB2, hb2⟩
      go_wp2
      go_roundw
      case rel => exact ⟨k + 1, by omega, by go_num, by rw [HT.out]; exact hB2, hBWr.trans hb2⟩
      case measure => simp [intOf]; omega
    · have e : xs.take k = xs := List.take_of_length_le (by omega)
      rw [e] at hBr
      clear hLk HL
      obtain ⟨acc, ha⟩ : ∃ acc, initL ++ body xs = acc := ⟨_, rfl⟩
      rw [ha] at hBr
      have HA : Hid _ := ha
      clear ha
      have hkl : xs.length ≤ k := by omega
      go_wp2_with fail
      refine (String_any B acc wr hBr).mono ?_
      rintro e w6 ⟨rfl, hb6⟩
      go_wp2
      go_ret
      exact ⟨by rw [HA.out]; rfl, by rw [hBB]; exact hBW.trans (hBWr.trans hb6)⟩

theorem info_i64 : ((Tryd.prog.info? 2).map fun i => (i.zero, i.size, i.bytes)) = some (some (.int .i64 0), 1, 8) := by kernel_rfl
theorem int_one' {A : Nat → Prop} {w : World} {b c : Nat} (x : Int) (hA : A b) (h : w.cell? ⟨b, 0, none⟩ = some (.int .i64 x)) (hc : 1 ≤ c := by decide) : SlA A IntE w (.slice (some ⟨b, 0, none⟩) 1 c) [x] := by
  refine ⟨_, c, rfl, ⟨(fun e => by cases e), hc⟩, fun _ => ⟨b, 0, rfl, hA, fun i hi => ⟨[.int .i64 x], ?_, fun j u hu => ?_⟩⟩⟩
  · have : i = 0 := by simp at hi; omega
    subst this; rfl
  · have : i = 0 := by simp at hi; omega
    subst this
    match j, hu with
    | 0, hu => simp at hu; subst hu; simpa using h
    | j + 1, hu => simp at hu

theorem itoa_0 : Lib.itoa 0 = [48] := by unfold Lib.itoa; rw [if_neg (by decide)]; exact decDigits_small (by decide)
theorem itoa_1 : Lib.itoa 1 = [49] := by unfold Lib.itoa; rw [if_neg (by decide)]; exact decDigits_small (by decide)
theorem itoa_n1 : Lib.itoa (-1) = [45, 49] := by unfold Lib.itoa; rw [if_pos (by decide)]; exact congrArg _ (decDigits_small (by decide))
def line0 : List UInt8 := [105, 110, 105, 116, 32, 48]
set_option maxRecDepth 100000 in
set_option maxHeartbeats 2000000 in
theorem readInit_0 (w : World) (E : Env w) :
    Calls Tryd.prog 38 #[.string ⟨line0.toArray⟩] w fun e w' => ∃ p c, e = .returned (.tuple #[.slice p 1 c, .bool true]) ∧ SlA (fun b => w.heap.size ≤ b) IntE w' (.slice p 1 c) [0] ∧ Below w.heap.size w w' := by
  obtain ⟨i0, hi, hz⟩ := Option.map_eq_some_iff.1 info_i64
  simp only [Prod.mk.injEq] at hz
  obtain ⟨hz0, hz1, hz2⟩ := hz
  have L1 : Hid _ := hi
  have L2 : Hid _ := hz0
  have L3 : Hid (i0.size = IntE.size) := hz1
  have L4 : Hid _ := hz2
  clear hi hz0 hz1 hz2
  have HC : Hid (cutB 32 line0 = (initL, [48], true)) := by unfold Hid; decide
  have HD : Hid (cutB 32 [48] = ([48], [], false)) := by unfold Hid; decide
  have HNm : Hid (numOf [48] = 0) := by unfold Hid; decide
  have HI : Hid (initL ++ body [0] = line0) := by unfold Hid; simp [body, figs, itoa_0]; rfl
  go_enter Tryd.func38, Tryd.ntmps38
  go_wp2_with fail
  have C := Cut_any line0 32 w (by decide)
  rw [HC.out] at C
  refine C.mono ?_
  clear C
  rintro e w1 ⟨rfl, hb1⟩
  obtain ⟨w10, rfl⟩ : ∃ x : World, x = w1 := ⟨_, rfl⟩
  go_wp2
  go_loopw [5, 7] (fun r v wr => ((r = .string ⟨#[48]⟩ ∧ v = .slice none 0 0) ∨ (r = .string ⟨#[]⟩ ∧ Own (fun _ => False) IntE wr w.heap.size 2 v [0])) ∧ Below w.heap.size w wr) (fun r _ _ => match r with | .string s => s.size | _ => 0)
  case atStart => exact ⟨.inl ⟨rfl, rfl⟩, hb1⟩
  case round =>
    obtain ⟨hr, hB⟩ := hrel
    rcases hr with ⟨rfl, rfl⟩ | ⟨rfl, hO⟩
    · go_wp2_with fail
      have C := number_any [48] wr (E.below hB) (by decide)
      rw [HD.out, HNm.out] at C
      refine C.mono ?_
      clear C
      rintro e w2 ⟨rfl, hb2⟩
      have hB2 := hB.trans (hb2.mono hB.size)
      go_wp2_with (at_builtin; refine wpList_app (R := IntE) (A := fun _ => False) (B := fun _ => True) (xs := []) (ys := [0]) (by rfl) (.tmp 22) (.tmp 24) 29 2 i0 (.int .i64 0) 8 (by rfl) Tryd.underlying29 L1.out L2.out L3.out L4.out rfl w.heap.size (.slice none 0 0) (.slice (some ⟨w2.heap.size, 0, none⟩) 1 1) (by rfl) (by rfl) Own.nil (int_one' 0 trivial (by simp)) (fun _ _ _ h => h) (by decide) (by decide) (by have := hB2.size; simp; omega) ?_; intro p6 c6 w6 hO6 hg6 _)
      go_roundw
      case rel => exact ⟨.inr ⟨rfl, hO6⟩, (hB2.alloc hB2.size _).grown hg6 (by have := hB2.size; simp; omega) (fun q hq => by cases hq)⟩
      case measure => decide
    · obtain ⟨pa, ca, rfl⟩ := hO.len
      go_wp2_with fail
      have C := initLine_any pa ca [0] wr (E.below hB) hO.sl.any (fun n hn => by simp at hn; subst hn; exact ⟨by decide, by decide⟩) (by decide)
      rw [HI.out] at C
      refine C.mono ?_
      clear C
      rintro e w2 ⟨rfl, hb2⟩
      have hB2 := hB.trans (hb2.mono hB.size)
      have hS2 : SlA (fun b => w.heap.size ≤ b) IntE w2 (.slice pa 1 ca) [0] := SlA.mono (fun b h => by rcases h with h | h; exact h; exact h.elim) (hO.sl.keep hb2)
      go_wp2
      go_ret2
      exact ⟨_, _, rfl, hS2, hB2⟩
end Go.Proofs.YtjmcplbhjihepaaDoor
