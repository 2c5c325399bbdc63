/- The contract of accesses: a thread's loads and stores, in turn. -/
import Derived.Test.YtpmecgagbjphdaaDoorTestTurned
import Derived.Test.YtpmecgagbjphdaaDoorTestMath3
import Derived.Test.YtpmecgagbjphdaaDoorInsRef
namespace Go.Proofs.YtpmecgagbjphdaaDoor
open Go.RowKit

set_option maxRecDepth 20000 in
set_option maxHeartbeats 1000000 in
theorem accesses_any (p : Option Addr) (c : Nat) (l : List Ins) (w : World) (hl : Sl InsE w (.slice p l.length c) l) (hL : l.length ≤ 1000000) :
    Calls Tryd.prog 20 #[.slice p l.length c] w fun e w' => ∃ p' c', e = .returned (.slice p' (accL l).length c') ∧ SlA (fun b => w.heap.size ≤ b) InsE w' (.slice p' (accL l).length c') (accL l) ∧ Below w.heap.size w w' := by
  obtain ⟨i1, z1, j1, j2, j3, j4, j5⟩ := info_get info_ins
  have L1 : Hid _ := j1
  have L2 : Hid _ := j2
  have L3 : Hid _ := j3
  have L4 : Hid _ := j4
  have L5 : Hid _ := j5
  clear j1 j2 j3 j4 j5
  go_enter Tryd.func20, Tryd.ntmps20
  go_wp2
  go_loopw [3, 4] (fun a i wr => ∃ (k : Nat) (out : List Ins), k ≤ l.length ∧ i = .int .i64 k ∧ Own (fun _ => False) InsE wr w.heap.size 40 a out ∧ out.length ≤ k ∧ out ++ accL (l.drop k) = accL l ∧ Below w.heap.size w wr) (fun _ i _ => l.length - (intOf i).toNat)
  case atStart => exact ⟨0, [], Nat.zero_le _, rfl, Own.nil, by simp, by simp, by go_grown⟩
  case round =>
    obtain ⟨k, out, hk, rfl, hO, hO2, hS, hB⟩ := hrel
    have HS : Hid _ := hS
    clear hS
    obtain ⟨pa, ca, rfl⟩ := hO.len
    by_cases hlt : k < l.length
    · obtain ⟨ub, uo, rfl, e0, e1, e2, e3, e4, e5⟩ := (ins_at (hl.keep hB)).2 k hlt
      generalize hx : l[k] = x at e0 e1 e2 e3 e4 e5
      have HX : Hid (l.drop k = x :: l.drop (k + 1)) := by rw [← hx]; exact drop_at hlt
      clear hx
      have hz : ub < wr.heap.size := cell_lt e0
      by_cases hk0 : kindZ x.op = 0
      · have HK : Hid _ := hk0
        clear hk0
        go_wp2_with (go_at_call 21; refine (refKind_any _ _ _ _ _ _ _).mono ?_; rintro e w3 ⟨rfl, hb3⟩; rw [HK.out])
        go_roundw
        case rel => exact ⟨k + 1, out, by omega, by go_num, by simpa using hO.keep hb3, by omega, by have := HS.out; rw [HX.out, accL, if_pos HK.out] at this; exact this, hB.trans (hb3.mono hB.size)⟩
        case measure => simp [intOf]; omega
      · obtain ⟨hk1, hk2⟩ : 0 < kindZ x.op ∧ kindZ x.op ≤ 2 := by rcases kind_cases x.op with h' | h' | h' <;> omega
        have HK : Hid _ := hk0
        clear hk0
        go_wp2_with fail
        refine (refKind_any _ _ _ _ _ _ _).mono ?_
        rintro e w3 ⟨rfl, hb3⟩
        obtain ⟨hc3, hf3⟩ := bcell hb3
        have hB3 := hB.trans (hb3.mono hB.size)
        go_wp2_with (at_builtin; refine wpList_app (R := InsE) (A := fun _ => False) (B := fun _ => True) (xs := out) (ys := [x]) (by rfl) (.tmp 17) (.tmp 22) 37 40 i1 z1 48 (by rfl) Tryd.underlying37 L1.out L2.out L4.out L5.out L3.out w.heap.size (.slice pa out.length ca) (.slice (some ⟨w3.heap.size, 0, none⟩) 1 1) (by rfl) (by rfl) (hO.keep (hb3.alloc hb3.size _)) (ins_one x trivial ⟨by simp, by simp, by simp, by simp, by simp, by simp⟩) (fun _ _ _ h => h) (by simp; omega) (by decide) (by have := hB3.size; simp; omega) ?_; intro p6 c6 w6 hO6 hg6 _)
        go_roundw
        case rel => exact ⟨k + 1, out ++ [x], by omega, by go_num, by simpa using hO6, by simp; omega, by have := HS.out; rw [HX.out, accL, if_neg HK.out] at this; rw [List.append_assoc]; exact this, (hB3.alloc hB3.size _).grown hg6 (by have := hB3.size; simp; omega) (fun q hq => (hO.lt q hq).1)⟩
        case measure => simp [intOf]; omega
    · go_wp2
      go_ret
      have e : out = accL l := by have := HS.out; rw [List.drop_of_length_le (by omega)] at this; simpa [accL] using this
      subst e
      exact ⟨_, _, rfl, hO.sl', hB⟩
end Go.Proofs.YtpmecgagbjphdaaDoor
