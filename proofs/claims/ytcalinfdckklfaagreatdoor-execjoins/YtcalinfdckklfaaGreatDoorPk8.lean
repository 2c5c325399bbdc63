/- TestP, TestMath: what is used of them. -/
import Derived.Test.YtcalinfdckklfaaGreatDoorPk2
import Derived.Test.YtcalinfdckklfaaGreatDoorPk1
import Derived.Test.YtcalinfdckklfaaGreatDoorProg
namespace Go.Proofs.YtcalinfdckklfaaGreatDoor

/-- How many loads, and stores. -/
def cntT : List Ins → Int → Int → Int × Int
  | [], r, s => (r, s)
  | x :: xs, r, s => if kindZ x.op = 1 then cntT xs (r + 1) s else if kindZ x.op = 2 then cntT xs r (s + 1) else cntT xs r s
def cntTs : List (List Ins) → Int → Int → Int × Int
  | [], r, s => (r, s)
  | l :: ls, r, s => cntTs ls (cntT l r s).1 (cntT l r s).2
def sizeTs : List (List Ins) → Nat
  | [] => 0
  | l :: ls => l.length + sizeTs ls

def mayI (x : Ins) (behind locs : Int) : Bool := mayB x.op x.d x.a x.b x.l x.i behind locs
/-- The place of a thread's first instruction that may not be. -/
def badAt (locs : Int) : List Ins → Nat → Option Nat
  | [], _ => none
  | x :: xs, k => bif mayI x xs.length locs then badAt locs xs (k + 1) else some k
def thrE (locs : Int) (l : List Ins) : Int × Int :=
  if l.length < 1 ∨ 8 < l.length then (0, 1) else match badAt locs l 0 with | some k => (k, 2) | none => (0, 0)
def thrsE (locs : Int) : List (List Ins) → Nat → Option (Int × Int × Int)
  | [], _ => none
  | l :: ls, i => if (thrE locs l).2 = 0 then thrsE locs ls (i + 1) else some (i, (thrE locs l).1, (thrE locs l).2)
def numI (n : Int) : Bool := decide (-1000 ≤ n) && decide (n ≤ 1000)
def initB (xs : List Int) : Bool := decide (1 ≤ xs.length ∧ xs.length ≤ 3) && xs.all numI
def checkZ (xs : List Int) (ts : List (List Ins)) : Int × Int × Int :=
  if initB xs = false ∨ ts.length < 1 ∨ 3 < ts.length then (0, 0, 1)
  else match thrsE xs.length ts 0 with
    | some r => r
    | none => if 6 < (cntTs ts 0 0).1 + (cntTs ts 0 0).2 ∨ 4 < (cntTs ts 0 0).1 then (0, 0, 3) else (0, 0, 0)
def fewB (xs : List Int) (ts : List (List Ins)) : Bool := decide (xs.length ≤ 10) && decide (ts.length ≤ 10) && ts.all fun l => decide (l.length ≤ 40)


def dmb : Ins := ⟨11, 0, 0, 0, 0, 0⟩
end Go.Proofs.YtcalinfdckklfaaGreatDoor

namespace Go.Proofs.YtcalinfdckklfaaGreatDoor
open Go.RowKit

set_option maxHeartbeats 1000000 in
theorem Count_any (pi pt : Option Addr) (ni ci ct : Nat) (ts : List (List Ins)) (w : World) (T : Tab w) (ht : Sl ThrE w (.slice pt ts.length ct) ts) (hM : sizeTs ts ≤ 1000000) (hL : ts.length ≤ 1000000) :
    Calls Tryz.prog 62 #[.agg #[.slice pi ni ci, .slice pt ts.length ct]] w fun e w' => e = .returned (.tuple #[.int .i64 (cntTs ts 0 0).1, .int .i64 (cntTs ts 0 0).2]) ∧ Below w.heap.size w w' := by
  generalize hG : cntTs ts 0 0 = G
  have HG : Hid _ := hG
  clear hG
  go_enter Tryz.func62, Tryz.ntmps62
  go_wp2
  go_loopw [4, 5, 13] (fun r s i wr => ∃ (k : Nat) (a b : Int), k ≤ ts.length ∧ i = .int .i64 k ∧ r = .int .i64 a ∧ s = .int .i64 b ∧ 0 ≤ a ∧ 0 ≤ b ∧ a + b + sizeTs (ts.drop k) ≤ 1000000 ∧ cntTs (ts.drop k) a b = G ∧ Below w.heap.size w wr) (fun _ _ i _ => ts.length - (intOf i).toNat)
  case atStart => exact ⟨0, 0, 0, Nat.zero_le _, rfl, rfl, rfl, Int.le_refl _, Int.le_refl _, by simp; omega, HG.out, by go_grown⟩
  case round =>
    obtain ⟨k, a, b, hk, rfl, rfl, rfl, ha, hb, hs, hg, hB⟩ := hrel
    have HGk : Hid _ := hg
    clear hg
    by_cases hlt : k < ts.length
    · obtain ⟨tb, to, rfl, u, hu, hU⟩ := (thr_at (ht.keep hB)).2 k hlt
      have Tr := T.below hB
      generalize hl : ts[k] = l at hU
      have HL : Hid (ts.drop k = l :: ts.drop (k + 1)) := by rw [← hl]; exact drop_at hlt
      clear hl
      have hs' : a + b + l.length + sizeTs (ts.drop (k + 1)) ≤ 1000000 := by have := hs; rw [HL.out] at this; simp only [sizeTs] at this; omega
      clear hs
      obtain ⟨pu, cu, rfl⟩ := hU.len
      go_wp2
      go_loopw [4, 5, 19] (fun r s i w2 => ∃ (j : Nat) (c d : Int), j ≤ l.length ∧ i = .int .i64 j ∧ r = .int .i64 c ∧ s = .int .i64 d ∧ 0 ≤ c ∧ 0 ≤ d ∧ c + d + (l.length - j) + sizeTs (ts.drop (k + 1)) ≤ 1000000 ∧ cntT (l.drop j) c d = cntT l a b ∧ Below wr.heap.size wr w2) (fun _ _ i _ => l.length - (intOf i).toNat)
      case atStart => exact ⟨0, a, b, Nat.zero_le _, rfl, rfl, rfl, ha, hb, by simpa using hs', rfl, by go_grown⟩
      case round =>
        obtain ⟨j, c, d, hj, rfl, rfl, rfl, hc, hd, hs2, hg2, hB2⟩ := hrel
        have HG2 : Hid _ := hg2
        clear hg2
        by_cases hjl : j < l.length
        · obtain ⟨ub, uo, rfl, e0, e1, e2, e3, e4, e5⟩ := (ins_at (hU.keep hB2)).2 j hjl
          have T2 := Tr.below hB2
          generalize hx : l[j] = x at e0 e1 e2 e3 e4 e5
          have HX : Hid (l.drop j = x :: l.drop (j + 1)) := by rw [← hx]; exact drop_at hjl
          clear hx
          rcases kind_cases x.op with hk0 | hk0 | hk0
          all_goals
            have HC : Hid (cntT l a b = cntT l a b) := rfl
            have HG3 : Hid _ := HG2.out
            rw [HX.out, cntT, hk0] at HG3
            simp only [if_true, if_false, show ((0 : Int) = 1) = False by simp, show ((0 : Int) = 2) = False by simp, show ((2 : Int) = 1) = False by simp] at HG3
            have HK : Hid _ := hk0
            clear hk0 HC HG2
            go_wp2_with (go_at_call 80; refine (Kind_any _ _ _ _ _ _ _ (T2.alloc _)).mono ?_; rintro e w3 ⟨rfl, hb3⟩; rw [HK.out])
            go_roundw
            case rel => exact ⟨j + 1, _, _, by omega, by go_num, rfl, rfl, by omega, by omega, by omega, HG3, (hB2.alloc hB2.size _).trans (hb3.mono (by simp; exact Nat.le_succ_of_le hB2.size))⟩
            case measure => simp [intOf]; omega
        · go_wp2
          go_roundw
          case rel => exact ⟨k + 1, c, d, by omega, by go_num, rfl, rfl, hc, hd, by omega, by
            have h := HGk.out
            rw [HL.out, cntTs] at h
            have h2 := HG2.out
            rw [List.drop_of_length_le (by omega), cntT] at h2
            rw [← h2] at h
            exact h, Below.thru hB hB2 (by omega)⟩
          case measure => simp [intOf]; omega
    · have h := HGk.out
      rw [List.drop_of_length_le (by omega), cntTs] at h
      have HF : Hid _ := h
      clear h
      go_wp2
      go_ret2
      exact ⟨by rw [← HF.out]; rfl, hB⟩
end Go.Proofs.YtcalinfdckklfaaGreatDoor

namespace Go.Proofs.YtcalinfdckklfaaGreatDoor
open Go.RowKit

theorem few_no1 {xs : List Int} {ts : List (List Ins)} (h : ¬ xs.length ≤ 10) : fewB xs ts = false := by unfold fewB; rw [decide_eq_false h]; rfl
theorem few_no2 {xs : List Int} {ts : List (List Ins)} (h : ¬ ts.length ≤ 10) : fewB xs ts = false := by unfold fewB; rw [decide_eq_false h]; simp

set_option maxHeartbeats 1000000 in
theorem Few_any (pi pt : Option Addr) (ci ct : Nat) (xs : List Int) (ts : List (List Ins)) (w : World) (ht : Sl ThrE w (.slice pt ts.length ct) ts) :
    Calls Tryz.prog 17 #[.agg #[.slice pi xs.length ci, .slice pt ts.length ct]] w fun e w' => e = .returned (.bool (fewB xs ts)) ∧ Below w.heap.size w w' := by
  by_cases h1 : xs.length ≤ 10
  · by_cases h2 : ts.length ≤ 10
    · have E : Hid (fewB xs ts = ts.all fun l => decide (l.length ≤ 40)) := by unfold Hid fewB; rw [decide_eq_true h1, decide_eq_true h2]; rfl
      have h1' : ((xs.length : Int)) ≤ 10 := by omega
      have h2' : ((ts.length : Int)) ≤ 10 := by omega
      go_enter Tryz.func17, Tryz.ntmps17
      go_wp2
      go_loopw [3] (fun i wr => ∃ k : Nat, k ≤ ts.length ∧ i = .int .i64 k ∧ fewB xs ts = (ts.drop k).all (fun l => decide (l.length ≤ 40)) ∧ wr = w.alloc (.cells #[.slice pi xs.length ci, .slice pt ts.length ct] 63)) (fun i _ => ts.length - (intOf i).toNat)
      case atStart => exact ⟨0, Nat.zero_le _, rfl, E.out, rfl⟩
      case round =>
        obtain ⟨k, hk, rfl, hF, rfl⟩ := hrel
        have HF : Hid _ := hF
        clear hF
        by_cases hlt : k < ts.length
        · obtain ⟨tb, to, rfl, u, hu, hU⟩ := (thr_at (ht.keep ((Below.refl _ _).alloc (Nat.le_refl _) (.cells #[.slice pi xs.length ci, .slice pt ts.length ct] 63)))).2 k hlt
          generalize hl : ts[k] = l at hU
          have HL : Hid (ts.drop k = l :: ts.drop (k + 1)) := by rw [← hl]; exact drop_at hlt
          clear hl
          obtain ⟨pu, cu, rfl⟩ := hU.len
          by_cases h40 : l.length ≤ 40
          · have h40' : ((l.length : Int)) ≤ 40 := by omega
            go_wp2
            go_roundw
            case rel => exact ⟨k + 1, by omega, by go_num, by have := HF.out; rw [HL.out, List.all_cons, decide_eq_true h40] at this; simpa using this, trivial⟩
            case measure => simp [intOf]; omega
          · have h40' : ¬ ((l.length : Int)) ≤ 40 := by omega
            go_wp2
            go_ret
            exact ⟨by have := HF.out; rw [HL.out, List.all_cons, decide_eq_false h40] at this; rw [this]; rfl, by go_grown⟩
        · go_wp2
          go_ret
          exact ⟨by have := HF.out; rw [List.drop_of_length_le (by omega)] at this; rw [this]; rfl, by go_grown⟩
    · have E : Hid _ := few_no2 (xs := xs) h2
      have h1' : ((xs.length : Int)) ≤ 10 := by omega
      have h2' : ¬ ((ts.length : Int)) ≤ 10 := by omega
      go_enter Tryz.func17, Tryz.ntmps17
      go_wp2
      go_ret
      exact ⟨by rw [E.out]; rfl, by go_grown⟩
  · have E : Hid _ := few_no1 (ts := ts) h1
    have h1' : ¬ ((xs.length : Int)) ≤ 10 := by omega
    go_enter Tryz.func17, Tryz.ntmps17
    go_wp2
    go_ret
    exact ⟨by rw [E.out]; rfl, by go_grown⟩

theorem num_all_step {n : Int} {xs : List Int} (h : numI n = true) : (n :: xs).all numI = xs.all numI := by simp [h]
theorem num_all_no {n : Int} {xs : List Int} (h : numI n = false) : (n :: xs).all numI = false := by simp [h]

set_option maxHeartbeats 1000000 in
theorem mayInit_any (pi : Option Addr) (ci : Nat) (xs : List Int) (w : World) (hi : Sl IntE w (.slice pi xs.length ci) xs) :
    Calls Tryz.prog 78 #[.slice pi xs.length ci] w fun e w' => e = .returned (.bool (initB xs)) ∧ w' = w := by
  by_cases h1 : 1 ≤ xs.length
  · by_cases h2 : xs.length ≤ 3
    · have E : Hid (initB xs = xs.all numI) := by unfold Hid initB; rw [decide_eq_true ⟨h1, h2⟩]; rfl
      have h1' : ¬ ((xs.length : Int)) < 1 := by omega
      have h2' : ((xs.length : Int)) ≤ 3 := by omega
      go_enter Tryz.func78, Tryz.ntmps78
      go_wp2
      go_loop [15] (fun i => ∃ k : Nat, k ≤ xs.length ∧ i = .int .i64 k ∧ initB xs = (xs.drop k).all numI) (fun i => xs.length - (intOf i).toNat)
      case atStart => exact ⟨0, Nat.zero_le _, rfl, E.out⟩
      case round =>
        obtain ⟨k, hk, rfl, hF⟩ := hrel
        have HF : Hid _ := hF
        clear hF
        by_cases hlt : k < xs.length
        · obtain ⟨tb, to, rfl, hu⟩ := (ints_at hi).2 k hlt
          generalize hl : xs[k] = n at hu
          have HL : Hid (xs.drop k = n :: xs.drop (k + 1)) := by rw [← hl]; exact drop_at hlt
          clear hl
          by_cases n1 : -1000 ≤ n
          · by_cases n2 : n ≤ 1000
            · have HN : Hid (numI n = true) := by unfold Hid numI; simp; omega
              go_wp2
              go_round
              case rel => exact ⟨k + 1, by omega, by go_num, by have := HF.out; rw [HL.out, num_all_step HN.out] at this; exact this⟩
              case measure => simp [intOf]; omega
            · have HN : Hid (numI n = false) := by unfold Hid numI; simp; omega
              go_wp2
              go_ret
              exact ⟨by have := HF.out; rw [HL.out, num_all_no HN.out] at this; rw [this]; rfl, rfl⟩
          · have HN : Hid (numI n = false) := by unfold Hid numI; simp; omega
            go_wp2
            go_ret
            exact ⟨by have := HF.out; rw [HL.out, num_all_no HN.out] at this; rw [this]; rfl, rfl⟩
        · go_wp2
          go_ret
          exact ⟨by have := HF.out; rw [List.drop_of_length_le (by omega)] at this; rw [this]; rfl, rfl⟩
    · have E : Hid (initB xs = false) := by unfold Hid initB; rw [decide_eq_false (by omega)]; rfl
      have h1' : ¬ ((xs.length : Int)) < 1 := by omega
      have h2' : ¬ ((xs.length : Int)) ≤ 3 := by omega
      go_enter Tryz.func78, Tryz.ntmps78
      go_wp2
      go_ret
      exact ⟨by rw [E.out]; rfl, rfl⟩
  · have E : Hid (initB xs = false) := by unfold Hid initB; rw [decide_eq_false (by omega)]; rfl
    have h1' : ((xs.length : Int)) < 1 := by omega
    go_enter Tryz.func78, Tryz.ntmps78
    go_wp2
    go_ret
    exact ⟨by rw [E.out]; rfl, rfl⟩
end Go.Proofs.YtcalinfdckklfaaGreatDoor
namespace Go.Proofs.YtcalinfdckklfaaGreatDoor

theorem thr_ok {locs : Int} {l : List Ins} (h : (thrE locs l).2 = 0) : 1 ≤ l.length ∧ l.length ≤ 8 ∧ badAt locs l 0 = none := by
  unfold thrE at h
  split at h
  · simp at h
  · cases hb : badAt locs l 0 with
    | none => exact ⟨by omega, by omega, rfl⟩
    | some k => rw [hb] at h; simp at h
theorem thrs_ok {locs : Int} : ∀ {ts : List (List Ins)} {i : Nat}, thrsE locs ts i = none → ∀ l ∈ ts, 1 ≤ l.length ∧ l.length ≤ 8 ∧ badAt locs l 0 = none
  | [], _, _, l, hl => by cases hl
  | t :: ts, i, h, l, hl => by
    rw [thrsE] at h
    split at h
    · rename_i h0
      rcases List.mem_cons.1 hl with rfl | hl
      · exact thr_ok h0
      · exact thrs_ok h l hl
    · cases h
theorem thrsE_err {locs : Int} : ∀ {ts : List (List Ins)} {i : Nat} {r : Int × Int × Int}, thrsE locs ts i = some r → r.2.2 ≠ 0
  | [], _, _, h => by cases h
  | t :: ts, i, r, h => by
    rw [thrsE] at h
    split at h
    · exact thrsE_err h
    · rename_i h0
      cases h
      exact h0
theorem check_parts {xs : List Int} {ts : List (List Ins)} (h : (checkZ xs ts).2.2 = 0) :
    initB xs = true ∧ 1 ≤ ts.length ∧ ts.length ≤ 3 ∧ thrsE xs.length ts 0 = none ∧ (cntTs ts 0 0).1 + (cntTs ts 0 0).2 ≤ 6 ∧ (cntTs ts 0 0).1 ≤ 4 := by
  unfold checkZ at h
  split at h
  · simp at h
  · rename_i h1
    cases ht : thrsE xs.length ts 0 with
    | some r => rw [ht] at h; exact absurd h (thrsE_err ht)
    | none =>
      rw [ht] at h
      simp only at h
      split at h
      · simp at h
      · rename_i h2
        refine ⟨?_, by omega, by omega, rfl, by omega, by omega⟩
        cases hi : initB xs
        · exact absurd (.inl hi) h1
        · rfl
end Go.Proofs.YtcalinfdckklfaaGreatDoor
