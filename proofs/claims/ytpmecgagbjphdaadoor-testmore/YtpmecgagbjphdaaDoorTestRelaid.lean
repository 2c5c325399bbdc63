/- The contract of test.relaid: a thread, laid out anew. -/
import Derived.Test.YtpmecgagbjphdaaDoorTestLay
namespace Go.Proofs.YtpmecgagbjphdaaDoor
open Go.RowKit

theorem inside_cons {x : Ins} {xs : List Ins} (h : inside (x :: xs) = true) : inside xs = true ∧ (brB x.op = true → 0 ≤ x.i ∧ x.i ≤ xs.length) := by
  unfold inside at h
  simp only [Bool.and_eq_true] at h
  refine ⟨h.2, fun hb => ?_⟩
  rw [hb] at h
  simpa using h.1
theorem relay_cons {lay : Ins → List Ins} {x : Ins} {xs : List Ins} : relay lay (x :: xs) = lay (skipZ x (laid lay (xs.take x.i.toNat))) ++ relay lay xs := rfl
theorem skip_no {x : Ins} {n : Int} (h : brB x.op = false) : skipZ x n = x := by unfold skipZ; rw [h]; rfl
theorem skip_yes {x : Ins} {n : Int} (h : brB x.op = true) : skipZ x n = { x with i := n } := by unfold skipZ; rw [h]; rfl
theorem relay_len {lay : Ins → List Ins} (h : ∀ x, (lay x).length ≤ 2) (l : List Ins) : (relay lay l).length ≤ 2 * l.length := by
  induction l with
  | nil => simp [relay]
  | cons x xs ih => rw [relay_cons, List.length_append, List.length_cons]; have := h (skipZ x (laid lay (xs.take x.i.toNat))); omega

set_option maxHeartbeats 4000000 in
theorem relaid_any (f : FuncId) (hff : f = 31 ∨ f = 33) (lay : Ins → List Ins) (hf : LayOk f lay) (h2 : ∀ x, (lay x).length ≤ 2) (p : Option Addr) (c : Nat) (l : List Ins) (w : World) (T : Tab w) (hl : Sl InsE w (.slice p l.length c) l) (hL : l.length ≤ 1000000) (hin : inside l = true) :
    Calls Tryd.prog 30 #[.slice p l.length c, .func (.func f) #[] #[]] w fun e w' => ∃ p' c', e = .returned (.slice p' (relay lay l).length c') ∧ SlA (fun b => w.heap.size ≤ b) InsE w' (.slice p' (relay lay l).length c') (relay lay l) ∧ Below w.heap.size w w' := by
  have HF : Hid _ := hf
  have H2 : Hid _ := h2
  have HI : Hid _ := hin
  have hcap := hl.cap
  obtain ⟨i0, z0, j1, j2, j3, j4, j5⟩ := info_get info_ins
  have J1 : Hid _ := j1
  have J2 : Hid _ := j2
  have J3 : Hid _ := j3
  have J4 : Hid _ := j4
  have J5 : Hid _ := j5
  clear hf h2 hin j1 j2 j3 j4 j5
  rcases hff with rfl | rfl
  all_goals
    go_enter Tryd.func30, Tryd.ntmps30
    go_wp2
    go_loopw [5, 10] (fun a i wr => ∃ (k : Nat) (out : List Ins), k ≤ l.length ∧ i = .int .i64 k ∧ Own (fun _ => False) InsE wr w.heap.size 40 a out ∧ out.length ≤ 2 * k ∧ out ++ relay lay (l.drop k) = relay lay l ∧ inside (l.drop k) = true ∧ Below w.heap.size w wr) (fun _ i _ => l.length - (intOf i).toNat)
    case atStart => exact ⟨0, [], Nat.zero_le _, rfl, Own.nil, by simp, by simp, HI.out, by go_grown⟩
    case round =>
      obtain ⟨k, out, hk, rfl, hO, hO2, hS, hI, hB⟩ := hrel
      have HS : Hid _ := hS
      clear hS
      obtain ⟨pa, ca, rfl⟩ := hO.len
      by_cases hlt : k < l.length
      · obtain ⟨ub, uo, rfl, e0, e1, e2, e3, e4, e5⟩ := (ins_at (hl.keep hB)).2 k hlt
        have Tr := T.below hB
        generalize hx : l[k] = x at e0 e1 e2 e3 e4 e5
        have HX : Hid (l.drop k = x :: l.drop (k + 1)) := by rw [← hx]; exact drop_at hlt
        clear hx
        rw [HX.out] at hI
        obtain ⟨hI2, hI3⟩ := inside_cons hI
        have HI2 : Hid _ := hI2
        clear hI hI2
        have hb1 := ((Below.refl wr.heap.size wr).alloc (Nat.le_refl _) (.cells #[.int .i64 x.op, .int .i64 x.d, .int .i64 x.a, .int .i64 x.b, .int .i64 x.l, .int .i64 x.i] 40))
        cases hbr : brB x.op
        · clear hI3
          have HBR : Hid _ := hbr
          clear hbr
          go_wp2_with (go_at_call 47; refine (isBranch_any x _).mono ?_; rintro e w3 ⟨rfl, hb3⟩; rw [HBR.out]; obtain ⟨hc, hf⟩ := bcell hb3)
          have hB3 := hb1.trans (hb3.mono (by simp))
          refine (HF.out x _ (Tr.below hB3)).mono ?_
          rintro e w4 ⟨p4, c4, rfl, hs4, hb4⟩
          have hB4 := hB3.trans (hb4.mono hB3.size)
          have hx2 := H2.out x
          go_wp2_with (at_builtin; refine wpList_app (by rfl) (.tmp 29) (.tmp 32) 37 40 i0 z0 48 (by rfl) Tryd.underlying37 J1.out J2.out J4.out J5.out J3.out w.heap.size _ _ (by rfl) (by rfl) (hO.keep hB4) hs4 (fun _ _ _ h => h) (by omega) (by decide) (Nat.le_trans hB.size hB4.size) ?_; intro p5 c5 w5 hO5 hg5 _)
          go_roundw
          case rel => exact ⟨k + 1, out ++ lay x, by omega, by go_num, by simpa using hO5, by rw [List.length_append]; omega, by have := HS.out; rw [HX.out, relay_cons, skip_no HBR.out] at this; rw [List.append_assoc]; exact this, HI2.out, (hB.trans (hB4.mono hB.size)).grown hg5 (Nat.le_trans hB.size hB4.size) (fun q hq => (hO.lt q hq).1)⟩
          case measure => simp [intOf]; omega
        · have hI4 := hI3 hbr
          rw [List.length_drop] at hI4
          clear hI3
          have HBR : Hid _ := hbr
          clear hbr
          obtain ⟨n, hn⟩ : ∃ n : Nat, x.i = n := ⟨x.i.toNat, by omega⟩
          have HN : Hid _ := hn
          have hn1 : (n : Int) ≤ (l.length : Int) - (k + 1) := by omega
          rw [hn] at e5
          clear hI4 hn
          obtain ⟨pp, hpp, hpart⟩ : ∃ pp : Addr, (c = k + 1 ∧ pp = ⟨ub, uo, none⟩ ∨ c ≠ k + 1 ∧ pp = ⟨ub, uo + (k + 1) * 6, none⟩) ∧ SlA (fun _ => True) InsE wr (.slice (some pp) n (c - (k + 1))) ((l.drop (k + 1)).take n) := by
            by_cases hn0 : 0 < n
            · obtain ⟨b', o', he, hpart⟩ := (hl.keep hB).part (i := k + 1) (k := n) (c' := c - (k + 1)) (by omega) hn0 (by omega)
              simp only [Option.some.injEq, Addr.mk.injEq, and_true] at he
              obtain ⟨rfl, rfl⟩ := he
              exact ⟨_, .inr ⟨by omega, rfl⟩, hpart⟩
            · have : n = 0 := by omega
              subst this
              by_cases hcn : c = k + 1
              · exact ⟨_, .inl ⟨hcn, rfl⟩, _, _, rfl, ⟨(fun e => by cases e), by simp⟩, fun h => absurd rfl h⟩
              · exact ⟨_, .inr ⟨hcn, rfl⟩, _, _, rfl, ⟨(fun e => by cases e), by simp⟩, fun h => absurd rfl h⟩
          have hpl : ((l.drop (k + 1)).take n).length = n := by rw [List.length_take, List.length_drop]; omega
          generalize hP : (l.drop (k + 1)).take n = part at hpart hpl
          have HP : Hid _ := hP
          have HPL : Hid _ := hpl
          clear hP hpl
          have hx2 := H2.out { x with i := laid lay part }
          have hln := laid_nn (lay := lay) (xs := part)
          have hb1 := ((Below.refl wr.heap.size wr).alloc (Nat.le_refl _) (.cells #[.int .i64 x.op, .int .i64 x.d, .int .i64 x.a, .int .i64 x.b, .int .i64 x.l, .int .i64 n] 40))
          rcases hpp with ⟨hcn, rfl⟩ | ⟨hcn, rfl⟩
          all_goals
            try subst hcn
            go_wp2_with (go_at_call 47; refine (isBranch_any { x with i := n } _).mono ?_; rintro e w3 ⟨rfl, hb3⟩; rw [HBR.out]; obtain ⟨hc, hf⟩ := bcell hb3)
            have hB3 := hb1.trans (hb3.mono (by simp))
            have hz3 : wr.heap.size < w3.heap.size := by have := hb3.size; simp at this; omega
            have C := laidOut_any _ (by first | exact .inl rfl | exact .inr rfl) lay HF.out H2.out _ _ part w3 (Tr.below hB3) (by rw [HPL.out]; exact hpart.keep hB3) (by rw [HPL.out]; omega)
            rw [HPL.out] at C
            try simp only [Nat.sub_self] at C
            refine C.mono ?_
            clear C
            rintro e w4 ⟨rfl, hb4⟩
            obtain ⟨hc4, hf4⟩ := bcell hb4
            have hz4 : wr.heap.size < w4.heap.size := Nat.lt_of_lt_of_le hz3 hb4.size
            have hB4 := hB3.trans (hb4.mono hB3.size)
            go_wp2_with fail
            have hB5 := hB4.setCell (p := ⟨wr.heap.size, 5, none⟩) (Nat.le_refl _) (.int .i64 (laid lay part))
            refine (HF.out { x with i := laid lay part } _ (Tr.below hB5)).mono ?_
            rintro e w6 ⟨p6, c6, rfl, hs6, hb6⟩
            have hB6 := hB5.trans (hb6.mono hB5.size)
            go_wp2_with (at_builtin; refine wpList_app (by rfl) (.tmp 29) (.tmp 32) 37 40 i0 z0 48 (by rfl) Tryd.underlying37 J1.out J2.out J4.out J5.out J3.out w.heap.size _ _ (by rfl) (by rfl) (hO.keep hB6) hs6 (fun _ _ _ h => h) (by omega) (by decide) (Nat.le_trans hB.size hB6.size) ?_; intro p7 c7 w7 hO7 hg7 _)
            go_roundw
            case rel => exact ⟨k + 1, out ++ lay { x with i := laid lay part }, by omega, by go_num, by simpa using hO7, by rw [List.length_append]; omega, by have := HS.out; rw [HX.out, relay_cons, skip_yes HBR.out, HN.out, Int.toNat_natCast, HP.out] at this; rw [List.append_assoc]; exact this, HI2.out, (hB.trans (hB6.mono hB.size)).grown hg7 (Nat.le_trans hB.size hB6.size) (fun q hq => (hO.lt q hq).1)⟩
            case measure => simp [intOf]; omega
      · go_wp2
        go_ret
        have e : out = relay lay l := by have := HS.out; rw [List.drop_of_length_le (by omega)] at this; simpa [relay] using this
        subst e
        exact ⟨_, _, rfl, SlA.mono (fun b h => by rcases h with h | h; exact h; exact h.elim) hO.sl, hB⟩
end Go.Proofs.YtpmecgagbjphdaaDoor
