/- The contract of order.Of. -/
import Derived.Test.YtpgbedaonjfpnaaOrdAll
namespace Go.Proofs.Ytpgbedaonjfpnaa
open Go.RowKit Go.Shelf
attribute [local go_sem] Ext.cell Ext.frozen

/-- i stands somewhere ahead of k. -/
def ahead2 : List Nat → Nat → Nat → Bool
  | [], _, _ => false
  | x :: t, i, k => (x == i && t.contains k) || ahead2 t i k
theorem ahead2_snoc : ∀ (l : List Nat) (z i k : Nat), ahead2 (l ++ [z]) i k = (ahead2 l i k || (k == z && l.contains i))
  | [], z, i, k => by simp [ahead2]
  | x :: t, z, i, k => by
    simp only [List.cons_append, ahead2, ahead2_snoc t z i k, List.contains_append, List.contains_cons, List.contains_nil, Bool.or_false]
    have : (x == i) = (i == x) := BEq.comm
    rw [this]
    cases (i == x) <;> cases (k == z) <;> cases t.contains k <;> cases ahead2 t i k <;> cases t.contains i <;> rfl
def ofO (n : Nat) (l : List Nat) : List Nat := mkR n (ahead2 l)

theorem putL_mk {n : Nat} {F : Nat → Nat → Bool} (hn : n ≤ 32) {i k : Nat} : putL (mkR n F) (i : Int) (k : Int) = mkR n (fun a b => F a b || (a == i && b == k)) := by
  unfold putL
  rw [mkR_sz _ hn]
  refine mkR_congr fun a b ha hb => ?_
  unfold putF
  rw [mkR_has _ hn]
  simp only [ha, hb, decide_true, Bool.true_and]
  congr 1
  rw [Bool.eq_iff_iff]
  simp
  omega

/-- A list of numbers is told, in new memory. -/
def TlN (w : World) (r : List Nat) (e : Ending) (w' : World) : Prop := ∃ p c, e = .returned (.slice p r.length c) ∧ SlA (fun b => w.heap.size ≤ b) U32E w' (.slice p r.length c) r ∧ Below w.heap.size w w'
theorem Told.n {w : World} {n : Nat} {f : Nat → Nat → Bool} {r : List Nat} (hr : mkR n f = r) (hn : n ≤ 32) (e : Ending) (w' : World) (h : Told w n f e w') : TlN w r e w' := by
  obtain ⟨b, rfl, hR, hb, hB⟩ := h
  subst hr
  have hS := hR.mk (A := fun b => w.heap.size ≤ b) hb hn
  exact ⟨some ⟨b, 0, none⟩, n, by rw [mkR_len], by rw [mkR_len]; exact hS, hB⟩
theorem New_n (w : World) (n : Int) : Calls Try.prog 14 #[.int .i64 n] w (TlN w (newL n)) := (New_any n w).mono fun e w' ⟨b, he, hR, hb, hB⟩ => Told.n (f := fun _ _ => false) rfl (newN_le n) e w' ⟨b, he, hR.congr fun i _ => by
    refine row_ext (Nat.two_pow_pos _) (rowN_lt _ _) fun k _ => ?_
    rw [rowN_bit]; simp, hb, hB⟩
theorem Put_n (p : Option Addr) (c : Nat) (xs : List Nat) (w : World) (hx : Sl U32E w (.slice p xs.length c) xs) (i k : Int) : Calls Try.prog 21 #[.slice p xs.length c, .int .i64 i, .int .i64 k] w (TlN w (putL xs i k)) := (Put_any p c xs i k w hx).mono (Told.n rfl (szR_le xs))

/-- The things of a list that may be, each once. -/
def Seen (n : Nat) (t s : List Nat) : Prop := s.Nodup ∧ ∀ x, x ∈ s ↔ x ∈ t ∧ x < n
theorem Seen.len {n : Nat} {t s : List Nat} (h : Seen n t s) : s.length ≤ n := by
  have h1 : ∀ a ∈ s, a ∈ List.range n := fun a ha => by simpa using ((h.2 a).1 ha).2
  have := List.Nodup.length_le_of_subset h.1 (fun a ha => h1 a ha)
  simpa using this

/-- With z behind the first q of those seen. -/
def ofS (t : List Nat) (sn : List Nat) (z q : Nat) : Nat → Nat → Bool := fun a b => ahead2 t a b || (b == z && (sn.take q).contains a)
theorem ofS_zero (n : Nat) (t sn : List Nat) (z : Nat) : mkR n (ofS t sn z 0) = mkR n (ahead2 t) := mkR_congr fun a b _ _ => by simp [ofS]
theorem ofS_step {n : Nat} {t sn : List Nat} {z q : Nat} (hq : q < sn.length) : mkR n (ofS t sn z (q + 1)) = mkR n (fun a b => ofS t sn z q a b || (a == sn[q] && b == z)) := mkR_congr fun a b _ _ => by
  unfold ofS
  rw [List.take_succ_eq_append_getElem hq, List.contains_append, List.contains_cons, List.contains_nil]
  cases ahead2 t a b <;> cases (b == z) <;> cases (List.take q sn).contains a <;> cases (a == sn[q]) <;> rfl
theorem ofS_same {n : Nat} {t sn : List Nat} {z q : Nat} (hq : q < sn.length) (h : ofS t sn z q sn[q] z = true) : mkR n (ofS t sn z (q + 1)) = mkR n (ofS t sn z q) := by
  rw [ofS_step hq]
  refine mkR_congr fun a b _ _ => ?_
  by_cases ha : a = sn[q]
  · by_cases hb : b = z
    · subst ha hb; rw [h]; rfl
    · have : (b == z) = false := by rw [beq_eq_false_iff_ne]; exact hb
      rw [this, Bool.and_false, Bool.or_false]
  · have : (a == sn[q]) = false := by rw [beq_eq_false_iff_ne]; exact ha
    rw [this, Bool.false_and, Bool.or_false]
theorem ofS_all {n : Nat} {t sn : List Nat} {z : Nat} (hS : Seen n t sn) : mkR n (ofS t sn z sn.length) = mkR n (ahead2 (t ++ [z])) := mkR_congr fun a b ha _ => by
  unfold ofS
  rw [ahead2_snoc, List.take_length]
  congr 2
  rw [Bool.eq_iff_iff]
  simp only [List.contains_iff_mem]
  rw [hS.2 a]
  exact ⟨fun h => h.1, fun h => ⟨h, ha⟩⟩
theorem Seen.snoc {n : Nat} {t sn : List Nat} {z : Nat} (h : Seen n t sn) (hz : z < n) : Seen n (t ++ [z]) (if sn.contains z then sn else sn ++ [z]) := by
  split
  · rename_i hc
    have hm : z ∈ sn := by simpa using hc
    refine ⟨h.1, fun x => ?_⟩
    rw [h.2 x, List.mem_append, List.mem_singleton]
    constructor
    · rintro ⟨h1, h2⟩; exact ⟨.inl h1, h2⟩
    · rintro ⟨h1 | h1, h2⟩
      · exact ⟨h1, h2⟩
      · subst h1; exact ⟨((h.2 x).1 hm).1, h2⟩
  · rename_i hc
    have hm : z ∉ sn := by simpa using hc
    refine ⟨List.nodup_append.2 ⟨h.1, by simp, fun a ha b hb e => ?_⟩, fun x => ?_⟩
    · simp at hb; subst hb; subst e; exact hm ha
    · rw [List.mem_append, h.2 x, List.mem_append, List.mem_singleton]
      constructor
      · rintro (⟨h1, h2⟩ | h1)
        · exact ⟨.inl h1, h2⟩
        · subst h1; exact ⟨.inr rfl, hz⟩
      · rintro ⟨h1 | h1, h2⟩
        · exact .inl ⟨h1, h2⟩
        · exact .inr h1

set_option maxHeartbeats 4000000 in
theorem Of_any (p : Option Addr) (c n : Nat) (l : List Nat) (w : World) (hl : Sl NatE w (.slice p l.length c) l) (hn : n ≤ 32) (hll : l.length ≤ 1000000) : Calls Try.prog 15 #[.int .i64 (n : Int), .slice p l.length c] w (Tl w (ofO n l)) := by
  obtain ⟨i0, j1, j2, j3, j4⟩ := get_info info_intO
  have J1 : Hid _ := j1
  have J2 : Hid _ := j2
  have J3 : Hid _ := j3
  have J4 : Hid _ := j4
  clear j1 j2 j3 j4
  have C1 := New_n w (n : Int)
  have e0 : newL (n : Int) = mkR n (ahead2 []) := by
    unfold newL
    rw [newN_nat hn]
    rfl
  rw [e0] at C1
  clear e0
  have HLE : Hid _ := (show ∀ F, (mkR n F).length = n from fun F => mkR_len n F)
  go_enter Try.func15, Try.ntmps15
  go_wp2_with (go_at_call 14; refine C1.mono ?_; clear C1; rintro e w1 ⟨p1, c1, rfl, hr, hb1⟩; rw [HLE.out] at hr; simp only [HLE.out])
  go_loopw [5, 6, 15] (fun r s i wr => ∃ (k : Nat) (pr : Option Addr) (cr : Nat) (sn : List Nat), k ≤ l.length ∧ i = .int .i64 k ∧ r = .slice pr n cr ∧ SlA (fun b => s.ownBlock ≠ some b) U32E wr r (mkR n (ahead2 (l.take k))) ∧ Own (fun _ => False) NatE wr w.heap.size 3 s sn ∧ Seen n (l.take k) sn ∧ Below w.heap.size w wr) (fun _ _ i _ => l.length - (intOf i).toNat)
  case atStart => exact ⟨0, p1, c1, [], Nat.zero_le _, rfl, rfl, by simpa using SlA.mono (fun b _ => by simp [Value.ownBlock]) hr, Own.nil, ⟨List.nodup_nil, by simp⟩, hb1⟩
  case round =>
    obtain ⟨k, pr, cr, sn, hk, rfl, rfl, hrr, hO, hS, hB⟩ := hrel
    obtain ⟨w3, rfl⟩ : ∃ x : World, x = wr := ⟨_, rfl⟩
    obtain ⟨ps, cs, rfl⟩ := hO.len
    have HSN : Hid _ := hS
    have hsl : sn.length ≤ 32 := by have := hS.len; omega
    clear hS
    by_cases hlt : k < l.length
    · have hlt' : (k : Int) < (l.length : Int) := by omega
      obtain ⟨lb, lo, rfl, _, hlc⟩ := (nat_at (hl.keep hB)).2 k hlt
      have htake : l.take (k + 1) = l.take k ++ [l[k]] := List.take_succ_eq_append_getElem hlt
      have HTK : Hid _ := htake
      clear htake
      generalize hz : l[k] = z at *
      clear hz
      by_cases hzn : z < n
      · have hzn' : ¬ (n : Int) ≤ (z : Int) := by omega
        have hsnn : ∀ x ∈ sn, x < n := fun x hx => ((HSN.out.2 x).1 hx).2
        have HSNN : Hid _ := hsnn
        clear hsnn
        go_wp2
        go_loopw [5, 29] (fun r i wr => ∃ (q : Nat) (pr2 : Option Addr) (cr2 : Nat), q ≤ sn.length ∧ i = .int .i64 q ∧ r = .slice pr2 n cr2 ∧ SlA (fun b => (Value.slice ps sn.length cs).ownBlock ≠ some b) U32E wr r (mkR n (ofS (l.take k) sn z q)) ∧ Below w3.heap.size w3 wr) (fun _ i _ => sn.length - (intOf i).toNat)
        case atStart => exact ⟨0, pr, cr, Nat.zero_le _, rfl, rfl, by rw [ofS_zero]; exact hrr, Below.refl _ _⟩
        case round =>
          obtain ⟨q, pr2, cr2, hq, rfl, rfl, hr2, hB2⟩ := hrel
          have hO2 := hO.keep hB2
          have hBw := Below.thru hB hB2 (Nat.le_refl _)
          by_cases hqs : q < sn.length
          · have hqs' : (q : Int) < (sn.length : Int) := by omega
            obtain ⟨sb, so, rfl, _, hsc⟩ := (nat_at hO2.sl).2 q hqs
            have hxn := HSNN.out _ (List.getElem_mem hqs)
            have CH := Has_any pr2 cr2 (mkR n (ofS (l.take k) sn z q)) (sn[q] : Nat) (z : Int) wr (by rw [mkR_len]; exact hr2.any)
            rw [mkR_len, hasI_mk _ hn hxn hzn] at CH
            cases hh : ofS (l.take k) sn z q sn[q] z with
            | true =>
              rw [hh] at CH
              have HST : Hid _ := ofS_same (n := n) hqs hh
              clear hh
              generalize sn[q] = x at *
              go_wp2_with (go_at_call 27; refine CH.mono ?_; clear CH; rintro e w4 ⟨rfl, hb4⟩)
              go_roundw
              case rel => exact ⟨q + 1, pr2, cr2, by omega, by go_num, rfl, by rw [HST.out]; exact hr2.keep hb4, Below.thru hB2 hb4 (Nat.le_refl _)⟩
              case measure => simp [intOf]; omega
            | false =>
              rw [hh] at CH
              clear hh
              have CP := fun w4 (hb4 : Below wr.heap.size wr w4) => Put_n pr2 cr2 (mkR n (ofS (l.take k) sn z q)) w4 (by rw [mkR_len]; exact (hr2.keep hb4).any) (sn[q] : Nat) (z : Int)
              rw [mkR_len, putL_mk hn, ← ofS_step hqs] at CP
              have HCP : Hid _ := CP
              clear CP
              generalize sn[q] = x at *
              go_wp2_with (first
                | (go_at_call 27; refine CH.mono ?_; clear CH; rintro e w4 ⟨rfl, hb4⟩)
                | (go_at_call 21; refine (HCP.out w4 hb4).mono ?_; rintro e w5 ⟨p5, c5, rfl, hr5, hb5⟩; rw [HLE.out] at hr5; simp only [HLE.out]))
              go_roundw
              case rel => exact ⟨q + 1, p5, c5, by omega, by go_num, rfl, SlA.mono (fun b hb e => by have := (hO2.lt b e).2; have := hb4.size; omega) hr5, Below.thru (Below.thru hB2 hb4 (Nat.le_refl _)) hb5 (Nat.le_refl _)⟩
              case measure => simp [intOf]; omega
          · have eq : q = sn.length := by omega
            have hr3 : SlA (fun b => (Value.slice ps sn.length cs).ownBlock ≠ some b) U32E wr (.slice pr2 n cr2) (mkR n (ahead2 (l.take (k + 1)))) := by
              have h2 := hr2
              rw [HTK.out, ← ofS_all HSN.out]
              rw [eq] at h2
              exact h2
            have hS2 := Seen.snoc HSN.out hzn
            rw [← HTK.out] at hS2
            clear eq hr2
            have CC := Contains_nat ps cs sn z wr hO2.sl.any (by omega)
            cases hc : sn.contains z with
            | true =>
              rw [hc] at CC hS2
              rw [if_pos rfl] at hS2
              clear hc
              go_wp2_with (go_at_call 28; refine CC.mono ?_; clear CC; rintro e w4 ⟨rfl, hb4⟩)
              go_roundw
              case rel => exact ⟨k + 1, pr2, cr2, sn, by omega, by go_num, rfl, hr3.keep hb4, hO2.keep hb4, hS2, Below.thru hBw hb4 (Nat.le_refl _)⟩
              case measure => simp [intOf]; omega
            | false =>
              rw [hc] at CC hS2
              rw [if_neg (by simp)] at hS2
              clear hc
              have HS2 : Hid _ := hS2
              clear hS2
              go_wp2_with (first
                | (go_at_call 28; refine CC.mono ?_; clear CC; rintro e w4 ⟨rfl, hb4⟩; have hb5 := hb4.alloc hb4.size (.cells #[.int .i64 (z : Int)] 3); have hB5 := Below.thru hBw hb5 (Nat.le_refl _); have hz5 := hB5.size)
                | (at_builtin; refine wpList_appB (R := NatE) (A := fun _ => False) (B := fun _ => True) (xs := sn) (ys := [z]) (by rfl) (.tmp 47) (.tmp 49) 24 3 i0 (.int .i64 0) 8 (by rfl) Try.underlying24 J1.out J2.out J3.out J4.out (by rfl) w.heap.size (.slice ps sn.length cs) (.slice (some ⟨w4.heap.size, 0, none⟩) 1 1) (by rfl) (by rfl) (hO2.keep hb5) (sl_nat1 trivial (by simp)) (fun _ _ _ h => h) (by simp only [List.length_cons, List.length_nil]; unfold maxLen; omega) (by simp only [List.length_cons, List.length_nil]; omega) hz5 ?_; intro p6 k6 w6 hO6 hg6 hw6))
              have hr6 : SlA (fun b => (Value.slice p6 (sn.length + 1) k6).ownBlock ≠ some b) U32E w6 (.slice pr2 n cr2) (mkR n (ahead2 (l.take (k + 1)))) := SlA.mono (fun b hb e => by
                rw [show (sn ++ [z]).length = sn.length + 1 by simp] at hw6
                rcases hw6 with h | h
                · exact hb.1 (h ▸ e)
                · rw [h] at e; injection e with e; simp at e; omega) ((hr3.keep hb4).lt.keep ((Below.refl _ _).alloc (Nat.le_refl _) _) |>.agree (grownBy_agree hg6 fun b hb e => hb.1 e.symm))
              go_roundw
              case rel => exact ⟨k + 1, pr2, cr2, sn ++ [z], by omega, by go_num, rfl, hr6, by simpa using hO6, HS2.out, hB5.grown hg6 hz5 (fun q e => (hO2.lt q e).1)⟩
              case measure => simp [intOf]; omega
      · have hzn' : (n : Int) ≤ (z : Int) := by omega
        have e1 : mkR n (ahead2 (l.take (k + 1))) = mkR n (ahead2 (l.take k)) := mkR_congr fun i j hi hj => by
          rw [HTK.out, ahead2_snoc]
          have : (j == z) = false := by rw [beq_eq_false_iff_ne]; omega
          rw [this]; simp
        have e2 : Seen n (l.take (k + 1)) sn := ⟨HSN.out.1, fun x => by
          rw [HTK.out, HSN.out.2 x, List.mem_append, List.mem_singleton]
          constructor
          · rintro ⟨h1, h2⟩; exact ⟨.inl h1, h2⟩
          · rintro ⟨h1 | h1, h2⟩
            · exact ⟨h1, h2⟩
            · omega⟩
        have HE1 : Hid _ := e1
        clear e1
        go_wp2
        go_roundw
        case rel => exact ⟨k + 1, pr, cr, sn, by omega, by go_num, rfl, by rw [HE1.out]; exact hrr, hO, e2, hB⟩
        case measure => simp [intOf]; omega
    · have ek : Hid _ := (show l.take k = l from List.take_of_length_le (by omega))
      go_wp2
      go_ret
      have := hrr.any
      rw [ek.out] at this
      exact ⟨pr, cr, by rw [show (ofO n l).length = n from mkR_len _ _]; rfl, by rw [show (ofO n l).length = n from mkR_len _ _]; exact this, hB⟩
end Go.Proofs.Ytpgbedaonjfpnaa
