/- The contract of order.linear's closure that calls itself: by what is left to place. -/
import Derived.Test.YtpgbedaonjfpnaaOrdGo
namespace Go.Proofs.Ytpgbedaonjfpnaa
open Go.RowKit
attribute [local go_sem] Ext.cell Ext.frozen

theorem elemInts : Try.prog.elem 24 = 3 := by kernel_rfl
theorem cut_last {q : Option Addr} {n d : Nat} (h : n + 1 ≤ d) : ∀ w, (Instr.slice 24 (.slice q (n + 1) d) none (some (.int .i64 (n : Int))) none).run Try.prog w = .ok (.slice q n d) w := by
  intro w
  have hs : ∀ w, (Go.sizeOf (Try.prog.elem 24)).run Try.prog w = .ok 1 w := fun w => by rw [elemInts]; exact Try.sizeOf3 w
  rw [run_slice_h (ht := Try.underlying24) (h0 := by omega) (h2 := by omega), hs]
  simp [sliced, Result.andThen]
  intro _
  cases q <;> simp [Addr.add]
theorem or_mask {l : List Nat} {k : Nat} (hl : ∀ a ∈ l, a < 32) (hk : k < 32) : bits .or .u32 (mask l : Nat) ((2 : Int) ^ k % 4294967296) = ((mask (l ++ [k]) : Nat) : Int) := by
  rw [pow_u32 hk, or_u32 (mask_lt hl) (Nat.lt_of_lt_of_le (Nat.pow_lt_pow_right (by decide) hk) (by decide)), mask_snoc]

section
variable (J Jx : (Nat → Prop) → List (List Nat × Nat) → World → Prop) (lp N : Nat) (xs : List Nat) (bb ba by' bg base : Nat) (pa : Option Addr) (ca : Nat) (C : Nat → Prop)

/-- Between two rounds of the closure's loop. -/
def GoRel (W : World) (A : Nat → Prop) (vb : Value) (l : List Nat) (pre : List (List Nat × Nat)) (m k : Nat) (wr : World) : Prop :=
  ∃ A' vb' items, ItRun 24 3 base bb W A vb wr A' vb' l ∧ items.map Prod.fst ++ extFrom (szR xs) (hasR xs) m l k = extF (szR xs) (hasR xs) (m + 1) l ∧ J A' (pre ++ items) wr

set_option maxRecDepth 100000 in
set_option maxHeartbeats 4000000 in
theorem goOn_any (hJ : Stays J) (hJx : Stays Jx) (hY : Yields Try.prog 3 lp N J Jx) : ∀ (m : Nat) (l : List Nat) (W : World) (A : Nat → Prop) (vb : Value) (pre : List (List Nat × Nat)), l.length + m = szR xs → (∀ a ∈ l, a < szR xs) →
    ItFix 37 33 61 62 W (invL xs) bb ba by' bg lp pa ca C → ItInv 24 3 base bb C W A vb l → J A pre W → pre.length + (extF (szR xs) (hasR xs) m l).length ≤ N →
    Calls Try.prog 37 #[.int .u32 (mask l : Nat), .pointer (some ⟨bb, 0, none⟩), .pointer (some ⟨ba, 0, none⟩), .pointer (some ⟨by', 0, none⟩), .pointer (some ⟨bg, 0, none⟩)] W (GoEnds J Jx bb base W A vb l pre (extF (szR xs) (hasR xs) m l)) := by
  intro m
  induction m with
  | zero =>
    intro l W A vb pre hl _ F I hj hN
    exact goEnd_any J Jx lp N xs bb ba by' bg base pa ca C hJ hY l W A vb pre hl F I hj hN
  | succ m ih =>
    intro l W A vb pre hl hlt F I hj hN
    obtain ⟨i0, j1, j2, j3, j4⟩ := get_info info_intO
    have J1 : Hid _ := j1
    have J2 : Hid _ := j2
    have J3 : Hid _ := j3
    have J4 : Hid _ := j4
    clear j1 j2 j3 j4
    have h32 := szR_le xs
    have hlt32 : ∀ a ∈ l, a < 32 := fun a ha => by have := hlt a ha; omega
    have hpl := mask_lt hlt32
    have hmay := fun k => may_stands (xs := xs) hlt k
    have hor : ∀ k, k < szR xs → bits .or .u32 (mask l : Nat) ((2 : Int) ^ k % 4294967296) = ((mask (l ++ [k]) : Nat) : Int) := fun k hk => or_mask hlt32 (by omega)
    have il := inv_len xs
    have t1 : ((l.length : Int) == ((invL xs).length : Int)) = false := by rw [il, ← hl]; simp; omega
    have hll : l.length ≤ 32 := by omega
    have IH : Hid _ := ih
    clear ih
    have HL : Hid _ := hl
    clear hl
    have HLT : Hid _ := hlt
    clear hlt hlt32
    have HMAY : Hid _ := hmay
    clear hmay
    have HOR : Hid _ := hor
    clear hor
    have HN : Hid _ := hN
    clear hN
    have HIL : Hid _ := il
    clear il
    have HJ : Hid _ := hJ
    have HJx : Hid _ := hJx
    clear hJ hJx hY
    have hr0 : GoRel J xs bb base W A vb l pre m 0 W := ⟨A, vb, [], I.refl, by simp [extFrom_all], by simpa using hj⟩
    generalize hrs : invL xs = rs at *
    clear hrs
    have hrl : rs.length ≤ 32 := by have := HIL.out; omega
    generalize hplE : mask l = pl at *
    clear hplE
    obtain ⟨pb, cb, rfl⟩ := I.own.len
    have c1 := I.blk.cell 0
    have c2 := F.ahead.cell 0
    simp only [List.getElem?_toArray, List.getElem?_cons_zero] at c1 c2
    generalize hvb : Value.slice pb l.length cb = vb at *
    have HVB : Hid _ := hvb
    rw [← hvb] at c1
    clear hvb
    go_enter Try.func37, Try.ntmps37
    go_wp2
    clear c1 c2
    go_loopw [20] (fun i wr => ∃ k : Nat, k ≤ rs.length ∧ i = .int .i64 k ∧ GoRel J xs bb base W A vb l pre m k wr) (fun i _ => rs.length - (intOf i).toNat)
    case atStart => exact ⟨0, Nat.zero_le _, rfl, hr0⟩
    case round =>
      obtain ⟨k, hk, rfl, A1, vb1, items, R1, hit, hj1⟩ := hrel
      have I1 := I.run R1
      have F1 := F.agree (I.agree R1)
      have HIT : Hid _ := hit
      clear hit
      by_cases hlt : k < rs.length
      · have hlt' : (k : Int) < (rs.length : Int) := by omega
        have c2 := F1.ahead.cell 0
        simp only [List.getElem?_toArray, List.getElem?_cons_zero] at c2
        have hkn : k < szR xs := by have := HIL.out; omega
        have hm := HMAY.out k
        have C1 := mayStand_any pa ca rs k pl wr F1.sl.any hrl hpl
        rw [hm, decide_eq_true hkn, Bool.true_and] at C1
        clear hm
        cases hs : stands (szR xs) (hasR xs) l k with
        | false =>
          rw [hs] at C1
          have HS : Hid _ := hs
          clear hs
          go_wp2_with (go_at_call 26; refine C1.mono ?_; clear C1; rintro e w3 ⟨rfl, hb3⟩)
          go_roundw
          case rel => exact ⟨k + 1, by omega, by go_num, A1, vb1, items, R1.trans (I1.grow hb3), by rw [← HIT.out, extFrom_no hkn HS.out], HJ.out _ _ _ _ hj1 (Below.only hb3)⟩
          case measure => simp [intOf]; omega
        | true =>
          rw [hs] at C1
          have HS : Hid _ := hs
          clear hs
          obtain ⟨p1, k1, rfl⟩ := I1.own.len
          have c1 := I1.blk.cell 0
          have f1 := I1.blk.frozen 0
          simp only [List.getElem?_toArray, List.getElem?_cons_zero] at c1
          have hI1 : Hid _ := I1
          have hF1 : Hid _ := F1
          clear F1
          go_wp2_with (first
            | (go_at_call 26; refine C1.mono ?_; clear C1; rintro e w3 ⟨rfl, hb3⟩; have c3 := cell_keep c1 hb3; have f3 := (I1.blk.keep hb3).frozen 0; clear c1 f1 I1; have hb4 := hb3.alloc hb3.size (.cells #[.int .i64 (k : Int)] 3); have hsz4 : base ≤ (w3.alloc (.cells #[.int .i64 (k : Int)] 3)).heap.size := (Nat.le_trans hI1.out.base hb4.size))
            | (at_builtin; refine wpList_appB (R := NatE) (A := fun _ => False) (B := fun _ => True) (xs := l) (ys := [k]) (by rfl) (.tmp 28) (.tmp 30) 24 3 i0 (.int .i64 0) 8 (by rfl) Try.underlying24 J1.out J2.out J3.out J4.out (by rfl) base (.slice p1 l.length k1) (.slice (some ⟨w3.heap.size, 0, none⟩) 1 1) (by rfl) (by rfl) ((hI1.out.own.keepG (Below.grownBy hb4) (fun _ _ => by simp)).own) (sl_nat1 trivial (by simp)) (fun _ _ _ h => h) (by simp only [List.length_cons, List.length_nil]; unfold maxLen; omega) (by simp only [List.length_cons, List.length_nil]; omega) hsz4 ?_; intro p6 k6 w6 hO6 hg6 hw6; have B6 := Blk.grown (hI1.out.blk.keep hb4) hg6 (fun e => (hI1.out.dv bb e.symm).2 rfl); have c6 := B6.cell 0; have f6 := B6.frozen 0; simp only [List.getElem?_toArray, List.getElem?_cons_zero] at c6))
          have R2 := hI1.out.step hb4 hg6 hO6.n hw6
          have hj2 := HJ.out _ _ _ _ hj1 (hI1.out.step_only (v := .slice p6 (l ++ [k]).length k6) hb4 hg6)
          have I2 := hI1.out.run R2
          have F2 := hF1.out.agree (hI1.out.agree R2)
          have R12 := R1.trans R2
          have HV2 : Hid _ := (show (Value.slice p6 (l ++ [k]).length k6) = .slice p6 (l.length + 1) k6 by simp)
          rw [HV2.out] at R2 hj2 I2 F2 R12
          clear hg6 hO6 hw6 B6 c6 f6 c3 f3 hI1 hF1 R1 R2
          generalize w6.setCell ⟨bb, 0, none⟩ (.slice p6 (l.length + 1) k6) = w7 at *
          clear hb4 hsz4 hb3
          have hne : ∀ w, Nonempty (Ext w) := ext_some
          have hne2 : Nonempty AnyW := anyW_some
          have cg := F2.go.cell 0
          have lg := F2.go.lt
          simp only [List.getElem?_toArray, List.getElem?_cons_zero] at cg
          have hk32 : k < 32 := by omega
          have hk63 : (k : Int) ≤ 9223372036854775807 := by omega
          refine wp_region_mixL [([0, 1, 2, 3, 4], 5, true)] [6] [5] (by kernel_rfl) (by kernel_rfl) (fun _ _ d _ _ h => by cases d <;> exact h) ?_
          dsimp only [List.map, mapL, opAt]
          refine wpMixL_stage ?_
          repeat (go_big_quiet_step (fail))
          refine wpQuiet_nil ?_
          rw [HOR.out k hkn]
          have hd := (Below.refl w7.heap.size w7).drew
          have R3 := I2.grow hd
          have hj3 := HJ.out _ _ _ _ hj2 (Below.only hd)
          have I3 := I2.run R3
          have F3 := F2.agree (I2.agree R3)
          have R13 := R12.trans R3
          clear R12 R3 F2 I2 hj2 cg lg hd
          have hyes := @extFrom_yes _ (hasR xs) m l k hkn HS.out
          have hcnt := congrArg List.length HIT.out
          have hcnt2 := congrArg List.length hyes
          simp only [List.length_append, List.length_map] at hcnt hcnt2
          have CC := IH.out (l ++ [k]) w7.drew A1 (.slice p6 (l.length + 1) k6) (pre ++ items) (by have := HL.out; simp; omega) (fun a ha => by
            rcases List.mem_append.1 ha with h | h
            · exact HLT.out a h
            · simp at h; omega) F3 I3 hj3 (by have := HN.out; simp only [List.length_append]; omega)
          have HYES : Hid _ := hyes
          clear hcnt hcnt2 hyes hj3
          go_wp2_with (go_at_call 37; refine CC.mono ?_; clear CC; rintro e w8 ⟨b8, rfl, A8, vb8, items8, R8, ho8⟩)
          refine ⟨.inl trivial, ?_⟩
          refine wpMixL_last ?_
          repeat (go_big_quiet_step (fail))
          refine wpQuiet_nil ?_
          have I8 := I3.run R8
          have R18 := R13.trans R8
          obtain ⟨p8, k8, rfl⟩ := I8.own.len
          obtain ⟨g8, rfl, hk8, hpop⟩ := OwnN.pop I8.own
          have c8 := I8.blk.cell 0
          have f8 := I8.blk.frozen 0
          simp only [List.getElem?_toArray, List.getElem?_cons_zero, List.length_append, List.length_cons, List.length_nil, Nat.zero_add] at c8
          have hcut := cut_last (q := some ⟨g8, 0, none⟩) hk8
          have R9 := I8.step (Below.refl _ _) ⟨rfl, rfl, rfl, Nat.le_refl _, fun _ _ _ => rfl⟩ hpop (.inl rfl)
          have o9 := I8.step_only (v := .slice (some ⟨g8, 0, none⟩) l.length k8) (Below.refl _ _) ⟨rfl, rfl, rfl, Nat.le_refl _, fun _ _ _ => rfl⟩
          have R19 := R18.trans R9
          clear R18 R9 R13 R8 I8 hpop I3 F3
          have HO8 : Hid _ := ho8
          clear ho8
          cases b8 with
          | true =>
            go_wp2
            obtain ⟨h1, h2⟩ | ⟨h1, _⟩ := HO8.out
            · go_roundw
              case rel => exact ⟨k + 1, by omega, by go_num, A8, _, items ++ items8, R19, by rw [← HIT.out, HYES.out, List.map_append, h2.1, List.append_assoc], HJ.out _ _ _ _ (by rw [← List.append_assoc]; exact h2.2) o9⟩
              case measure => simp [intOf]; omega
            · cases h1
          | false =>
            go_wp2
            obtain ⟨h1, _⟩ | ⟨h1, h2⟩ := HO8.out
            · cases h1
            · go_ret
              exact ⟨false, rfl, A8, _, items ++ items8, R19, .inr ⟨rfl, by rw [← HIT.out, HYES.out, List.map_append]; obtain ⟨t, ht⟩ := h2.1; exact ⟨t ++ extFrom (szR xs) (hasR xs) m l (k + 1), by rw [← ht]; simp⟩, HJx.out _ _ _ _ (by rw [← List.append_assoc]; exact h2.2) o9⟩⟩
      · have e : k = szR xs := by have := HIL.out; omega
        have HE : Hid _ := e
        clear e
        go_wp2
        go_ret
        refine ⟨true, rfl, A1, vb1, items, R1, .inl ⟨rfl, ?_, hj1⟩⟩
        have := HIT.out
        rw [HE.out, extFrom_end, List.append_nil] at this
        exact this
end
end Go.Proofs.Ytpgbedaonjfpnaa
