/- ExecC: ExecRep, ExecRefFine, ExecRefSame, ExecOwn, ExecForm, in one text. -/
import Derived.Test.YtcalinfdckklfaaGreatDoorPk11
import Derived.Test.YtcalinfdckklfaaGreatDoorPk9
import Derived.Test.YtcalinfdckklfaaGreatDoorPk13
import Derived.Test.YtcalinfdckklfaaGreatDoorPk14
import Derived.Test.YtcalinfdckklfaaGreatDoorPk7
namespace Go.Proofs.YtcalinfdckklfaaGreatDoor
open Go.RowKit
attribute [local go_sem] Ext.cell Ext.frozen

def tgC (r : Nat → Value) (t : Tr) : Array Value := #[r 0, r 1, r 2, r 3, r 4, .int .i64 (t.v 0), .int .i64 (t.v 1), .int .i64 (t.v 2), .int .i64 (t.v 3), .int .u32 (t.d 0), .int .u32 (t.d 1), .int .u32 (t.d 2), .int .u32 (t.d 3), .int .i64 t.vs, .int .i64 t.ls, .int .i64 t.mo]
/-- Its rows, in blocks of A. -/
structure TgZ (A : Nat → Prop) (w : World) (r : Nat → Value) (s : Tr) : Prop where
  e0 : SlA A EvE w (r 0) s.evs
  e1 : SlA A MskE w (r 1) s.ad
  e2 : SlA A MskE w (r 2) s.da
  e3 : SlA A MskE w (r 3) s.ct
  e4 : SlA A IntE w (r 4) s.pa
section
variable {A B : Nat → Prop} {w w' : World} {r : Nat → Value} {s : Tr}
theorem TgZ.agree (h : TgZ A w r s) (ha : Agree A w w') : TgZ A w' r s := ⟨h.e0.agree ha, h.e1.agree ha, h.e2.agree ha, h.e3.agree ha, h.e4.agree ha⟩
theorem TgZ.keep (h : TgZ A w r s) (hb : Below w.heap.size w w') : TgZ A w' r s := h.agree (Below.agree hb)
theorem TgZ.mono (hAB : ∀ b, A b → B b) (h : TgZ A w r s) : TgZ B w r s := ⟨h.e0.mono hAB, h.e1.mono hAB, h.e2.mono hAB, h.e3.mono hAB, h.e4.mono hAB⟩
theorem TgZ.lt (h : TgZ A w r s) : TgZ (fun b => A b ∧ b < w.heap.size) w r s := ⟨h.e0.lt, h.e1.lt, h.e2.lt, h.e3.lt, h.e4.lt⟩
theorem TgZ.one (h : TgZ A w r s) : (tgC r s).all (·.oneCell') = true := by
  obtain ⟨p0, c0, h0⟩ := h.e0.len
  obtain ⟨p1, c1, h1⟩ := h.e1.len
  obtain ⟨p2, c2, h2⟩ := h.e2.len
  obtain ⟨p3, c3, h3⟩ := h.e3.len
  obtain ⟨p4, c4, h4⟩ := h.e4.len
  simp [tgC, Value.oneCell', h0, h1, h2, h3, h4]
end
theorem TrZ.tg {A : Nat → Prop} {w : World} {r : Nat → Value} {s : St} (h : TrZ A w r s) : TgZ A w r s.tr := ⟨h.e0, h.e1, h.e2, h.e3, h.e4⟩
def TgE : Elem Tr where
  size := 16
  pos := by decide
  cs := fun A w s c => ∃ r, c = (tgC r s).toList ∧ TgZ A w r s
  len := fun ⟨_, h, _⟩ => by subst h; rfl
  one := fun ⟨r, h, hz⟩ u hu => by
    subst h
    have := hz.one
    rw [Array.all_eq_true'] at this
    exact this u (by simpa using hu)
  keep := fun ⟨r, h, hz⟩ hw => ⟨r, h, hz.agree hw⟩
  mono := fun hAB ⟨r, h, hz⟩ => ⟨r, h, hz.mono hAB⟩
  lt := fun ⟨r, h, hz⟩ => ⟨r, h, hz.lt⟩
theorem sl_tg {A : Nat → Prop} {w : World} {v : Value} {xs : List St} (h : SlA A TrE w v xs) : SlA A TgE w v (xs.map St.tr) := by
  obtain ⟨p, c, rfl, h1, h2⟩ := h
  refine ⟨p, c, by rw [List.length_map], by rw [List.length_map]; exact h1, fun hne => ?_⟩
  obtain ⟨b, o, hp, hA, h3⟩ := h2 (fun e => hne (by rw [e]; rfl))
  refine ⟨b, o, hp, hA, fun i hi => ?_⟩
  obtain ⟨cs, ⟨r, h4, h5⟩, h6⟩ := h3 i (by simpa using hi)
  refine ⟨cs, ⟨r, ?_, ?_⟩, h6⟩
  · rw [List.getElem_map]; exact h4
  · rw [List.getElem_map]; exact h5.tg
/-- The cells of a trace. -/
structure TgAt (w : World) (b o : Nat) (r : Nat → Value) (s : Tr) : Prop where
  c0 : w.cell? ⟨b, o, none⟩ = some (r 0)
  c1 : w.cell? ⟨b, o + 1, none⟩ = some (r 1)
  c2 : w.cell? ⟨b, o + 2, none⟩ = some (r 2)
  c3 : w.cell? ⟨b, o + 3, none⟩ = some (r 3)
  c4 : w.cell? ⟨b, o + 4, none⟩ = some (r 4)
  v0 : w.cell? ⟨b, o + 5, none⟩ = some (.int .i64 (s.v 0))
  v1 : w.cell? ⟨b, o + 6, none⟩ = some (.int .i64 (s.v 1))
  v2 : w.cell? ⟨b, o + 7, none⟩ = some (.int .i64 (s.v 2))
  v3 : w.cell? ⟨b, o + 8, none⟩ = some (.int .i64 (s.v 3))
  d0 : w.cell? ⟨b, o + 9, none⟩ = some (.int .u32 (s.d 0))
  d1 : w.cell? ⟨b, o + 10, none⟩ = some (.int .u32 (s.d 1))
  d2 : w.cell? ⟨b, o + 11, none⟩ = some (.int .u32 (s.d 2))
  d3 : w.cell? ⟨b, o + 12, none⟩ = some (.int .u32 (s.d 3))
  vs : w.cell? ⟨b, o + 13, none⟩ = some (.int .i64 s.vs)
  ls : w.cell? ⟨b, o + 14, none⟩ = some (.int .i64 s.ls)
  mo : w.cell? ⟨b, o + 15, none⟩ = some (.int .i64 s.mo)
theorem tg_at {A : Nat → Prop} {w : World} {p : Option Addr} {n c : Nat} {xs : List Tr} (h : SlA A TgE w (.slice p n c) xs) : n = xs.length ∧ ∀ k (hk : k < xs.length), ∃ b o r, p = some ⟨b, o, none⟩ ∧ A b ∧ TgZ A w r xs[k] ∧ TgAt w b (o + k * 16) r xs[k] := by
  obtain ⟨h1, h2⟩ := h.at
  refine ⟨h1, fun k hk => ?_⟩
  obtain ⟨b, o, rfl, hA, cs, ⟨r, h3, hz⟩, h4⟩ := h2 k hk
  subst h3
  exact ⟨b, o, r, rfl, hA, hz, ⟨h4 0 _ rfl, h4 1 _ rfl, h4 2 _ rfl, h4 3 _ rfl, h4 4 _ rfl, h4 5 _ rfl, h4 6 _ rfl, h4 7 _ rfl, h4 8 _ rfl, h4 9 _ rfl, h4 10 _ rfl, h4 11 _ rfl, h4 12 _ rfl, h4 13 _ rfl, h4 14 _ rfl, h4 15 _ rfl⟩⟩
/-- Sets of 32 bits. -/
def Rng (t : Tr) : Prop := (∀ m ∈ t.ad, 0 ≤ m ∧ m < 4294967296) ∧ (∀ m ∈ t.da, 0 ≤ m ∧ m < 4294967296) ∧ ∀ m ∈ t.ct, 0 ≤ m ∧ m < 4294967296
theorem nat_of {m : Int} (h : 0 ≤ m ∧ m < 4294967296) : ∃ x : Nat, m = (x : Int) ∧ x < 4294967296 := ⟨m.toNat, by omega, by omega⟩

set_option maxHeartbeats 1000000 in
theorem bit10_any (x k : Nat) (w : World) (hx : x < 4294967296) (hk : k ≤ 100) : Calls Tryz.prog 32 #[.int .u32 (x : Int), .int .i64 (k : Int)] w fun e w' => e = .returned (.bool (x.testBit k)) ∧ Below w.heap.size w w' := by
  go_enter Tryz.func32, Tryz.ntmps32
  go_wp2
  go_loopw [0, 5] (fun a i wr => ∃ j y : Nat, j ≤ k ∧ a = .int .u32 (y : Int) ∧ i = .int .i64 j ∧ y = x / 2 ^ j ∧ y < 4294967296 ∧ wr = w) (fun _ i _ => k - (intOf i).toNat)
  case atStart => exact ⟨0, x, Nat.zero_le _, rfl, rfl, by simp, hx, rfl⟩
  case round =>
    obtain ⟨j, y, hj, rfl, rfl, hy, hylt, rfl⟩ := hrel
    have HY : Hid _ := hy
    clear hy
    by_cases hlt : j < k
    · have hlt' : (j : Int) < (k : Int) := by omega
      go_wp2
      go_roundw
      case rel => exact ⟨j + 1, y / 2, by omega, by simp, by go_num, by rw [HY.out, Nat.div_div_eq_div_mul, Nat.pow_succ], by omega, by simp⟩
      case measure => simp [intOf]; omega
    · have e : j = k := by omega
      have hlt' : ¬ (j : Int) < (k : Int) := by omega
      subst e
      go_wp2
      go_ret
      have ht : x.testBit j = decide (y % 2 = 1) := by
        rw [Nat.testBit_eq_decide_div_mod_eq, HY.out]
      refine ⟨?_, Below.refl _ _⟩
      rw [ht]
      have e2 : decide (y % 2 = 1) = ((y : Int) % 2 == 1) := by
        rw [Bool.eq_iff_iff]; simp; omega
      rw [e2]
      rfl

theorem fine_no {t : Tr} (h : lensB t = false) : fineT t = false := by unfold fineT; rw [h]; rfl
theorem fine_bad {t : Tr} {i : Nat} (hi : i < t.evs.length) (h : okAt t i = false) : fineT t = false := by
  unfold fineT
  have : (List.range t.evs.length).all (okAt t) = false := by
    rw [List.all_eq_false]
    exact ⟨i, List.mem_range.2 hi, by simp [h]⟩
  rw [this, Bool.and_false]
theorem fine_yes {t : Tr} (h : lensB t = true) (ha : ∀ i, i < t.evs.length → okAt t i = true) : fineT t = true := by
  unfold fineT
  rw [h, Bool.true_and, List.all_eq_true]
  exact fun i hi => ha i (List.mem_range.1 hi)
theorem low_is {x i : Nat} (hx : x < 4294967296) : lowB (x : Int) i = true ↔ ∀ k, i ≤ k → k < 32 → x.testBit k = false := by
  unfold lowB
  rw [decide_eq_true_eq, Int.toNat_natCast]
  exact low_bits hx
theorem low_no {x i k : Nat} (hx : x < 4294967296) (h1 : i ≤ k) (h2 : k < 32) (h : x.testBit k = true) : lowB (x : Int) i = false := by
  cases hl : lowB (x : Int) i
  · rfl
  · have := (low_is hx).1 hl k h1 h2
    rw [this] at h
    cases h
end Go.Proofs.YtcalinfdckklfaaGreatDoor

namespace Go.Proofs.YtcalinfdckklfaaGreatDoor
open Go.RowKit
attribute [local go_sem] Ext.cell Ext.frozen

theorem lens_no {t : Tr} (h : ¬ (t.ad.length = t.evs.length ∧ t.da.length = t.evs.length ∧ t.ct.length = t.evs.length ∧ t.pa.length = t.evs.length)) : lensB t = false := by
  unfold lensB
  cases hb : (decide (t.ad.length = t.evs.length) && (decide (t.da.length = t.evs.length) && (decide (t.ct.length = t.evs.length) && decide (t.pa.length = t.evs.length))))
  · rfl
  · simp only [Bool.and_eq_true, decide_eq_true_eq] at hb
    exact absurd hb h
theorem lens_yes {t : Tr} (h1 : t.ad.length = t.evs.length) (h2 : t.da.length = t.evs.length) (h3 : t.ct.length = t.evs.length) (h4 : t.pa.length = t.evs.length) : lensB t = true := by
  unfold lensB
  rw [h1, h2, h3, h4]
  simp
theorem neB {a b : Nat} (h : a ≠ b) : ((a : Int) != (b : Int)) = true := by simp; omega
theorem eqB {a b : Nat} (h : a = b) : ((a : Int) != (b : Int)) = false := by subst h; simp

set_option maxRecDepth 20000 in
set_option maxHeartbeats 8000000 in
theorem refFine_any (r : Nat → Value) (t : Tr) (w : World) (hz : TgZ (fun _ => True) w r t) (hr : Rng t) (hn : t.evs.length ≤ 1000) :
    Calls Tryz.prog 31 #[.agg (tgC r t)] w fun e w' => e = .returned (.bool (fineT t)) ∧ Below w.heap.size w w' := by
  have hb1 := below_new w (.cells (tgC r t) 34)
  have k1 : Blk (w.alloc (.cells (tgC r t) 34)) w.heap.size (tgC r t) 34 := Blk.new
  have hz1 := hz.keep hb1
  obtain ⟨p0, c0, e0⟩ := hz1.e0.len
  obtain ⟨p1, c1, e1⟩ := hz1.e1.len
  obtain ⟨p2, c2, e2⟩ := hz1.e2.len
  obtain ⟨p3, c3, e3⟩ := hz1.e3.len
  obtain ⟨p4, c4, e4⟩ := hz1.e4.len
  have x0 : (w.alloc (.cells (tgC r t) 34)).cell? ⟨w.heap.size, 0, none⟩ = some (.slice p0 t.evs.length c0) := by rw [← e0]; exact (k1.cell 0).trans rfl
  have x1 : (w.alloc (.cells (tgC r t) 34)).cell? ⟨w.heap.size, 1, none⟩ = some (.slice p1 t.ad.length c1) := by rw [← e1]; exact (k1.cell 1).trans rfl
  have x2 : (w.alloc (.cells (tgC r t) 34)).cell? ⟨w.heap.size, 2, none⟩ = some (.slice p2 t.da.length c2) := by rw [← e2]; exact (k1.cell 2).trans rfl
  have x3 : (w.alloc (.cells (tgC r t) 34)).cell? ⟨w.heap.size, 3, none⟩ = some (.slice p3 t.ct.length c3) := by rw [← e3]; exact (k1.cell 3).trans rfl
  have x4 : (w.alloc (.cells (tgC r t) 34)).cell? ⟨w.heap.size, 4, none⟩ = some (.slice p4 t.pa.length c4) := by rw [← e4]; exact (k1.cell 4).trans rfl
  have s1 := hz1.e1
  have s2 := hz1.e2
  have s3 := hz1.e3
  have s4 := hz1.e4
  rw [e1] at s1
  rw [e2] at s2
  rw [e3] at s3
  rw [e4] at s4
  have lx := cell_lt x0
  have HR : Hid _ := hr
  clear hz hz1 e0 e1 e2 e3 e4 hr k1
  unfold tgC at *
  by_cases hl : t.ad.length = t.evs.length ∧ t.da.length = t.evs.length ∧ t.ct.length = t.evs.length ∧ t.pa.length = t.evs.length
  · obtain ⟨l1, l2, l3, l4⟩ := hl
    have b1 := eqB l1
    have b2 := eqB l2
    have b3 := eqB l3
    have b4 := eqB l4
    have HL : Hid (lensB t = true) := lens_yes l1 l2 l3 l4
    have L1 : Hid _ := l1
    have L2 : Hid _ := l2
    have L3 : Hid _ := l3
    have L4 : Hid _ := l4
    clear l1 l2 l3 l4
    go_enter Tryz.func31, Tryz.ntmps31
    go_wp2
    generalize w.alloc (.cells #[r 0, r 1, r 2, r 3, r 4, .int .i64 (t.v 0), .int .i64 (t.v 1), .int .i64 (t.v 2), .int .i64 (t.v 3), .int .u32 (t.d 0), .int .u32 (t.d 1), .int .u32 (t.d 2), .int .u32 (t.d 3), .int .i64 t.vs, .int .i64 t.ls, .int .i64 t.mo] 34) = w1 at *
    go_loopw [4] (fun i wr => ∃ k : Nat, k ≤ t.evs.length ∧ i = .int .i64 k ∧ (∀ j, j < k → okAt t j = true) ∧ Below w1.heap.size w1 wr) (fun i _ => t.evs.length - (intOf i).toNat)
    case atStart => exact ⟨0, Nat.zero_le _, rfl, fun j h => absurd h (Nat.not_lt_zero _), Below.refl _ _⟩
    case round =>
      obtain ⟨k, hk, rfl, hok, hbr⟩ := hrel
      have HK : Hid _ := hok
      clear hok
      have y1 := cell_keep x1 hbr
      have y2 := cell_keep x2 hbr
      have y3 := cell_keep x3 hbr
      have y4 := cell_keep x4 hbr
      have ly := cell_lt y1
      by_cases hlt : k < t.evs.length
      · obtain ⟨q1, o1, rfl, g1⟩ := (msk_at (s1.keep hbr)).2 k (by rw [L1.out]; exact hlt)
        obtain ⟨q2, o2, rfl, g2⟩ := (msk_at (s2.keep hbr)).2 k (by rw [L2.out]; exact hlt)
        obtain ⟨q3, o3, rfl, g3⟩ := (msk_at (s3.keep hbr)).2 k (by rw [L3.out]; exact hlt)
        obtain ⟨q4, o4, rfl, g4⟩ := (ints_at (s4.keep hbr)).2 k (by rw [L4.out]; exact hlt)
        have m1 : t.ad.getD k 0 = t.ad[k]'(by rw [L1.out]; exact hlt) := by rw [List.getD_eq_getElem?_getD, List.getElem?_eq_getElem (by rw [L1.out]; exact hlt)]; rfl
        have m2 : t.da.getD k 0 = t.da[k]'(by rw [L2.out]; exact hlt) := by rw [List.getD_eq_getElem?_getD, List.getElem?_eq_getElem (by rw [L2.out]; exact hlt)]; rfl
        have m3 : t.ct.getD k 0 = t.ct[k]'(by rw [L3.out]; exact hlt) := by rw [List.getD_eq_getElem?_getD, List.getElem?_eq_getElem (by rw [L3.out]; exact hlt)]; rfl
        have m4 : t.pa.getD k 0 = t.pa[k]'(by rw [L4.out]; exact hlt) := by rw [List.getD_eq_getElem?_getD, List.getElem?_eq_getElem (by rw [L4.out]; exact hlt)]; rfl
        obtain ⟨n1, hn1, hx1⟩ := nat_of (HR.out.1 _ (List.getElem_mem (by rw [L1.out]; exact hlt : k < t.ad.length)))
        obtain ⟨n2, hn2, hx2⟩ := nat_of (HR.out.2.1 _ (List.getElem_mem (by rw [L2.out]; exact hlt : k < t.da.length)))
        obtain ⟨n3, hn3, hx3⟩ := nat_of (HR.out.2.2 _ (List.getElem_mem (by rw [L3.out]; exact hlt : k < t.ct.length)))
        rw [hn1] at g1 m1
        rw [hn2] at g2 m2
        rw [hn3] at g3 m3
        generalize t.pa[k]'(by rw [L4.out]; exact hlt) = P at g4 m4
        have z1 := cell_lt g1
        have z2 := cell_lt g2
        have z3 := cell_lt g3
        have z4 := cell_lt g4
        have hOK : okAt t k = (lowB (n1 : Int) k && (lowB (n2 : Int) k && (lowB (n3 : Int) k && decide (P < (k : Int))))) := by unfold okAt; rw [m1, m2, m3, m4]
        have HOK : Hid _ := hOK
        have hlt1 : (k : Int) < (t.ad.length : Int) := by rw [L1.out]; omega
        have hlt2 : (k : Int) < (t.da.length : Int) := by rw [L2.out]; omega
        have hlt3 : (k : Int) < (t.ct.length : Int) := by rw [L3.out]; omega
        have hlt4 : (k : Int) < (t.pa.length : Int) := by rw [L4.out]; omega
        clear hOK m1 m2 m3 m4 hn1 hn2 hn3
        go_wp2
        obtain ⟨w2, hw2⟩ : ∃ x : World, x = wr := ⟨_, rfl⟩
        subst hw2
        go_loopw [5] (fun i wr => ∃ j : Nat, k ≤ j ∧ i = .int .i64 j ∧ (∀ m, k ≤ m → m < j → m < 32 → n1.testBit m = false ∧ n2.testBit m = false ∧ n3.testBit m = false) ∧ Below w2.heap.size w2 wr) (fun i _ => 32 - (intOf i).toNat)
        case atStart => exact ⟨k, Nat.le_refl _, rfl, fun m h1 h2 => by omega, Below.refl _ _⟩
        case round =>
          obtain ⟨j, hj, rfl, hbits, hbj⟩ := hrel
          have HB : Hid _ := hbits
          clear hbits
          have v1 := cell_keep y1 hbj
          have v2 := cell_keep y2 hbj
          have v3 := cell_keep y3 hbj
          have v4 := cell_keep y4 hbj
          have f1 := cell_keep g1 hbj
          have f2 := cell_keep g2 hbj
          have f3 := cell_keep g3 hbj
          have f4 := cell_keep g4 hbj
          have lv := cell_lt v1
          have lf1 := cell_lt f1
          have lf2 := cell_lt f2
          have lf3 := cell_lt f3
          have lf4 := cell_lt f4
          have Bj := Below.thru (Below.thru hb1 hbr (Nat.le_refl _)) hbj (Nat.le_refl _)
          by_cases hj32 : j < 32
          · have hj32' : (j : Int) < 32 := by omega
            have HW1 := fun W => bit10_any n1 j W hx1 (by omega)
            have HW2 := fun W => bit10_any n2 j W hx2 (by omega)
            have HW3 := fun W => bit10_any n3 j W hx3 (by omega)
            cases hv1 : n1.testBit j
            · cases hv2 : n2.testBit j
              · cases hv3 : n3.testBit j
                · rw [hv1] at HW1
                  rw [hv2] at HW2
                  rw [hv3] at HW3
                  have V1 : Hid _ := hv1
                  have V2 : Hid _ := hv2
                  have V3 : Hid _ := hv3
                  have G1 : Hid _ := HW1
                  have G2 : Hid _ := HW2
                  have G3 : Hid _ := HW3
                  clear hv1 hv2 hv3 HW1 HW2 HW3
                  have F1 := trivial
                  go_wp2_with (first
                    | (go_at_call 32; clear F1; refine (G1.out _).mono ?_; rintro e w5 ⟨rfl, hb5⟩; replace v2 := cell_keep v2 hb5; replace v3 := cell_keep v3 hb5; replace f2 := cell_keep f2 hb5; replace f3 := cell_keep f3 hb5; replace lv := cell_lt v2; replace lf2 := cell_lt f2; replace lf3 := cell_lt f3; have F2 := trivial)
                    | (go_at_call 32; clear F2; refine (G2.out _).mono ?_; rintro e w6 ⟨rfl, hb6⟩; replace v3 := cell_keep v3 hb6; replace f3 := cell_keep f3 hb6; replace lv := cell_lt v3; replace lf3 := cell_lt f3; have F3 := trivial)
                    | (go_at_call 32; clear F3; refine (G3.out _).mono ?_; rintro e w7 ⟨rfl, hb7⟩))
                  go_roundw
                  case rel =>
                    refine ⟨j + 1, by omega, by go_num, fun m h1 h2 h3 => ?_, Below.thru hbj (Below.thru (Below.thru hb5 hb6 (Nat.le_refl _)) hb7 (Nat.le_refl _)) (Nat.le_refl _)⟩
                    by_cases hm : m = j
                    · subst hm; exact ⟨V1.out, V2.out, V3.out⟩
                    · exact HB.out m h1 (by omega) h3
                  case measure => simp [intOf]; omega
                · have HZ : Hid (fineT t = false) := fine_bad hlt (by rw [HOK.out, low_no hx3 hj hj32 hv3]; simp)
                  rw [hv1] at HW1
                  rw [hv2] at HW2
                  rw [hv3] at HW3
                  have G1 : Hid _ := HW1
                  have G2 : Hid _ := HW2
                  have G3 : Hid _ := HW3
                  clear hv1 hv2 hv3 HW1 HW2 HW3
                  have F1 := trivial
                  go_wp2_with (first
                    | (go_at_call 32; clear F1; refine (G1.out _).mono ?_; rintro e w5 ⟨rfl, hb5⟩; replace v2 := cell_keep v2 hb5; replace v3 := cell_keep v3 hb5; replace f2 := cell_keep f2 hb5; replace f3 := cell_keep f3 hb5; replace lv := cell_lt v2; replace lf2 := cell_lt f2; replace lf3 := cell_lt f3; have F2 := trivial)
                    | (go_at_call 32; clear F2; refine (G2.out _).mono ?_; rintro e w6 ⟨rfl, hb6⟩; replace v3 := cell_keep v3 hb6; replace f3 := cell_keep f3 hb6; replace lv := cell_lt v3; replace lf3 := cell_lt f3; have F3 := trivial)
                    | (go_at_call 32; clear F3; refine (G3.out _).mono ?_; rintro e w7 ⟨rfl, hb7⟩))
                  go_ret
                  exact ⟨by rw [HZ.out]; rfl, Below.thru Bj (Below.thru (Below.thru hb5 hb6 (Nat.le_refl _)) hb7 (Nat.le_refl _)) (Nat.le_refl _)⟩
              · have HZ : Hid (fineT t = false) := fine_bad hlt (by rw [HOK.out, low_no hx2 hj hj32 hv2]; simp)
                rw [hv1] at HW1
                rw [hv2] at HW2
                have G1 : Hid _ := HW1
                have G2 : Hid _ := HW2
                clear hv1 hv2 HW1 HW2 HW3
                have F1 := trivial
                go_wp2_with (first
                  | (go_at_call 32; clear F1; refine (G1.out _).mono ?_; rintro e w5 ⟨rfl, hb5⟩; replace v2 := cell_keep v2 hb5; replace v3 := cell_keep v3 hb5; replace f2 := cell_keep f2 hb5; replace f3 := cell_keep f3 hb5; replace lv := cell_lt v2; replace lf2 := cell_lt f2; replace lf3 := cell_lt f3; have F2 := trivial)
                  | (go_at_call 32; clear F2; refine (G2.out _).mono ?_; rintro e w6 ⟨rfl, hb6⟩))
                go_ret
                exact ⟨by rw [HZ.out]; rfl, Below.thru Bj (Below.thru hb5 hb6 (Nat.le_refl _)) (Nat.le_refl _)⟩
            · have HZ : Hid (fineT t = false) := fine_bad hlt (by rw [HOK.out, low_no hx1 hj hj32 hv1]; simp)
              rw [hv1] at HW1
              have G1 : Hid _ := HW1
              clear hv1 HW1 HW2 HW3
              have F1 := trivial
              go_wp2_with (first
                | (go_at_call 32; clear F1; refine (G1.out _).mono ?_; rintro e w5 ⟨rfl, hb5⟩))
              go_ret
              exact ⟨by rw [HZ.out]; rfl, Below.thru Bj hb5 (Nat.le_refl _)⟩
          · have hj32' : ¬ (j : Int) < 32 := by omega
            have q1 : lowB (n1 : Int) k = true := (low_is hx1).2 fun m h1 h2 => (HB.out m h1 (by omega) h2).1
            have q2 : lowB (n2 : Int) k = true := (low_is hx2).2 fun m h1 h2 => (HB.out m h1 (by omega) h2).2.1
            have q3 : lowB (n3 : Int) k = true := (low_is hx3).2 fun m h1 h2 => (HB.out m h1 (by omega) h2).2.2
            have hOK := HOK.out
            rw [q1, q2, q3, Bool.true_and, Bool.true_and, Bool.true_and] at hOK
            by_cases hP : P < (k : Int)
            · have hP' : ¬ (k : Int) ≤ P := by omega
              rw [decide_eq_true hP] at hOK
              have HOK2 : Hid _ := hOK
              clear hOK q1 q2 q3 hP
              go_wp2
              go_roundw
              case rel =>
                refine ⟨k + 1, by omega, by go_num, fun m hm => ?_, Below.thru hbr hbj (Nat.le_refl _)⟩
                by_cases hmk : m = k
                · subst hmk; exact HOK2.out
                · exact HK.out m (by omega)
              case measure => simp [intOf]; omega
            · have hP' : (k : Int) ≤ P := by omega
              rw [decide_eq_false hP] at hOK
              have HZ : Hid (fineT t = false) := fine_bad hlt hOK
              clear hOK q1 q2 q3 hP
              go_wp2
              go_ret
              exact ⟨by rw [HZ.out]; rfl, Bj⟩
      · have hk' : k = t.evs.length := by omega
        have e : fineT t = true := fine_yes HL.out (fun i hi => HK.out i (by omega))
        have HE : Hid _ := e
        have hlt' : ¬ (k : Int) < (t.evs.length : Int) := by omega
        clear e hk'
        go_wp2
        go_ret
        exact ⟨by rw [HE.out]; rfl, Below.thru hb1 hbr (Nat.le_refl _)⟩
  · have HF : Hid (fineT t = false) := fine_no (lens_no hl)
    by_cases l1 : t.ad.length = t.evs.length
    · have b1 := eqB l1
      by_cases l2 : t.da.length = t.evs.length
      · have b2 := eqB l2
        by_cases l3 : t.ct.length = t.evs.length
        · have b3 := eqB l3
          have b4 : ((t.pa.length : Int) != (t.evs.length : Int)) = true := neB (fun h => hl ⟨l1, l2, l3, h⟩)
          clear hl l1 l2 l3
          go_enter Tryz.func31, Tryz.ntmps31
          go_wp2
          go_ret
          exact ⟨by rw [HF.out]; rfl, hb1⟩
        · have b3 := neB l3
          clear hl l1 l2 l3
          go_enter Tryz.func31, Tryz.ntmps31
          go_wp2
          go_ret
          exact ⟨by rw [HF.out]; rfl, hb1⟩
      · have b2 := neB l2
        clear hl l1 l2
        go_enter Tryz.func31, Tryz.ntmps31
        go_wp2
        go_ret
        exact ⟨by rw [HF.out]; rfl, hb1⟩
    · have b1 := neB l1
      clear hl l1
      go_enter Tryz.func31, Tryz.ntmps31
      go_wp2
      go_ret
      exact ⟨by rw [HF.out]; rfl, hb1⟩
end Go.Proofs.YtcalinfdckklfaaGreatDoor

namespace Go.Proofs.YtcalinfdckklfaaGreatDoor
open Go.RowKit
attribute [local go_sem] Ext.cell Ext.frozen

def exC (r : Nat → Value) : Array Value := #[r 0, r 1, r 2, r 3, r 4, r 5, r 6]
structure ExZ (A : Nat → Prop) (w : World) (r : Nat → Value) (x : Ex) : Prop where
  e0 : SlA A EvE w (r 0) x.evs
  e1 : SlA A U32E w (r 1) x.po
  e2 : SlA A U32E w (r 2) x.ad
  e3 : SlA A U32E w (r 3) x.da
  e4 : SlA A U32E w (r 4) x.ct
  e5 : SlA A U32E w (r 5) x.rm
  e6 : SlA A (SlE IntE) w (r 6) x.regs
section
variable {A B : Nat → Prop} {w w' : World} {r : Nat → Value} {x : Ex}
theorem ExZ.agree (h : ExZ A w r x) (ha : Agree A w w') : ExZ A w' r x := ⟨h.e0.agree ha, h.e1.agree ha, h.e2.agree ha, h.e3.agree ha, h.e4.agree ha, h.e5.agree ha, h.e6.agree ha⟩
theorem ExZ.keep (h : ExZ A w r x) (hb : Below w.heap.size w w') : ExZ A w' r x := h.agree (Below.agree hb)
theorem ExZ.mono (hAB : ∀ b, A b → B b) (h : ExZ A w r x) : ExZ B w r x := ⟨h.e0.mono hAB, h.e1.mono hAB, h.e2.mono hAB, h.e3.mono hAB, h.e4.mono hAB, h.e5.mono hAB, h.e6.mono hAB⟩
theorem ExZ.lt (h : ExZ A w r x) : ExZ (fun b => A b ∧ b < w.heap.size) w r x := ⟨h.e0.lt, h.e1.lt, h.e2.lt, h.e3.lt, h.e4.lt, h.e5.lt, h.e6.lt⟩
theorem ExZ.any (h : ExZ A w r x) : ExZ (fun _ => True) w r x := h.mono fun _ _ => trivial
theorem ExZ.one (h : ExZ A w r x) : (exC r).all (·.oneCell') = true := by
  obtain ⟨p0, c0, h0⟩ := h.e0.len
  obtain ⟨p1, c1, h1⟩ := h.e1.len
  obtain ⟨p2, c2, h2⟩ := h.e2.len
  obtain ⟨p3, c3, h3⟩ := h.e3.len
  obtain ⟨p4, c4, h4⟩ := h.e4.len
  obtain ⟨p5, c5, h5⟩ := h.e5.len
  obtain ⟨p6, c6, h6⟩ := h.e6.len
  simp [exC, Value.oneCell', h0, h1, h2, h3, h4, h5, h6]
end
def ExE : Elem Ex where
  size := 7
  pos := by decide
  cs := fun A w s c => ∃ r, c = (exC r).toList ∧ ExZ A w r s
  len := fun ⟨_, h, _⟩ => by subst h; rfl
  one := fun ⟨r, h, hz⟩ u hu => by
    subst h
    have := hz.one
    rw [Array.all_eq_true'] at this
    exact this u (by simpa using hu)
  keep := fun ⟨r, h, hz⟩ hw => ⟨r, h, hz.agree hw⟩
  mono := fun hAB ⟨r, h, hz⟩ => ⟨r, h, hz.mono hAB⟩
  lt := fun ⟨r, h, hz⟩ => ⟨r, h, hz.lt⟩
structure ExAt (w : World) (b o : Nat) (r : Nat → Value) : Prop where
  c0 : w.cell? ⟨b, o, none⟩ = some (r 0)
  c1 : w.cell? ⟨b, o + 1, none⟩ = some (r 1)
  c2 : w.cell? ⟨b, o + 2, none⟩ = some (r 2)
  c3 : w.cell? ⟨b, o + 3, none⟩ = some (r 3)
  c4 : w.cell? ⟨b, o + 4, none⟩ = some (r 4)
  c5 : w.cell? ⟨b, o + 5, none⟩ = some (r 5)
  c6 : w.cell? ⟨b, o + 6, none⟩ = some (r 6)
theorem ex_at {A : Nat → Prop} {w : World} {p : Option Addr} {n c : Nat} {xs : List Ex} (h : SlA A ExE w (.slice p n c) xs) : n = xs.length ∧ ∀ k (hk : k < xs.length), ∃ b o r, p = some ⟨b, o, none⟩ ∧ A b ∧ ExZ A w r xs[k] ∧ ExAt w b (o + k * 7) r := by
  obtain ⟨h1, h2⟩ := h.at
  refine ⟨h1, fun k hk => ?_⟩
  obtain ⟨b, o, rfl, hA, cs, ⟨r, h3, hz⟩, h4⟩ := h2 k hk
  subst h3
  exact ⟨b, o, r, rfl, hA, hz, ⟨h4 0 _ rfl, h4 1 _ rfl, h4 2 _ rfl, h4 3 _ rfl, h4 4 _ rfl, h4 5 _ rfl, h4 6 _ rfl⟩⟩

set_option maxRecDepth 20000 in
set_option maxHeartbeats 4000000 in
theorem Nums10_is (p q : Option Addr) (c d : Nat) (xs : List (List Int)) (w : World) (hx : Sl (SlE IntE) w (.slice p xs.length c) xs) (hy : Sl (SlE IntE) w (.slice q xs.length d) xs) (hn : xs.length ≤ 1000000) (hl : ∀ l ∈ xs, l.length ≤ 1000000) :
    Calls Tryz.prog 38 #[.slice p xs.length c, .slice q xs.length d] w fun e w' => e = .returned (.bool true) ∧ Below w.heap.size w w' := by
  have hnn : ((xs.length : Int) != (xs.length : Int)) = false := by simp
  have hne : ∀ w, Nonempty (Ext w) := ext_some
  have HL : Hid _ := hl
  clear hl
  go_enter Tryz.func38, Tryz.ntmps38
  go_wp2
  go_loopw [5] (fun i wr => ∃ k : Nat, k ≤ xs.length ∧ i = .int .i64 k ∧ Below w.heap.size w wr) (fun i _ => xs.length - (intOf i).toNat)
  case atStart => exact ⟨0, Nat.zero_le _, rfl, Below.refl _ _⟩
  case round =>
    obtain ⟨k, hk, rfl, hbr⟩ := hrel
    by_cases hlt : k < xs.length
    · have hlt' : (k : Int) < (xs.length : Int) := by omega
      obtain ⟨b1, o1, rfl, u1, g1, hU1⟩ := (sl_at (hx.keep hbr)).2 k hlt
      obtain ⟨b2, o2, rfl, u2, g2, hU2⟩ := (sl_at (hy.keep hbr)).2 k hlt
      have hll := HL.out _ (List.getElem_mem hlt)
      generalize xs[k] = l at hU1 hU2 hll
      obtain ⟨p1, c1, rfl⟩ := hU1.len
      obtain ⟨p2, c2, rfl⟩ := hU2.len
      have l1 := cell_lt g1
      have l2 := cell_lt g2
      have hln : ((l.length : Int) != (l.length : Int)) = false := by simp
      go_wp2
      refine wp_region_ext (by kernel_rfl) (by kernel_rfl) ?_
      repeat (go_big_quiet_step (fail))
      refine wpQuiet_nil ?_
      rintro _ ⟨rr, rfl⟩
      have h6 := rr.ok
      generalize rr.wd = w6 at *
      replace g1 := cell_keep g1 h6
      replace g2 := cell_keep g2 h6
      replace hU1 := hU1.keep h6
      replace hU2 := hU2.keep h6
      have B6 := Below.thru hbr h6 (Nat.le_refl _)
      clear l1 l2 h6 hbr
      have l1 := cell_lt g1
      have l2 := cell_lt g2
      go_wp2
      obtain ⟨wo, hwo⟩ : ∃ x : World, x = wr := ⟨_, rfl⟩
      subst hwo
      go_loopw [6] (fun i wr => ∃ j : Nat, j ≤ l.length ∧ i = .int .i64 j ∧ Below w6.heap.size w6 wr) (fun i _ => l.length - (intOf i).toNat)
      case atStart => exact ⟨0, Nat.zero_le _, rfl, Below.refl _ _⟩
      case round =>
        obtain ⟨j, hj, rfl, hbj⟩ := hrel
        have q1 := cell_keep g1 hbj
        have q2 := cell_keep g2 hbj
        have lq1 := cell_lt q1
        have lq2 := cell_lt q2
        by_cases hjl : j < l.length
        · have hjl' : (j : Int) < (l.length : Int) := by omega
          obtain ⟨b3, o3, rfl, f1⟩ := (ints_at (hU1.keep hbj)).2 j hjl
          obtain ⟨b4, o4, rfl, f2⟩ := (ints_at (hU2.keep hbj)).2 j hjl
          generalize l[j] = y at f1 f2
          have lf1 := cell_lt f1
          have lf2 := cell_lt f2
          have hyy : (y != y) = false := by simp
          go_wp2
          refine wp_region_ext (by kernel_rfl) (by kernel_rfl) ?_
          repeat (go_big_quiet_step (fail))
          refine wpQuiet_nil ?_
          rintro _ ⟨rr, rfl⟩
          have h7 := rr.ok
          generalize rr.wd = w7 at *
          go_wp2
          go_roundw
          case rel => exact ⟨j + 1, by omega, by go_num, Below.thru hbj h7 (Nat.le_refl _)⟩
          case measure => simp [intOf]; omega
        · have hjl' : ¬ (j : Int) < (l.length : Int) := by omega
          go_wp2
          go_roundw
          case rel => exact ⟨k + 1, by omega, by go_num, Below.thru B6 hbj (Nat.le_refl _)⟩
          case measure => simp [intOf]; omega
    · have hlt' : ¬ (k : Int) < (xs.length : Int) := by omega
      go_wp2
      go_ret
      exact ⟨rfl, hbr⟩

set_option maxRecDepth 20000 in
set_option maxHeartbeats 8000000 in
theorem Same10_is (r q : Nat → Value) (x : Ex) (w : World) (h1 : ExZ (fun _ => True) w r x) (h2 : ExZ (fun _ => True) w q x) (hn : x.evs.length ≤ 1000000) (hr : x.regs.length ≤ 1000000) (hl : ∀ l ∈ x.regs, l.length ≤ 1000000) :
    Calls Tryz.prog 10 #[.agg (exC r), .agg (exC q)] w fun e w' => e = .returned (.bool true) ∧ Below w.heap.size w w' := by
  obtain ⟨p0, c0, e0⟩ := h1.e0.len
  obtain ⟨q0, d0, f0⟩ := h2.e0.len
  obtain ⟨p1, c1, e1⟩ := h1.e1.len
  obtain ⟨q1, d1, f1⟩ := h2.e1.len
  obtain ⟨p2, c2, e2⟩ := h1.e2.len
  obtain ⟨q2, d2, f2⟩ := h2.e2.len
  obtain ⟨p3, c3, e3⟩ := h1.e3.len
  obtain ⟨q3, d3, f3⟩ := h2.e3.len
  obtain ⟨p4, c4, e4⟩ := h1.e4.len
  obtain ⟨q4, d4, f4⟩ := h2.e4.len
  obtain ⟨p5, c5, e5⟩ := h1.e5.len
  obtain ⟨q5, d5, f5⟩ := h2.e5.len
  obtain ⟨p6, c6, e6⟩ := h1.e6.len
  obtain ⟨q6, d6, f6⟩ := h2.e6.len
  have s0 := h1.e0
  have t0 := h2.e0
  rw [e0] at s0
  rw [f0] at t0
  have s1 := h1.e1
  have t1 := h2.e1
  rw [e1] at s1
  rw [f1] at t1
  have s2 := h1.e2
  have t2 := h2.e2
  rw [e2] at s2
  rw [f2] at t2
  have s3 := h1.e3
  have t3 := h2.e3
  rw [e3] at s3
  rw [f3] at t3
  have s4 := h1.e4
  have t4 := h2.e4
  rw [e4] at s4
  rw [f4] at t4
  have s5 := h1.e5
  have t5 := h2.e5
  rw [e5] at s5
  rw [f5] at t5
  have s6 := h1.e6
  have t6 := h2.e6
  rw [e6] at s6
  rw [f6] at t6
  unfold exC
  rw [e0, e1, e2, e3, e4, e5, e6, f0, f1, f2, f3, f4, f5, f6]
  clear h1 h2 e0 f0 e1 f1 e2 f2 e3 f3 e4 f4 e5 f5 e6 f6
  have HS0 := fun W (hb : Below w.heap.size w W) => Events_is _ _ x.evs W (s0.keep hb) (t0.keep hb) hn
  have HS1 := fun W (hb : Below w.heap.size w W) => rSame_t _ _ _ _ _ _ W (s1.keep hb) (t1.keep hb) rfl
  have HS2 := fun W (hb : Below w.heap.size w W) => rSame_t _ _ _ _ _ _ W (s2.keep hb) (t2.keep hb) rfl
  have HS3 := fun W (hb : Below w.heap.size w W) => rSame_t _ _ _ _ _ _ W (s3.keep hb) (t3.keep hb) rfl
  have HS4 := fun W (hb : Below w.heap.size w W) => rSame_t _ _ _ _ _ _ W (s4.keep hb) (t4.keep hb) rfl
  have HS5 := fun W (hb : Below w.heap.size w W) => rSame_t _ _ _ _ _ _ W (s5.keep hb) (t5.keep hb) rfl
  have HS6 := fun W (hb : Below w.heap.size w W) => Nums10_is _ _ _ _ x.regs W (s6.keep hb) (t6.keep hb) hr hl
  have HS0 : Hid _ := HS0
  have HS1 : Hid _ := HS1
  have HS2 : Hid _ := HS2
  have HS3 : Hid _ := HS3
  have HS4 : Hid _ := HS4
  have HS5 : Hid _ := HS5
  have HS6 : Hid _ := HS6
  clear s0 t0 s1 t1 s2 t2 s3 t3 s4 t4 s5 t5 s6 t6
  obtain ⟨w1, hw1⟩ : ∃ w1, w1 = w.alloc (.cells #[.slice p0 x.evs.length c0, .slice p1 x.po.length c1, .slice p2 x.ad.length c2, .slice p3 x.da.length c3, .slice p4 x.ct.length c4, .slice p5 x.rm.length c5, .slice p6 x.regs.length c6] 47) := ⟨_, rfl⟩
  have k1 : Blk w1 w.heap.size #[.slice p0 x.evs.length c0, .slice p1 x.po.length c1, .slice p2 x.ad.length c2, .slice p3 x.da.length c3, .slice p4 x.ct.length c4, .slice p5 x.rm.length c5, .slice p6 x.regs.length c6] 47 := by rw [hw1]; exact Blk.new
  have b1 : Below w.heap.size w w1 := by rw [hw1]; exact below_new _ _
  have u1 : w1.heap.size = w.heap.size + 1 := by rw [hw1]; simp
  obtain ⟨w2, hw2⟩ : ∃ w2, w2 = w1.alloc (.cells #[.slice q0 x.evs.length d0, .slice q1 x.po.length d1, .slice q2 x.ad.length d2, .slice q3 x.da.length d3, .slice q4 x.ct.length d4, .slice q5 x.rm.length d5, .slice q6 x.regs.length d6] 47) := ⟨_, rfl⟩
  have k2 : Blk w2 (w.heap.size + 1) #[.slice q0 x.evs.length d0, .slice q1 x.po.length d1, .slice q2 x.ad.length d2, .slice q3 x.da.length d3, .slice q4 x.ct.length d4, .slice q5 x.rm.length d5, .slice q6 x.regs.length d6] 47 := by rw [hw2]; exact Blk.newAt u1
  have b2 : Below w1.heap.size w1 w2 := by rw [hw2]; exact below_new _ _
  have B2 := Below.thru b1 b2 (Nat.le_refl _)
  replace k1 := k1.keep b2
  have x0 : w2.cell? ⟨w.heap.size, 0, none⟩ = some (.slice p0 x.evs.length c0) := (k1.cell 0).trans rfl
  have y0 : w2.cell? ⟨w.heap.size + 1, 0, none⟩ = some (.slice q0 x.evs.length d0) := (k2.cell 0).trans rfl
  have x1 : w2.cell? ⟨w.heap.size, 1, none⟩ = some (.slice p1 x.po.length c1) := (k1.cell 1).trans rfl
  have y1 : w2.cell? ⟨w.heap.size + 1, 1, none⟩ = some (.slice q1 x.po.length d1) := (k2.cell 1).trans rfl
  have x2 : w2.cell? ⟨w.heap.size, 2, none⟩ = some (.slice p2 x.ad.length c2) := (k1.cell 2).trans rfl
  have y2 : w2.cell? ⟨w.heap.size + 1, 2, none⟩ = some (.slice q2 x.ad.length d2) := (k2.cell 2).trans rfl
  have x3 : w2.cell? ⟨w.heap.size, 3, none⟩ = some (.slice p3 x.da.length c3) := (k1.cell 3).trans rfl
  have y3 : w2.cell? ⟨w.heap.size + 1, 3, none⟩ = some (.slice q3 x.da.length d3) := (k2.cell 3).trans rfl
  have x4 : w2.cell? ⟨w.heap.size, 4, none⟩ = some (.slice p4 x.ct.length c4) := (k1.cell 4).trans rfl
  have y4 : w2.cell? ⟨w.heap.size + 1, 4, none⟩ = some (.slice q4 x.ct.length d4) := (k2.cell 4).trans rfl
  have x5 : w2.cell? ⟨w.heap.size, 5, none⟩ = some (.slice p5 x.rm.length c5) := (k1.cell 5).trans rfl
  have y5 : w2.cell? ⟨w.heap.size + 1, 5, none⟩ = some (.slice q5 x.rm.length d5) := (k2.cell 5).trans rfl
  have x6 : w2.cell? ⟨w.heap.size, 6, none⟩ = some (.slice p6 x.regs.length c6) := (k1.cell 6).trans rfl
  have y6 : w2.cell? ⟨w.heap.size + 1, 6, none⟩ = some (.slice q6 x.regs.length d6) := (k2.cell 6).trans rfl
  have lx := cell_lt x0
  have ly := cell_lt y0
  have HW1 : Hid _ := hw1
  have HW2 : Hid _ := hw2
  clear hw1 hw2 k1 k2 b1 b2 u1
  have F0 := trivial
  go_enter Tryz.func10, Tryz.ntmps10
  go_wp2_with (first
    | (go_at_call 37; clear F0; rw [← HW1.out, ← HW2.out]; refine (HS0.out _ B2).mono ?_; rintro e z0 ⟨rfl, hb0⟩; have Z0 := Below.thru B2 hb0 (Nat.le_refl _); replace x0 := cell_keep x0 hb0; replace y0 := cell_keep y0 hb0; replace x1 := cell_keep x1 hb0; replace y1 := cell_keep y1 hb0; replace x2 := cell_keep x2 hb0; replace y2 := cell_keep y2 hb0; replace x3 := cell_keep x3 hb0; replace y3 := cell_keep y3 hb0; replace x4 := cell_keep x4 hb0; replace y4 := cell_keep y4 hb0; replace x5 := cell_keep x5 hb0; replace y5 := cell_keep y5 hb0; replace x6 := cell_keep x6 hb0; replace y6 := cell_keep y6 hb0; replace lx := cell_lt x0; replace ly := cell_lt y0; have F1 := trivial)
    | (go_at_call 12; clear F1; refine (HS1.out _ Z0).mono ?_; rintro e z1 ⟨rfl, hb1⟩; have Z1 := Below.thru Z0 hb1 (Nat.le_refl _); replace x0 := cell_keep x0 hb1; replace y0 := cell_keep y0 hb1; replace x1 := cell_keep x1 hb1; replace y1 := cell_keep y1 hb1; replace x2 := cell_keep x2 hb1; replace y2 := cell_keep y2 hb1; replace x3 := cell_keep x3 hb1; replace y3 := cell_keep y3 hb1; replace x4 := cell_keep x4 hb1; replace y4 := cell_keep y4 hb1; replace x5 := cell_keep x5 hb1; replace y5 := cell_keep y5 hb1; replace x6 := cell_keep x6 hb1; replace y6 := cell_keep y6 hb1; replace lx := cell_lt x0; replace ly := cell_lt y0; have F2 := trivial)
    | (go_at_call 12; clear F2; refine (HS2.out _ Z1).mono ?_; rintro e z2 ⟨rfl, hb2⟩; have Z2 := Below.thru Z1 hb2 (Nat.le_refl _); replace x0 := cell_keep x0 hb2; replace y0 := cell_keep y0 hb2; replace x1 := cell_keep x1 hb2; replace y1 := cell_keep y1 hb2; replace x2 := cell_keep x2 hb2; replace y2 := cell_keep y2 hb2; replace x3 := cell_keep x3 hb2; replace y3 := cell_keep y3 hb2; replace x4 := cell_keep x4 hb2; replace y4 := cell_keep y4 hb2; replace x5 := cell_keep x5 hb2; replace y5 := cell_keep y5 hb2; replace x6 := cell_keep x6 hb2; replace y6 := cell_keep y6 hb2; replace lx := cell_lt x0; replace ly := cell_lt y0; have F3 := trivial)
    | (go_at_call 12; clear F3; refine (HS3.out _ Z2).mono ?_; rintro e z3 ⟨rfl, hb3⟩; have Z3 := Below.thru Z2 hb3 (Nat.le_refl _); replace x0 := cell_keep x0 hb3; replace y0 := cell_keep y0 hb3; replace x1 := cell_keep x1 hb3; replace y1 := cell_keep y1 hb3; replace x2 := cell_keep x2 hb3; replace y2 := cell_keep y2 hb3; replace x3 := cell_keep x3 hb3; replace y3 := cell_keep y3 hb3; replace x4 := cell_keep x4 hb3; replace y4 := cell_keep y4 hb3; replace x5 := cell_keep x5 hb3; replace y5 := cell_keep y5 hb3; replace x6 := cell_keep x6 hb3; replace y6 := cell_keep y6 hb3; replace lx := cell_lt x0; replace ly := cell_lt y0; have F4 := trivial)
    | (go_at_call 12; clear F4; refine (HS4.out _ Z3).mono ?_; rintro e z4 ⟨rfl, hb4⟩; have Z4 := Below.thru Z3 hb4 (Nat.le_refl _); replace x0 := cell_keep x0 hb4; replace y0 := cell_keep y0 hb4; replace x1 := cell_keep x1 hb4; replace y1 := cell_keep y1 hb4; replace x2 := cell_keep x2 hb4; replace y2 := cell_keep y2 hb4; replace x3 := cell_keep x3 hb4; replace y3 := cell_keep y3 hb4; replace x4 := cell_keep x4 hb4; replace y4 := cell_keep y4 hb4; replace x5 := cell_keep x5 hb4; replace y5 := cell_keep y5 hb4; replace x6 := cell_keep x6 hb4; replace y6 := cell_keep y6 hb4; replace lx := cell_lt x0; replace ly := cell_lt y0; have F5 := trivial)
    | (go_at_call 12; clear F5; refine (HS5.out _ Z4).mono ?_; rintro e z5 ⟨rfl, hb5⟩; have Z5 := Below.thru Z4 hb5 (Nat.le_refl _); replace x0 := cell_keep x0 hb5; replace y0 := cell_keep y0 hb5; replace x1 := cell_keep x1 hb5; replace y1 := cell_keep y1 hb5; replace x2 := cell_keep x2 hb5; replace y2 := cell_keep y2 hb5; replace x3 := cell_keep x3 hb5; replace y3 := cell_keep y3 hb5; replace x4 := cell_keep x4 hb5; replace y4 := cell_keep y4 hb5; replace x5 := cell_keep x5 hb5; replace y5 := cell_keep y5 hb5; replace x6 := cell_keep x6 hb5; replace y6 := cell_keep y6 hb5; replace lx := cell_lt x0; replace ly := cell_lt y0; have F6 := trivial)
    | (go_at_call 38; clear F6; refine (HS6.out _ Z5).mono ?_; rintro e z6 ⟨rfl, hb6⟩; have Z6 := Below.thru Z5 hb6 (Nat.le_refl _)))
  go_ret
  exact ⟨rfl, Z6⟩
end Go.Proofs.YtcalinfdckklfaaGreatDoor

namespace Go.Proofs.YtcalinfdckklfaaGreatDoor
open Go.RowKit
attribute [local go_sem] Ext.cell Ext.frozen

def poN (_ : Tr) (k : Nat) : Nat := 2 ^ k - 1
def adN (t : Tr) (k : Nat) : Nat := (t.ad.getD k 0).toNat
def daN (t : Tr) (k : Nat) : Nat := (t.da.getD k 0).toNat
def ctN (t : Tr) (k : Nat) : Nat := (t.ct.getD k 0).toNat
def prN (x : Int) : Nat := if x < 0 then 0 else 2 ^ x.toNat
def rmN (t : Tr) (k : Nat) : Nat := prN (t.pa.getD k (-1))
theorem fine_at {t : Tr} (h : fineT t = true) {k : Nat} (hk : k < t.evs.length) : okAt t k = true := by
  unfold fineT at h
  rw [Bool.and_eq_true, List.all_eq_true] at h
  exact h.2 _ (List.mem_range.2 hk)
theorem fine_len {t : Tr} (h : fineT t = true) : t.ad.length = t.evs.length ∧ t.da.length = t.evs.length ∧ t.ct.length = t.evs.length ∧ t.pa.length = t.evs.length := by
  unfold fineT lensB at h
  simp only [Bool.and_eq_true, decide_eq_true_eq] at h
  exact ⟨h.1.1, h.1.2.1, h.1.2.2.1, h.1.2.2.2⟩
theorem ok_bits {m k j : Nat} (h : m < 2 ^ k) : m.testBit j = (decide (j < k) && m.testBit j) := by
  by_cases hj : j < k
  · rw [decide_eq_true hj, Bool.true_and]
  · rw [decide_eq_false hj, Bool.false_and]
    exact Nat.testBit_lt_two_pow (Nat.lt_of_lt_of_le h (Nat.pow_le_pow_right (by decide) (by omega)))
theorem ah_po (t : Tr) : AhOk poS poN t := fun k _ j => by
  unfold poN poS
  rw [Nat.testBit_two_pow_sub_one, Bool.and_true]
theorem ah_ad {t : Tr} (h : fineT t = true) : AhOk adS adN t := fun k hk j => by
  have := fine_at h hk
  unfold okAt lowB at this
  simp only [Bool.and_eq_true, decide_eq_true_eq] at this
  exact ok_bits this.1
theorem ah_da {t : Tr} (h : fineT t = true) : AhOk daS daN t := fun k hk j => by
  have := fine_at h hk
  unfold okAt lowB at this
  simp only [Bool.and_eq_true, decide_eq_true_eq] at this
  exact ok_bits this.2.1
theorem ah_ct {t : Tr} (h : fineT t = true) : AhOk ctS ctN t := fun k hk j => by
  have := fine_at h hk
  unfold okAt lowB at this
  simp only [Bool.and_eq_true, decide_eq_true_eq] at this
  exact ok_bits this.2.2.1
theorem pa_get {t : Tr} (h : fineT t = true) {k : Nat} (hk : k < t.evs.length) : t.pa.getD k (-1) = t.pa.getD k 0 ∧ t.pa.getD k 0 < (k : Int) := by
  have h1 := fine_at h hk
  unfold okAt at h1
  simp only [Bool.and_eq_true, decide_eq_true_eq] at h1
  refine ⟨?_, h1.2.2.2⟩
  have h2 := (fine_len h).2.2.2
  rw [List.getD_eq_getElem?_getD, List.getD_eq_getElem?_getD, List.getElem?_eq_getElem (by omega)]
  rfl
theorem ah_rm {t : Tr} (h : fineT t = true) : AhOk rmS rmN t := fun k hk j => by
  obtain ⟨h1, h2⟩ := pa_get h hk
  unfold rmN rmS prN
  rw [h1]
  generalize t.pa.getD k 0 = P at *
  by_cases hn : P < 0
  · rw [if_pos hn, Nat.zero_testBit]
    have : (P == (j : Int)) = false := by rw [beq_eq_false_iff_ne]; omega
    rw [this, Bool.and_false]
  · rw [if_neg hn, Nat.testBit_two_pow]
    rw [Bool.eq_iff_iff]
    simp
    omega

set_option maxRecDepth 20000 in
set_option maxHeartbeats 1000000 in
theorem pair_any (x : Int) (w : World) (hx : x < 32) : Calls Tryz.prog 29 #[.int .i64 x] w fun e w' => e = .returned (.int .u32 (prN x : Nat)) ∧ Below w.heap.size w w' := by
  by_cases h : x < 0
  · have e : prN x = 0 := if_pos h
    rw [e]
    clear e
    go_enter Tryz.func29, Tryz.ntmps29
    go_wp2
    go_ret
    exact ⟨rfl, Below.refl _ _⟩
  · obtain ⟨n, rfl⟩ : ∃ n : Nat, x = (n : Int) := ⟨x.toNat, by omega⟩
    have e : prN (n : Int) = 2 ^ n := by unfold prN; rw [if_neg h]; rfl
    have hp := pow_u32 (k := n) (by omega)
    rw [e]
    clear e
    have HP : Hid _ := hp
    clear hp
    go_enter Tryz.func29, Tryz.ntmps29
    go_wp2
    go_ret
    exact ⟨by rw [HP.out]; simp, Below.refl _ _⟩

set_option maxRecDepth 20000 in
set_option maxHeartbeats 1000000 in
theorem aheadPo_any (r : Nat → Value) (t : Tr) (k : Nat) (w : World) (hk : k < 32) :
    Calls Tryz.prog 24 #[.agg (tgC r t), .int .i64 (k : Int)] w fun e w' => e = .returned (.int .u32 (poN t k : Nat)) ∧ Below w.heap.size w w' := by
  have hp := ones_u32 (n := k) (by omega)
  have hb1 := below_new w (.cells (tgC r t) 37)
  have HP : Hid _ := hp
  clear hp
  go_enter Tryz.func24, Tryz.ntmps24
  go_wp2
  go_ret
  exact ⟨by rw [HP.out]; rfl, hb1⟩

section
variable (r : Nat → Value) (t : Tr) (k : Nat) (w : World)

set_option maxRecDepth 20000 in
set_option maxHeartbeats 1000000 in
theorem aheadAd_any (hz : TgZ (fun _ => True) w r t) (hr : Rng t) (hk : k < t.ad.length) :
    Calls Tryz.prog 25 #[.agg (tgC r t), .int .i64 (k : Int)] w fun e w' => e = .returned (.int .u32 (adN t k : Nat)) ∧ Below w.heap.size w w' := by
  have hb1 := below_new w (.cells (tgC r t) 37)
  have k1 : Blk (w.alloc (.cells (tgC r t) 37)) w.heap.size (tgC r t) 37 := Blk.new
  have hs := (hz.keep hb1).e1
  obtain ⟨p1, c1, e1⟩ := hs.len
  have x1 : (w.alloc (.cells (tgC r t) 37)).cell? ⟨w.heap.size, 1, none⟩ = some (.slice p1 t.ad.length c1) := by rw [← e1]; exact (k1.cell 1).trans rfl
  rw [e1] at hs
  obtain ⟨q1, o1, rfl, g1⟩ := (msk_at hs).2 k hk
  obtain ⟨n1, hn1, -⟩ := nat_of (hr.1 _ (List.getElem_mem hk))
  have m1 : adN t k = n1 := by unfold adN; rw [List.getD_eq_getElem?_getD, List.getElem?_eq_getElem hk]; simp [hn1]
  rw [hn1] at g1
  rw [m1]
  have hlt1 : (k : Int) < (t.ad.length : Int) := by omega
  have lx := cell_lt x1
  have lg := cell_lt g1
  clear hz hs e1 k1 hn1 m1 hr
  unfold tgC at *
  go_enter Tryz.func25, Tryz.ntmps25
  go_wp2
  go_ret
  exact ⟨rfl, hb1⟩


set_option maxRecDepth 20000 in
set_option maxHeartbeats 1000000 in
theorem aheadDa_any (hz : TgZ (fun _ => True) w r t) (hr : Rng t) (hk : k < t.da.length) :
    Calls Tryz.prog 26 #[.agg (tgC r t), .int .i64 (k : Int)] w fun e w' => e = .returned (.int .u32 (daN t k : Nat)) ∧ Below w.heap.size w w' := by
  have hb1 := below_new w (.cells (tgC r t) 37)
  have k1 : Blk (w.alloc (.cells (tgC r t) 37)) w.heap.size (tgC r t) 37 := Blk.new
  have hs := (hz.keep hb1).e2
  obtain ⟨p1, c1, e1⟩ := hs.len
  have x1 : (w.alloc (.cells (tgC r t) 37)).cell? ⟨w.heap.size, 2, none⟩ = some (.slice p1 t.da.length c1) := by rw [← e1]; exact (k1.cell 2).trans rfl
  rw [e1] at hs
  obtain ⟨q1, o1, rfl, g1⟩ := (msk_at hs).2 k hk
  obtain ⟨n1, hn1, -⟩ := nat_of (hr.2.1 _ (List.getElem_mem hk))
  have m1 : daN t k = n1 := by unfold daN; rw [List.getD_eq_getElem?_getD, List.getElem?_eq_getElem hk]; simp [hn1]
  rw [hn1] at g1
  rw [m1]
  have hlt1 : (k : Int) < (t.da.length : Int) := by omega
  have lx := cell_lt x1
  have lg := cell_lt g1
  clear hz hs e1 k1 hn1 m1 hr
  unfold tgC at *
  go_enter Tryz.func26, Tryz.ntmps26
  go_wp2
  go_ret
  exact ⟨rfl, hb1⟩


set_option maxRecDepth 20000 in
set_option maxHeartbeats 1000000 in
theorem aheadCt_any (hz : TgZ (fun _ => True) w r t) (hr : Rng t) (hk : k < t.ct.length) :
    Calls Tryz.prog 27 #[.agg (tgC r t), .int .i64 (k : Int)] w fun e w' => e = .returned (.int .u32 (ctN t k : Nat)) ∧ Below w.heap.size w w' := by
  have hb1 := below_new w (.cells (tgC r t) 37)
  have k1 : Blk (w.alloc (.cells (tgC r t) 37)) w.heap.size (tgC r t) 37 := Blk.new
  have hs := (hz.keep hb1).e3
  obtain ⟨p1, c1, e1⟩ := hs.len
  have x1 : (w.alloc (.cells (tgC r t) 37)).cell? ⟨w.heap.size, 3, none⟩ = some (.slice p1 t.ct.length c1) := by rw [← e1]; exact (k1.cell 3).trans rfl
  rw [e1] at hs
  obtain ⟨q1, o1, rfl, g1⟩ := (msk_at hs).2 k hk
  obtain ⟨n1, hn1, -⟩ := nat_of (hr.2.2 _ (List.getElem_mem hk))
  have m1 : ctN t k = n1 := by unfold ctN; rw [List.getD_eq_getElem?_getD, List.getElem?_eq_getElem hk]; simp [hn1]
  rw [hn1] at g1
  rw [m1]
  have hlt1 : (k : Int) < (t.ct.length : Int) := by omega
  have lx := cell_lt x1
  have lg := cell_lt g1
  clear hz hs e1 k1 hn1 m1 hr
  unfold tgC at *
  go_enter Tryz.func27, Tryz.ntmps27
  go_wp2
  go_ret
  exact ⟨rfl, hb1⟩

set_option maxRecDepth 20000 in
set_option maxHeartbeats 1000000 in
theorem aheadRm_any (hz : TgZ (fun _ => True) w r t) (hk : k < t.pa.length) (h32 : t.pa.getD k (-1) < 32) :
    Calls Tryz.prog 28 #[.agg (tgC r t), .int .i64 (k : Int)] w fun e w' => e = .returned (.int .u32 (rmN t k : Nat)) ∧ Below w.heap.size w w' := by
  have hb1 := below_new w (.cells (tgC r t) 37)
  have k1 : Blk (w.alloc (.cells (tgC r t) 37)) w.heap.size (tgC r t) 37 := Blk.new
  have hs := (hz.keep hb1).e4
  obtain ⟨p1, c1, e1⟩ := hs.len
  have x1 : (w.alloc (.cells (tgC r t) 37)).cell? ⟨w.heap.size, 4, none⟩ = some (.slice p1 t.pa.length c1) := by rw [← e1]; exact (k1.cell 4).trans rfl
  rw [e1] at hs
  obtain ⟨q1, o1, rfl, g1⟩ := (ints_at hs).2 k hk
  have m1 : rmN t k = prN t.pa[k] := by unfold rmN; rw [List.getD_eq_getElem?_getD, List.getElem?_eq_getElem hk]; rfl
  rw [List.getD_eq_getElem?_getD, List.getElem?_eq_getElem hk] at h32
  rw [m1]
  replace h32 : t.pa[k] < 32 := h32
  generalize t.pa[k] = P at g1 h32 m1 ⊢
  have hlt1 : (k : Int) < (t.pa.length : Int) := by omega
  have lx := cell_lt x1
  have lg := cell_lt g1
  have hP := fun W => pair_any P W h32
  have HP : Hid _ := hP
  clear hz hs e1 k1 m1 hP
  unfold tgC at *
  go_enter Tryz.func28, Tryz.ntmps28
  go_wp2_with (go_at_call 29; refine (HP.out _).mono ?_; rintro e w2 ⟨rfl, hb2⟩)
  go_ret
  exact ⟨rfl, Below.thru hb1 hb2 (Nat.le_refl _)⟩
end
end Go.Proofs.YtcalinfdckklfaaGreatDoor

namespace Go.Proofs.YtcalinfdckklfaaGreatDoor
open Go.RowKit
attribute [local go_sem] Ext.cell Ext.frozen

theorem or3_low {a b c k : Nat} : (a ||| b ||| c) < 2 ^ k ↔ a < 2 ^ k ∧ b < 2 ^ k ∧ c < 2 ^ k := by
  constructor
  · intro h
    have h1 : a ||| b ≤ a ||| b ||| c := Nat.left_le_or
    have h2 : c ≤ a ||| b ||| c := Nat.right_le_or
    have h3 : a ≤ a ||| b := Nat.left_le_or
    have h4 : b ≤ a ||| b := Nat.right_le_or
    omega
  · rintro ⟨h1, h2, h3⟩
    exact Nat.or_lt_two_pow (Nat.or_lt_two_pow h1 h2) h3
theorem or3_lt {a b c : Nat} (ha : a < 4294967296) (hb : b < 4294967296) (hc : c < 4294967296) : (a ||| b) < 4294967296 ∧ (a ||| b ||| c) < 4294967296 := by
  have h1 := Nat.or_lt_two_pow (n := 32) (x := a) (y := b) (by simpa using ha) (by simpa using hb)
  have h2 := Nat.or_lt_two_pow (n := 32) (x := a ||| b) (y := c) h1 (by simpa using hc)
  simp at h1 h2
  exact ⟨h1, h2⟩
theorem shr_no {x k : Nat} (h : x < 2 ^ k) : (((x : Int) / 2 ^ k) != 0) = false := by
  have e : ((x : Int) / 2 ^ k) = ((x / 2 ^ k : Nat) : Int) := by simp
  rw [e, Nat.div_eq_of_lt h]
  rfl
theorem shr_yes {x k : Nat} (h : ¬ x < 2 ^ k) : (((x : Int) / 2 ^ k) != 0) = true := by
  have e : ((x : Int) / 2 ^ k) = ((x / 2 ^ k : Nat) : Int) := by simp
  have h1 : 0 < x / 2 ^ k := Nat.div_pos (by omega) (Nat.two_pow_pos k)
  rw [e]
  generalize x / 2 ^ k = y at h1
  simp
  omega

set_option maxRecDepth 20000 in
set_option maxHeartbeats 16000000 in
theorem inForm_any (r : Nat → Value) (t : Tr) (w : World) (hz : TgZ (fun _ => True) w r t) (hr : Rng t) (hn : t.evs.length ≤ 32) :
    Calls Tryz.prog 21 #[.agg (tgC r t)] w fun e w' => e = .returned (.bool (fineT t)) ∧ Below w.heap.size w w' := by
  have hb1 := below_new w (.cells (tgC r t) 37)
  have k1 : Blk (w.alloc (.cells (tgC r t) 37)) w.heap.size (tgC r t) 37 := Blk.new
  have hz1 := hz.keep hb1
  obtain ⟨p0, c0, e0⟩ := hz1.e0.len
  obtain ⟨p1, c1, e1⟩ := hz1.e1.len
  obtain ⟨p2, c2, e2⟩ := hz1.e2.len
  obtain ⟨p3, c3, e3⟩ := hz1.e3.len
  obtain ⟨p4, c4, e4⟩ := hz1.e4.len
  have x0 : (w.alloc (.cells (tgC r t) 37)).cell? ⟨w.heap.size, 0, none⟩ = some (.slice p0 t.evs.length c0) := by rw [← e0]; exact (k1.cell 0).trans rfl
  have x1 : (w.alloc (.cells (tgC r t) 37)).cell? ⟨w.heap.size, 1, none⟩ = some (.slice p1 t.ad.length c1) := by rw [← e1]; exact (k1.cell 1).trans rfl
  have x2 : (w.alloc (.cells (tgC r t) 37)).cell? ⟨w.heap.size, 2, none⟩ = some (.slice p2 t.da.length c2) := by rw [← e2]; exact (k1.cell 2).trans rfl
  have x3 : (w.alloc (.cells (tgC r t) 37)).cell? ⟨w.heap.size, 3, none⟩ = some (.slice p3 t.ct.length c3) := by rw [← e3]; exact (k1.cell 3).trans rfl
  have x4 : (w.alloc (.cells (tgC r t) 37)).cell? ⟨w.heap.size, 4, none⟩ = some (.slice p4 t.pa.length c4) := by rw [← e4]; exact (k1.cell 4).trans rfl
  have s1 := hz1.e1
  have s2 := hz1.e2
  have s3 := hz1.e3
  have s4 := hz1.e4
  rw [e1] at s1
  rw [e2] at s2
  rw [e3] at s3
  rw [e4] at s4
  have lx := cell_lt x0
  have HR : Hid _ := hr
  clear hz hz1 e0 e1 e2 e3 e4 hr k1
  unfold tgC at *
  by_cases l1 : t.ad.length = t.evs.length
  · have b1 := eqB l1
    by_cases l2 : t.da.length = t.evs.length
    · have b2 := eqB l2
      by_cases l3 : t.ct.length = t.evs.length
      · have b3 := eqB l3
        by_cases l4 : t.pa.length = t.evs.length
        · have b4 := eqB l4
          have HL : Hid (lensB t = true) := lens_yes l1 l2 l3 l4
          have L1 : Hid _ := l1
          have L2 : Hid _ := l2
          have L3 : Hid _ := l3
          have L4 : Hid _ := l4
          clear l1 l2 l3 l4
          go_enter Tryz.func21, Tryz.ntmps21
          go_wp2
          generalize w.alloc (.cells #[r 0, r 1, r 2, r 3, r 4, .int .i64 (t.v 0), .int .i64 (t.v 1), .int .i64 (t.v 2), .int .i64 (t.v 3), .int .u32 (t.d 0), .int .u32 (t.d 1), .int .u32 (t.d 2), .int .u32 (t.d 3), .int .i64 t.vs, .int .i64 t.ls, .int .i64 t.mo] 37) = w1 at *
          go_loopw [35] (fun i wr => ∃ k : Nat, k ≤ t.evs.length ∧ i = .int .i64 k ∧ (∀ j, j < k → okAt t j = true) ∧ Below w1.heap.size w1 wr) (fun i _ => t.evs.length - (Go.RowKit.intOf i).toNat)
          case atStart => exact ⟨0, Nat.zero_le _, rfl, fun j h => absurd h (Nat.not_lt_zero _), Below.refl _ _⟩
          case round =>
            obtain ⟨k, hk, rfl, hok, hbr⟩ := hrel
            have HK : Hid _ := hok
            clear hok
            have y1 := cell_keep x1 hbr
            have y2 := cell_keep x2 hbr
            have y3 := cell_keep x3 hbr
            have y4 := cell_keep x4 hbr
            have ly := cell_lt y1
            by_cases hlt : k < t.evs.length
            · obtain ⟨q1, o1, rfl, g1⟩ := (msk_at (s1.keep hbr)).2 k (by rw [L1.out]; exact hlt)
              obtain ⟨q2, o2, rfl, g2⟩ := (msk_at (s2.keep hbr)).2 k (by rw [L2.out]; exact hlt)
              obtain ⟨q3, o3, rfl, g3⟩ := (msk_at (s3.keep hbr)).2 k (by rw [L3.out]; exact hlt)
              obtain ⟨q4, o4, rfl, g4⟩ := (ints_at (s4.keep hbr)).2 k (by rw [L4.out]; exact hlt)
              have m1 : t.ad.getD k 0 = t.ad[k]'(by rw [L1.out]; exact hlt) := by rw [List.getD_eq_getElem?_getD, List.getElem?_eq_getElem (by rw [L1.out]; exact hlt)]; rfl
              have m2 : t.da.getD k 0 = t.da[k]'(by rw [L2.out]; exact hlt) := by rw [List.getD_eq_getElem?_getD, List.getElem?_eq_getElem (by rw [L2.out]; exact hlt)]; rfl
              have m3 : t.ct.getD k 0 = t.ct[k]'(by rw [L3.out]; exact hlt) := by rw [List.getD_eq_getElem?_getD, List.getElem?_eq_getElem (by rw [L3.out]; exact hlt)]; rfl
              have m4 : t.pa.getD k 0 = t.pa[k]'(by rw [L4.out]; exact hlt) := by rw [List.getD_eq_getElem?_getD, List.getElem?_eq_getElem (by rw [L4.out]; exact hlt)]; rfl
              obtain ⟨n1, hn1, hx1⟩ := nat_of (HR.out.1 _ (List.getElem_mem (by rw [L1.out]; exact hlt : k < t.ad.length)))
              obtain ⟨n2, hn2, hx2⟩ := nat_of (HR.out.2.1 _ (List.getElem_mem (by rw [L2.out]; exact hlt : k < t.da.length)))
              obtain ⟨n3, hn3, hx3⟩ := nat_of (HR.out.2.2 _ (List.getElem_mem (by rw [L3.out]; exact hlt : k < t.ct.length)))
              rw [hn1] at g1 m1
              rw [hn2] at g2 m2
              rw [hn3] at g3 m3
              generalize t.pa[k]'(by rw [L4.out]; exact hlt) = P at g4 m4
              have z1 := cell_lt g1
              have z2 := cell_lt g2
              have z3 := cell_lt g3
              have z4 := cell_lt g4
              have hOK : okAt t k = (lowB (n1 : Int) k && (lowB (n2 : Int) k && (lowB (n3 : Int) k && decide (P < (k : Int))))) := by unfold okAt; rw [m1, m2, m3, m4]
              have HOK : Hid _ := hOK
              have hlt1 : (k : Int) < (t.ad.length : Int) := by rw [L1.out]; omega
              have hlt2 : (k : Int) < (t.da.length : Int) := by rw [L2.out]; omega
              have hlt3 : (k : Int) < (t.ct.length : Int) := by rw [L3.out]; omega
              have hlt4 : (k : Int) < (t.pa.length : Int) := by rw [L4.out]; omega
              have o1' := or_u32 hx1 hx2
              obtain ⟨hx4, hx5⟩ := or3_lt hx1 hx2 hx3
              have o2' := or_u32 hx4 hx3
              clear hOK m1 m2 m3 m4 hn1 hn2 hn3
              have hne : ∀ w, Nonempty (Ext w) := ext_some
              have HLOW : Hid _ := (or3_low (a := n1) (b := n2) (c := n3) (k := k))
              by_cases hg : (n1 ||| n2 ||| n3) < 2 ^ k
              · have hs := shr_no (x := n1 ||| n2 ||| n3) (k := k) hg
                have HG : Hid _ := hg
                clear hg
                by_cases hp : P < (k : Int)
                · have hpb : decide ((k : Int) ≤ P) = false := by simp; omega
                  go_wp2
                  refine wp_region_ext (by kernel_rfl) (by kernel_rfl) ?_
                  repeat (go_big_quiet_step (fail))
                  refine wpQuiet_nil ?_
                  rintro _ ⟨rr, rfl⟩
                  have h7 := rr.ok
                  generalize rr.wd = w7 at *
                  go_wp2
                  go_roundw
                  case rel =>
                    refine ⟨k + 1, by omega, by go_num, fun j hj => ?_, Below.thru hbr h7 (Nat.le_refl _)⟩
                    by_cases e : j = k
                    · rw [e, HOK.out]
                      obtain ⟨q1, q2, q3⟩ := HLOW.out.1 HG.out
                      unfold lowB
                      simp [q1, q2, q3, hp]
                    · exact HK.out j (by omega)
                  case measure => simp [Go.RowKit.intOf]; omega
                · have hpb : decide ((k : Int) ≤ P) = true := by simp; omega
                  go_wp2
                  refine wp_region_ext (by kernel_rfl) (by kernel_rfl) ?_
                  repeat (go_big_quiet_step (fail))
                  refine wpQuiet_nil ?_
                  rintro _ ⟨rr, rfl⟩
                  have h7 := rr.ok
                  generalize rr.wd = w7 at *
                  go_wp2
                  go_ret
                  have e : okAt t k = false := by rw [HOK.out]; rw [decide_eq_false (by omega), Bool.and_false, Bool.and_false, Bool.and_false]
                  rw [fine_bad hlt e]
                  exact ⟨rfl, Below.thru hb1 (Below.thru hbr h7 (Nat.le_refl _)) (Nat.le_refl _)⟩
              · have hs := shr_yes (x := n1 ||| n2 ||| n3) (k := k) hg
                have HG : Hid _ := hg
                clear hg
                go_wp2
                refine wp_region_ext (by kernel_rfl) (by kernel_rfl) ?_
                repeat (go_big_quiet_step (fail))
                refine wpQuiet_nil ?_
                rintro _ ⟨rr, rfl⟩
                have h7 := rr.ok
                generalize rr.wd = w7 at *
                go_wp2
                go_ret
                have e : okAt t k = false := by rw [HOK.out]; (
                  cases hx : (lowB (n1 : Int) k && (lowB (n2 : Int) k && (lowB (n3 : Int) k && decide (P < (k : Int)))))
                  · rfl
                  · exfalso
                    unfold lowB at hx
                    simp only [Bool.and_eq_true, decide_eq_true_eq, Int.toNat_natCast] at hx
                    exact HG.out (HLOW.out.2 ⟨hx.1, hx.2.1, hx.2.2.1⟩))
                rw [fine_bad hlt e]
                exact ⟨rfl, Below.thru hb1 (Below.thru hbr h7 (Nat.le_refl _)) (Nat.le_refl _)⟩
            · have hlt' : ¬ (k : Int) < (t.evs.length : Int) := by omega
              go_wp2
              go_ret
              rw [fine_yes HL.out (fun i hi => HK.out i (by omega))]
              exact ⟨rfl, Below.thru hb1 hbr (Nat.le_refl _)⟩
        · have b4 := neB l4
          have HNO : Hid _ := fine_no (lens_no (t := t) (fun h => l4 h.2.2.2))
          go_enter Tryz.func21, Tryz.ntmps21
          go_wp2
          go_ret
          rw [HNO.out]
          exact ⟨rfl, hb1⟩
      · have b3 := neB l3
        have HNO : Hid _ := fine_no (lens_no (t := t) (fun h => l3 h.2.2.1))
        go_enter Tryz.func21, Tryz.ntmps21
        go_wp2
        go_ret
        rw [HNO.out]
        exact ⟨rfl, hb1⟩
    · have b2 := neB l2
      have HNO : Hid _ := fine_no (lens_no (t := t) (fun h => l2 h.2.1))
      go_enter Tryz.func21, Tryz.ntmps21
      go_wp2
      go_ret
      rw [HNO.out]
      exact ⟨rfl, hb1⟩
  · have b1 := neB l1
    have HNO : Hid _ := fine_no (lens_no (t := t) (fun h => l1 h.1))
    go_enter Tryz.func21, Tryz.ntmps21
    go_wp2
    go_ret
    rw [HNO.out]
    exact ⟨rfl, hb1⟩
end Go.Proofs.YtcalinfdckklfaaGreatDoor
