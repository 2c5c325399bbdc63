/- ExecF: ExecMask, ExecPairs, in one text. -/
import Derived.Test.YtcalinfdckklfaaGreatDoorPk15
import Derived.Test.YtcalinfdckklfaaGreatDoorPk11
import Derived.Test.YtcalinfdckklfaaGreatDoorPk12
import Derived.Test.YtcalinfdckklfaaGreatDoorPk17
import Derived.Defers
import Derived.Recover
namespace Go.Proofs.YtcalinfdckklfaaGreatDoor
open Go.RowKit
attribute [local go_sem] Ext.cell Ext.frozen

theorem catch_idle (w : World) : CallsD Tryz.prog 77 #[] .returning w fun e u' w' => e = .returned (.tuple #[]) ∧ u' = .returning ∧ w' = w := by
  refine callsD_of_wpS Tryz.func77 rfl fun c₀ cs hu => ?_
  apply wpS_region
  simp [wpOpsS, go_sem, recoverD, hu, Tryz.ntmps77]
  cases c₀
  simp_all [bodyPostS, results, Tryz.results77]

set_option maxRecDepth 20000 in
set_option maxHeartbeats 2000000 in
theorem isTrue_any (g : FuncId) (bs : Array Value) (x : Ev) (v : Bool) (w : World) (hcf : ∀ args w, (callFunc g args).run Tryz.prog w = .ok (.enter g args) w)
    (hc : ∀ W, Below w.heap.size w W → Calls Tryz.prog g (#[.agg x.cells.toArray] ++ bs) W fun e w' => e = .returned (.bool v) ∧ Below W.heap.size W w') :
    Calls Tryz.prog 56 #[.func (.func g) #[] bs, .agg x.cells.toArray] w fun e w' => e = .returned (.bool v) ∧ Below w.heap.size w w' := by
  have hb1 := below_new w (.cells x.cells.toArray 52)
  have HC : Hid _ := hc
  clear hc
  unfold Ev.cells at *
  go_enter_defers Tryz.func56, Tryz.ntmps56
  go_wp2_with fail
  refine (HC.out _ hb1).mono ?_
  rintro e w2 ⟨rfl, hb2⟩
  go_wp2
  refine leaves_cons (f := 77) (args := #[]) (by simp) (by simp [go_sem]) ?_
  refine (catch_idle _).mono ?_
  rintro e u' w'' ⟨rfl, rfl, rfl⟩
  simp [Leaves, settle, results, Tryz.results56, go_sem]
  exact Below.thru hb1 hb2 (Nat.le_refl _)

theorem rowN_or {g : Nat → Bool} {k : Nat} (h : g k = true) : rowN g k ||| 2 ^ k = rowN g (k + 1) := by
  refine row_ext (n := k + 1) (Nat.or_lt_two_pow (Nat.lt_of_lt_of_le (rowN_lt g k) (Nat.pow_le_pow_right (by decide) (by omega))) (Nat.pow_lt_pow_right (by decide) (by omega))) (rowN_lt g _) fun j hj => ?_
  rw [Nat.testBit_or, rowN_bit, rowN_bit, Nat.testBit_two_pow]
  by_cases e : k = j
  · subst e; simp [h]
  · have h1 : j < k := by omega
    simp [h1, e, hj]
theorem rowN_no {g : Nat → Bool} {k : Nat} (h : g k = false) : rowN g (k + 1) = rowN g k := by simp [rowN, h]

set_option maxRecDepth 20000 in
set_option maxHeartbeats 4000000 in
theorem Mask_any (r : Nat → Value) (x : Ex) (g : FuncId) (bs : Array Value) (pr : Ev → Bool) (w : World) (hx : ExZ (fun _ => True) w r x) (hn : x.evs.length ≤ 32) (hcf : ∀ args w, (callFunc g args).run Tryz.prog w = .ok (.enter g args) w)
    (hc : ∀ e ∈ x.evs, ∀ W, Below w.heap.size w W → Calls Tryz.prog g (#[.agg e.cells.toArray] ++ bs) W fun e' w' => e' = .returned (.bool (pr e)) ∧ Below W.heap.size W w') :
    Calls Tryz.prog 34 #[.agg (exC r), .func (.func g) #[] bs] w fun e w' => e = .returned (.int .u32 (kdM x.evs pr : Nat)) ∧ Below w.heap.size w w' := by
  have HC : Hid _ := hc
  have HCF : Hid _ := hcf
  clear hc hcf
  obtain ⟨p0, c0, h0⟩ := hx.e0.len
  have hE := hx.e0
  rw [h0] at hE
  have hb1 := below_new w (.cells (exC r) 42)
  have k1 : Blk (w.alloc (.cells (exC r) 42)) w.heap.size (exC r) 42 := Blk.new
  have x0 : (w.alloc (.cells (exC r) 42)).cell? ⟨w.heap.size, 0, none⟩ = some (.slice p0 x.evs.length c0) := by rw [← h0]; exact (k1.cell 0).trans rfl
  have lx := cell_lt x0
  have hkd : kdM x.evs pr = rowN (fun k => (x.evs[k]?.map pr).getD false) x.evs.length := rfl
  obtain ⟨G, hG⟩ : ∃ G : Nat → Bool, (fun k => (x.evs[k]?.map pr).getD false) = G := ⟨_, rfl⟩
  rw [hG] at hkd
  rw [hkd]
  have HG : Hid _ := hG
  clear hx k1 h0 hkd hG
  unfold exC at *
  go_enter Tryz.func34, Tryz.ntmps34
  go_wp2
  generalize w.alloc (.cells #[r 0, r 1, r 2, r 3, r 4, r 5, r 6] 42) = w1 at *
  go_loopw [5, 11] (fun m i wr => ∃ k : Nat, k ≤ x.evs.length ∧ i = .int .i64 k ∧ m = .int .u32 (rowN G k : Nat) ∧ Below w.heap.size w wr) (fun _ i _ => x.evs.length - (Go.RowKit.intOf i).toNat)
  case atStart => exact ⟨0, Nat.zero_le _, rfl, rfl, hb1⟩
  case round =>
    obtain ⟨k, hk, rfl, rfl, hbr⟩ := hrel
    by_cases hlt : k < x.evs.length
    · have hlt' : (k : Int) < (x.evs.length : Int) := by omega
      obtain ⟨eb, eo, rfl, g0, g1, g2, g3, g4, g5, g6⟩ := (ev_at (hE.keep hbr)).2 k hlt
      have hci := fun W (hB : Below wr.heap.size wr W) => isTrue_any g bs x.evs[k] (pr x.evs[k]) W HCF.out (fun W' hB' => HC.out _ (List.getElem_mem hlt) W' (Below.thru (Below.thru hbr hB (Nat.le_refl _)) hB' (Nat.le_refl _)))
      have hgk : G k = pr x.evs[k] := by rw [← HG.out]; show (x.evs[k]?.map pr).getD false = _; rw [List.getElem?_eq_getElem hlt]; rfl
      generalize x.evs[k] = e at g0 g1 g2 g3 g4 g5 g6 hci hgk
      have HCI : Hid _ := hci
      have HGK : Hid _ := hgk
      clear hci hgk
      have lg := cell_lt g0
      have hm1 : rowN G k < 4294967296 := rowN_u32 (by omega)
      have hm2 : 2 ^ k < 4294967296 := by have := Nat.pow_lt_pow_right (a := 2) (m := k) (n := 32) (by decide) (by omega); simpa using this
      have hpk := pow_u32 (k := k) (by omega)
      have hor := or_u32 hm1 hm2
      have HOR : Hid _ := hor
      clear hor
      have F1 := trivial
      cases hv : pr e
      · rw [hv] at HGK
        have HV : Hid _ := hv
        clear hv
        go_wp2_with (first
          | (clear F1; refine wpList_toldE (w := wr) (by rfl) (.tmp 7) (.tmp 15) (by rfl) e (by rfl) (by rfl) ?_; intro w5 kE b5; simp only [Act.put]; have s0 := kE.cell 0; have s1 := kE.cell 1; have s2 := kE.cell 2; have s3 := kE.cell 3; have s4 := kE.cell 4; have s5 := kE.cell 5; have s6 := kE.cell 6; simp only [Ev.cells, List.getElem?_toArray, List.getElem?_cons_zero, List.getElem?_cons_succ] at s0 s1 s2 s3 s4 s5 s6; have lE := kE.lt; have F2 := trivial)
          | (go_at_call 56; clear F2; refine (HCI.out _ b5).mono ?_; rintro e' w6 ⟨rfl, hb6⟩; rw [HV.out]; have B6 := Below.thru (Below.thru hbr b5 (Nat.le_refl _)) hb6 (Nat.le_refl _); have F3 := trivial))
        go_roundw
        case rel => exact ⟨k + 1, by omega, by go_num, by rw [rowN_no HGK.out], B6⟩
        case measure => simp [Go.RowKit.intOf]; omega
      · rw [hv] at HGK
        have HV : Hid _ := hv
        clear hv
        go_wp2_with (first
          | (clear F1; refine wpList_toldE (w := wr) (by rfl) (.tmp 7) (.tmp 15) (by rfl) e (by rfl) (by rfl) ?_; intro w5 kE b5; simp only [Act.put]; have s0 := kE.cell 0; have s1 := kE.cell 1; have s2 := kE.cell 2; have s3 := kE.cell 3; have s4 := kE.cell 4; have s5 := kE.cell 5; have s6 := kE.cell 6; simp only [Ev.cells, List.getElem?_toArray, List.getElem?_cons_zero, List.getElem?_cons_succ] at s0 s1 s2 s3 s4 s5 s6; have lE := kE.lt; have F2 := trivial)
          | (go_at_call 56; clear F2; refine (HCI.out _ b5).mono ?_; rintro e' w6 ⟨rfl, hb6⟩; rw [HV.out]; have B6 := Below.thru (Below.thru hbr b5 (Nat.le_refl _)) hb6 (Nat.le_refl _); have F3 := trivial))
        go_roundw
        case rel => exact ⟨k + 1, by omega, by go_num, by rw [← rowN_or HGK.out, ← HOR.out]; simp, B6⟩
        case measure => simp [Go.RowKit.intOf]; omega
    · have hlt' : ¬ (k : Int) < (x.evs.length : Int) := by omega
      have e : k = x.evs.length := by omega
      subst e
      go_wp2
      go_ret
      exact ⟨rfl, hbr⟩

set_option maxHeartbeats 1000000 in
theorem Index_ints (p : Option Addr) (c : Nat) (xs : List Int) (z : Int) (w : World) (hx : Sl IntE w (.slice p xs.length c) xs) (hn : xs.length ≤ 1000000) :
    Calls Tryz.prog 57 #[.slice p xs.length c, .int .i64 z] w fun e w' => (∃ i : Int, e = .returned (.int .i64 i) ∧ decide (0 ≤ i) = xs.contains z) ∧ Below w.heap.size w w' := by
  go_enter Tryz.func57, Tryz.ntmps57
  go_wp2
  go_loopw [8] (fun i wr => ∃ k : Nat, k ≤ xs.length ∧ i = .int .i64 k ∧ (xs.drop k).contains z = xs.contains z ∧ Below w.heap.size w wr) (fun i _ => xs.length - (Go.RowKit.intOf i).toNat)
  case atStart => exact ⟨0, Nat.zero_le _, rfl, by simp, Below.refl _ _⟩
  case round =>
    obtain ⟨k, hk, rfl, hc, hB⟩ := hrel
    have HC : Hid _ := hc
    clear hc
    by_cases hlt : k < xs.length
    · have hlt' : (k : Int) < (xs.length : Int) := by omega
      obtain ⟨b, o, rfl, hcell⟩ := (ints_at (hx.keep hB)).2 k hlt
      have HD : Hid _ := (show xs.drop k = xs[k] :: xs.drop (k + 1) from drop_at hlt)
      generalize xs[k] = y at *
      by_cases hyz : y = z
      · subst hyz
        have HR : Hid _ := (show xs.contains y = true by rw [← HC.out, HD.out]; simp)
        go_wp2
        go_ret
        exact ⟨⟨_, rfl, by rw [HR.out]; simp⟩, hB⟩
      · have hyz' : (z == y) = false := by rw [beq_eq_false_iff_ne]; exact fun e => hyz e.symm
        have HR : Hid _ := (show (xs.drop (k + 1)).contains z = xs.contains z by
          rw [← HC.out, HD.out, List.contains_cons, hyz', Bool.false_or])
        clear hyz
        go_wp2
        go_roundw
        case rel => exact ⟨k + 1, by omega, by go_num, HR.out, hB⟩
        case measure => simp [Go.RowKit.intOf]; omega
    · have ek : k = xs.length := by omega
      have HR : Hid _ := (show xs.contains z = false by rw [← HC.out, ek]; simp)
      clear ek
      go_wp2
      go_ret
      exact ⟨⟨_, rfl, by rw [HR.out]; rfl⟩, hB⟩
set_option maxHeartbeats 1000000 in
theorem Contains_ints (p : Option Addr) (c : Nat) (xs : List Int) (z : Int) (w : World) (hx : Sl IntE w (.slice p xs.length c) xs) (hn : xs.length ≤ 1000000) :
    Calls Tryz.prog 36 #[.slice p xs.length c, .int .i64 z] w fun e w' => e = .returned (.bool (xs.contains z)) ∧ Below w.heap.size w w' := by
  have C := Index_ints p c xs z w hx hn
  go_enter Tryz.func36, Tryz.ntmps36
  go_wp2_with (go_at_call 57; refine C.mono ?_; clear C; rintro e w1 ⟨⟨i, rfl, hi⟩, hb⟩; have HI : Hid _ := hi; clear hi)
  all_goals (go_ret; exact ⟨by rw [← HI.out]; first | rfl | simp [*], hb⟩)

set_option maxRecDepth 20000 in
set_option maxHeartbeats 2000000 in
theorem kindIn_any (p : Option Addr) (c : Nat) (xs : List Int) (x : Ev) (b : Nat) (w : World) (hx : Sl IntE w (.slice p xs.length c) xs) (hn : xs.length ≤ 1000000) (hb : Blk w b #[.slice p xs.length c] 27) :
    Calls Tryz.prog 35 #[.agg x.cells.toArray, .pointer (some ⟨b, 0, none⟩)] w fun e w' => e = .returned (.bool (xs.contains x.kd)) ∧ Below w.heap.size w w' := by
  have hb1 := below_new w (.cells x.cells.toArray 52)
  have k1 : Blk (w.alloc (.cells x.cells.toArray 52)) w.heap.size x.cells.toArray 52 := Blk.new
  have s1 := k1.cell 1
  have y0 := (hb.keep hb1).cell 0
  simp only [Ev.cells, List.getElem?_toArray, List.getElem?_cons_zero, List.getElem?_cons_succ] at s1 y0
  have l1 := cell_lt s1
  have l0 := cell_lt y0
  have hC := fun W (hB : Below w.heap.size w W) => Contains_ints p c xs x.kd W (hx.keep hB) hn
  generalize xs.contains x.kd = q at *
  have HC : Hid _ := hC
  clear hC k1
  unfold Ev.cells at *
  go_enter Tryz.func35, Tryz.ntmps35
  go_wp2_with (go_at_call 36; refine (HC.out _ hb1).mono ?_; rintro e w2 ⟨rfl, hb2⟩)
  go_ret
  exact ⟨rfl, Below.thru hb1 hb2 (Nat.le_refl _)⟩

set_option maxRecDepth 20000 in
set_option maxHeartbeats 2000000 in
theorem Kinds_any (r : Nat → Value) (x : Ex) (p : Option Addr) (c : Nat) (xs : List Int) (w : World) (hx : ExZ (fun _ => True) w r x) (hn : x.evs.length ≤ 32) (hk : Sl IntE w (.slice p xs.length c) xs) (hkn : xs.length ≤ 1000000) :
    Calls Tryz.prog 9 #[.agg (exC r), .slice p xs.length c] w fun e w' => e = .returned (.int .u32 (kdM x.evs (fun e => xs.contains e.kd) : Nat)) ∧ Below w.heap.size w w' := by
  have hmf : ∀ (fn : Fn) (first cap : Array Value) (w : World), (Instr.makeFunc fn first cap).run Tryz.prog w = .ok (.func fn first cap) w := fun _ _ _ _ => rfl
  obtain ⟨w1, hw1⟩ : ∃ w1, w1 = w.alloc (.cells (exC r) 42) := ⟨_, rfl⟩
  have k1 : Blk w1 w.heap.size (exC r) 42 := by rw [hw1]; exact Blk.new
  have b1 : Below w.heap.size w w1 := by rw [hw1]; exact below_new _ _
  have u1 : w1.heap.size = w.heap.size + 1 := by rw [hw1]; simp
  obtain ⟨w2, hw2⟩ : ∃ w2, w2 = w1.alloc (.cells #[.slice p xs.length c] 27) := ⟨_, rfl⟩
  have k2 : Blk w2 (w.heap.size + 1) #[.slice p xs.length c] 27 := by rw [hw2]; exact Blk.newAt u1
  have b2 : Below w1.heap.size w1 w2 := by rw [hw2]; exact below_new _ _
  have B2 := Below.thru b1 b2 (Nat.le_refl _)
  have kx := k1.keep b2
  have y0 : w2.cell? ⟨w.heap.size, 0, none⟩ = some (r 0) := kx.cell 0
  have y1 : w2.cell? ⟨w.heap.size, 1, none⟩ = some (r 1) := kx.cell 1
  have y2 : w2.cell? ⟨w.heap.size, 2, none⟩ = some (r 2) := kx.cell 2
  have y3 : w2.cell? ⟨w.heap.size, 3, none⟩ = some (r 3) := kx.cell 3
  have y4 : w2.cell? ⟨w.heap.size, 4, none⟩ = some (r 4) := kx.cell 4
  have y5 : w2.cell? ⟨w.heap.size, 5, none⟩ = some (r 5) := kx.cell 5
  have y6 : w2.cell? ⟨w.heap.size, 6, none⟩ = some (r 6) := kx.cell 6
  have ly := cell_lt y0
  have hM := Mask_any r x 35 #[.pointer (some ⟨w.heap.size + 1, 0, none⟩)] (fun e => xs.contains e.kd) w2 (hx.keep B2) hn (fun args w => by kernel_rfl) (fun e _ W hB => kindIn_any p c xs e (w.heap.size + 1) W ((hk.keep B2).keep hB) hkn (k2.keep hB))
  generalize kdM x.evs (fun e => xs.contains e.kd) = q at *
  have HM : Hid (Calls _ _ _ _ _) := hM
  have HW1 : Hid _ := hw1
  have HW2 : Hid _ := hw2
  clear hw1 hw2 hM k1 b1 b2 kx
  unfold exC at *
  go_enter Tryz.func9, Tryz.ntmps9
  go_wp2_with (go_at_call 34; rw [← HW1.out, ← HW2.out]; refine HM.out.mono ?_; rintro e w3 ⟨rfl, hb3⟩)
  go_ret
  exact ⟨rfl, Below.thru B2 hb3 (Nat.le_refl _)⟩
end Go.Proofs.YtcalinfdckklfaaGreatDoor

namespace Go.Proofs.YtcalinfdckklfaaGreatDoor
open Go.RowKit
attribute [local go_sem] Ext.cell Ext.frozen

theorem andnot_u32 {a b n : Nat} (ha : a < 4294967296) (hb : b < 4294967296) (hn : n < 4294967296) (h : ∀ i, i < 32 → n.testBit i = (a.testBit i && !b.testBit i)) : bits .andNot .u32 (a : Int) (b : Int) = (n : Int) := by
  have h1 : (BitVec.ofInt 32 (a : Int)).toNat = a := by
    rw [BitVec.ofInt_natCast, BitVec.toNat_ofNat]; exact Nat.mod_eq_of_lt (by omega)
  have h2 : (BitVec.ofInt 32 (b : Int)).toNat = b := by
    rw [BitVec.ofInt_natCast, BitVec.toNat_ofNat]; exact Nat.mod_eq_of_lt (by omega)
  have e : (BitVec.ofInt 32 (a : Int) &&& ~~~ BitVec.ofInt 32 (b : Int)).toNat = n := by
    refine row_ext (n := 32) (BitVec.isLt _) (by simpa using hn) fun k hk => ?_
    rw [BitVec.testBit_toNat, BitVec.getLsbD_and, BitVec.getLsbD_not, ← BitVec.testBit_toNat, ← BitVec.testBit_toNat, h1, h2, h k hk, decide_eq_true hk, Bool.true_and]
  show IntKind.u32.wrap ((BitVec.ofInt 32 (a : Int) &&& ~~~ BitVec.ofInt 32 (b : Int)).toNat : Int) = _
  rw [e, IntKind.wrap_u32]
  omega

/-- Unlike events of which q is true. -/
def pairF (q : Ev → Ev → Bool) (l : List Ev) (i k : Nat) : Bool :=
  match l[i]?, l[k]? with
  | some x, some y => !(i == k) && q x y
  | _, _ => false
theorem alike_pair (l : List Ev) : alikeF l = pairF (fun x y => memB x && (memB y && (x.lc == y.lc))) l := rfl
theorem inner_pair (l : List Ev) : innerF l = pairF (fun x y => x.th == y.th) l := rfl
theorem kd_pair {q : Ev → Ev → Bool} {l : List Ev} {i : Nat} {a : Ev} (h : l[i]? = some a) (hn : l.length ≤ 32) : bits .andNot .u32 (kdM l (q a) : Int) ((2 ^ i : Nat) : Int) = (rowN (pairF q l i) l.length : Int) := by
  have hi : i < l.length := (List.getElem?_eq_some_iff.1 h).1
  have h2 : 2 ^ i < 4294967296 := by have := Nat.pow_lt_pow_right (a := 2) (m := i) (n := 32) (by decide) (by omega); simpa using this
  refine andnot_u32 (rowN_u32 hn) h2 (rowN_u32 hn) fun k hk => ?_
  unfold kdM
  rw [rowN_bit, rowN_bit, Nat.testBit_two_pow]
  unfold pairF
  rw [h]
  by_cases hkl : k < l.length
  · rw [List.getElem?_eq_getElem hkl]
    have e : (i == k) = decide (i = k) := by by_cases hh : i = k <;> simp [hh]
    simp only [Option.map_some, Option.getD_some, e]
    cases q a l[k] <;> cases decide (i = k) <;> cases decide (k < l.length) <;> rfl
  · rw [decide_eq_false hkl, Bool.false_and, Bool.false_and, Bool.false_and]

set_option maxRecDepth 20000 in
set_option maxHeartbeats 2000000 in
theorem both_any (g : FuncId) (a x : Ev) (v : Bool) (bo bt : Nat) (w : World) (hcf : ∀ args w, (callFunc g args).run Tryz.prog w = .ok (.enter g args) w) (ho : Blk w bo #[.func (.func g) #[] #[]] 93) (ht : Blk w bt a.cells.toArray 52)
    (hc : ∀ W, Below w.heap.size w W → Calls Tryz.prog g #[.agg a.cells.toArray, .agg x.cells.toArray] W fun e w' => e = .returned (.bool v) ∧ Below W.heap.size W w') :
    Calls Tryz.prog 60 #[.agg x.cells.toArray, .pointer (some ⟨bo, 0, none⟩), .pointer (some ⟨bt, 0, none⟩)] w fun e w' => e = .returned (.bool v) ∧ Below w.heap.size w w' := by
  have hb1 := below_new w (.cells x.cells.toArray 52)
  have k1 : Blk (w.alloc (.cells x.cells.toArray 52)) w.heap.size x.cells.toArray 52 := Blk.new
  have o1 := (ho.keep hb1).cell 0
  have t1 := ht.keep hb1
  have s0 := k1.cell 0
  have s1 := k1.cell 1
  have s2 := k1.cell 2
  have s3 := k1.cell 3
  have s4 := k1.cell 4
  have s5 := k1.cell 5
  have s6 := k1.cell 6
  have t0 := t1.cell 0
  have t2 := t1.cell 2
  have t3 := t1.cell 3
  have t4 := t1.cell 4
  have t5 := t1.cell 5
  have t6 := t1.cell 6
  have t1' := t1.cell 1
  simp only [Ev.cells, List.getElem?_toArray, List.getElem?_cons_zero, List.getElem?_cons_succ] at s0 s1 s2 s3 s4 s5 s6 t0 t1' t2 t3 t4 t5 t6 o1
  have l1 := cell_lt s1
  have l0 := cell_lt o1
  have l2 := cell_lt t0
  have HC : Hid _ := hc
  clear hc k1 t1 ho ht
  unfold Ev.cells at *
  go_enter Tryz.func60, Tryz.ntmps60
  go_wp2_with fail
  refine (HC.out _ hb1).mono ?_
  rintro e w2 ⟨rfl, hb2⟩
  go_wp2
  go_ret
  exact ⟨rfl, Below.thru hb1 hb2 (Nat.le_refl _)⟩

set_option maxRecDepth 20000 in
set_option maxHeartbeats 8000000 in
theorem unlikePairs_any (r : Nat → Value) (x : Ex) (g : FuncId) (q : Ev → Ev → Bool) (w : World) (hx : ExZ (fun _ => True) w r x) (hn : x.evs.length ≤ 32) (hcf : ∀ args w, (callFunc g args).run Tryz.prog w = .ok (.enter g args) w)
    (hc : ∀ a b W, Calls Tryz.prog g #[.agg (Ev.cells a).toArray, .agg (Ev.cells b).toArray] W fun e w' => e = .returned (.bool (q a b)) ∧ Below W.heap.size W w') :
    Calls Tryz.prog 40 #[.agg (exC r), .func (.func g) #[] #[]] w fun e w' => ∃ v, e = .returned v ∧ SlA (fun k => w.heap.size ≤ k) U32E w' v (mkR x.evs.length (pairF q x.evs)) ∧ Below w.heap.size w w' := by
  have hmf : ∀ (fn : Fn) (first cap : Array Value) (w : World), (Instr.makeFunc fn first cap).run Tryz.prog w = .ok (.func fn first cap) w := fun _ _ _ _ => rfl
  have HC : Hid _ := hc
  have HCF : Hid _ := hcf
  clear hc hcf
  obtain ⟨p0, c0, h0⟩ := hx.e0.len
  have hE := hx.e0
  obtain ⟨n, hne⟩ : ∃ n, x.evs.length = n := ⟨_, rfl⟩
  have hCe : exC r = #[.slice p0 n c0, r 1, r 2, r 3, r 4, r 5, r 6] := by unfold exC; rw [h0, hne]
  have hMask := fun (bs : Array Value) (pr : Ev → Bool) W (hB : Below w.heap.size w W) => Mask_any r x 60 bs pr W (hx.keep hB) hn (fun args w => by kernel_rfl)
  rw [h0] at hE
  rw [hCe] at hMask ⊢
  obtain ⟨w1, hw1⟩ : ∃ w1, w1 = w.alloc (.cells #[.slice p0 n c0, r 1, r 2, r 3, r 4, r 5, r 6] 42) := ⟨_, rfl⟩
  have k1 : Blk w1 w.heap.size #[.slice p0 n c0, r 1, r 2, r 3, r 4, r 5, r 6] 42 := by rw [hw1]; exact Blk.new
  have b1 : Below w.heap.size w w1 := by rw [hw1]; exact below_new _ _
  have u1 : w1.heap.size = w.heap.size + 1 := by rw [hw1]; simp
  obtain ⟨w2, hw2⟩ : ∃ w2, w2 = w1.alloc (.cells #[.func (.func g) #[] #[]] 93) := ⟨_, rfl⟩
  have k2 : Blk w2 (w.heap.size + 1) #[.func (.func g) #[] #[]] 93 := by rw [hw2]; exact Blk.newAt u1
  have b2 : Below w1.heap.size w1 w2 := by rw [hw2]; exact below_new _ _
  have u2 : w2.heap.size = w.heap.size + 2 := by rw [hw2]; simp [u1]
  have B2 := Below.thru b1 b2 (Nat.le_refl _)
  have kx := k1.keep b2
  have HW1 : Hid _ := hw1
  have HW2 : Hid _ := hw2
  have hNew := fun W => New_any (n : Int) W
  have e1 : newN (n : Int) = n := by unfold newN; rw [if_neg (by omega)]; rfl
  rw [e1] at hNew
  have HN : Hid _ := hNew
  have HMK : Hid _ := hMask
  have HNE : Hid _ := hne
  have s2 := B2.size
  rw [hne] at hE hn ⊢
  clear hw1 hw2 k1 b1 b2 hNew hMask hx e1 h0 hne hCe
  go_enter Tryz.func40, Tryz.ntmps40
  go_wp2_with (go_at_call 51; rw [← HW1.out, ← HW2.out]; refine (HN.out w2).mono ?_; rintro e w3 ⟨b, rfl, hR, hbb, hb3⟩)
  have B3 := Below.thru B2 hb3 (Nat.le_refl _)
  have ko3 := k2.keep hb3
  have kx3 := kx.keep hb3
  have hbl := hR.lt
  clear k2 kx HN hb3
  go_loopw [14] (fun i wr => ∃ k : Nat, k ≤ n ∧ i = .int .i64 k ∧ Row wr b 29 n (fun i => ((List.range k).map fun i => rowN (pairF q x.evs i) n).getD i 0) ∧ Blk wr (w.heap.size + 1) #[.func (.func g) #[] #[]] 93 ∧ Blk wr w.heap.size #[.slice p0 n c0, r 1, r 2, r 3, r 4, r 5, r 6] 42 ∧ Below w.heap.size w wr) (fun i _ => n - (Go.RowKit.intOf i).toNat)
  case atStart => exact ⟨0, Nat.zero_le _, rfl, hR.congr fun i _ => by simp, ko3, kx3, B3⟩
  case round =>
    clear hR ko3 kx3 B3
    obtain ⟨k, hk, rfl, hR, ko, kx, hbr⟩ := hrel
    by_cases hlt : k < n
    · have hlt' : (k : Int) < (n : Int) := by omega
      have hltE : k < x.evs.length := by rw [HNE.out]; exact hlt
      obtain ⟨eb, eo, rfl, g0, g1, g2, g3, g4, g5, g6⟩ := (ev_at (by rw [← HNE.out] at hE; exact hE.keep hbr)).2 k hltE
      have hkp := kd_pair (q := q) (List.getElem?_eq_getElem hltE) (by rw [HNE.out]; exact hn)
      generalize x.evs[k] = e at g0 g1 g2 g3 g4 g5 g6 hkp
      have lg := cell_lt g0
      have z0 : wr.cell? ⟨w.heap.size, 0, none⟩ = some (.slice (some ⟨eb, eo, none⟩) n c0) := kx.cell 0
      have lz := cell_lt z0
      have F1 := trivial
      go_wp2_with (clear F1; refine wpList_toldE (w := wr) (by rfl) (.tmp 7) (.tmp 21) (by rfl) e (by rfl) (by rfl) ?_; intro w5 kE b5; simp only [Act.put])
      have hR5 := hR.keep b5
      have ko5 := ko.keep b5
      have kx5 := kx.keep b5
      have B5 := Below.thru hbr b5 (Nat.le_refl _)
      have f5 := hR5.frozen k
      have l5 := hR5.lt
      have t5 := kE
      have z5 : ∀ i, w5.cell? ⟨w.heap.size, i, none⟩ = _ := fun i => kx5.cell i
      have c0 := z5 0
      have c1 := z5 1
      have c2 := z5 2
      have c3 := z5 3
      have c4 := z5 4
      have c5 := z5 5
      have c6 := z5 6
      simp only [List.getElem?_toArray, List.getElem?_cons_zero, List.getElem?_cons_succ] at c0 c1 c2 c3 c4 c5 c6
      have lc := cell_lt c0
      have hnx : ∀ w, Nonempty (Ext w) := ext_some
      have hnx2 : Nonempty AnyW := anyW_some
      clear z5 g0 g1 g2 g3 g4 g5 g6 lg z0 lz hR ko kx hbr
      refine wp_region_mixL [([0, 1, 2, 5, 6], 3, false), ([], 4, false), ([7, 8], 9, true)] [] [9] (by kernel_rfl) (by kernel_rfl) (fun _ _ d _ _ h => by cases d <;> exact h) ?_
      dsimp only [mapL, List.map, opAt]
      refine wpMixL_stage ?_
      repeat (go_big_quiet_step (fail))
      refine wpQuiet_nil ?_
      go_wp2
      have C5 : Below w5.heap.size w5 w5.drew := Below.drew (Below.refl _ _)
      refine ⟨.inr C5, ?_⟩
      refine wpMixL_stage ?_
      refine wpQuiet_nil ?_
      have B5d := Below.thru B5 C5 (Nat.le_refl _)
      have hMk := HMK.out #[.pointer (some ⟨w.heap.size + 1, 0, none⟩), .pointer (some ⟨wr.heap.size, 0, none⟩)] (q e) w5.drew B5d (fun y _ W hB => both_any g e y (q e y) (w.heap.size + 1) wr.heap.size W HCF.out ((ko5.keep C5).keep hB) ((kE.keep C5).keep hB) (fun W' _ => HC.out e y W'))
      have HMk : Hid (Calls _ _ _ _ _) := hMk
      clear hMk
      go_wp2_with (go_at_call 34; refine HMk.out.mono ?_; rintro e6 w6 ⟨rfl, hb6⟩)
      have C6 := Below.thru C5 hb6 (Nat.le_refl _)
      refine ⟨.inr C6, ?_⟩
      refine wpMixL_stage ?_
      repeat (go_big_quiet_step (fail))
      refine wpQuiet_nil ?_
      have hR6 := hR5.keep C6
      have ko6 := ko5.keep C6
      have kx6 := kx5.keep C6
      have B6 := Below.thru B5 C6 (Nat.le_refl _)
      have f6 := hR6.frozen k
      have l6 := hR6.lt
      have g6 := hR6.cell (i := k) hlt
      go_wp2
      refine ⟨.inl trivial, ?_⟩
      refine wpMixL_last ?_
      refine wpQuiet_nil ?_
      go_wp2
      have hz : bits .andNot .u32 ((kdM x.evs (q e) : Nat) : Int) (2 ^ k % 4294967296) = ((rowN (pairF q x.evs k) n : Nat) : Int) := by
        rw [pow_u32 (by omega), hkp, HNE.out]
      have hS := (hR6.setI (i := k) hlt hz).congr (row_more (n := n) (L := (List.range k).map fun i => rowN (pairF q x.evs i) n) (by simp))
      have hzz := B2.size
      have gS := grownBy_set w6 ⟨b, k, none⟩ (.int .u32 (bits .andNot .u32 ((kdM x.evs (q e) : Nat) : Int) (2 ^ k % 4294967296)))
      have koS := ko6.grown gS (by simp; omega)
      have kxS := kx6.grown gS (by simp; omega)
      have bS := below_set (i := k) B6 (show w.heap.size ≤ b by omega) (.int .u32 (bits .andNot .u32 ((kdM x.evs (q e) : Nat) : Int) (2 ^ k % 4294967296)))
      go_roundw
      case rel => exact ⟨k + 1, by omega, by go_num, by rw [List.range_succ, List.map_append]; exact hS, koS, kxS, bS⟩
      case measure => simp [Go.RowKit.intOf]; omega
    · have hlt' : ¬ (k : Int) < (n : Int) := by omega
      have e : k = n := by omega
      subst e
      go_wp2
      go_ret
      have hs := hbr.size
      exact ⟨_, rfl, (hR.congr (g' := fun i => rowN (pairF q x.evs i) k) fun i hi => by rw [List.getD_eq_getElem?_getD, List.getElem?_map, List.getElem?_range hi]; rfl).mk (by have := B2.size; omega) hn, hbr⟩

section
variable (r : Nat → Value) (x : Ex) (w : World)
set_option maxRecDepth 20000 in
set_option maxHeartbeats 2000000 in
theorem isAccess_any (a : Ev) : Calls Tryz.prog 42 #[.agg a.cells.toArray] w fun e w' => e = .returned (.bool (memB a)) ∧ Below w.heap.size w w' := by
  have hb1 := below_new w (.cells a.cells.toArray 52)
  have k1 : Blk (w.alloc (.cells a.cells.toArray 52)) w.heap.size a.cells.toArray 52 := Blk.new
  have s1 := k1.cell 1
  simp only [Ev.cells, List.getElem?_toArray, List.getElem?_cons_zero, List.getElem?_cons_succ] at s1
  have l1 := cell_lt s1
  have hm : memB a = ((a.kd == 1) || (a.kd == 2)) := rfl
  rw [hm]
  clear hm k1
  unfold Ev.cells at *
  cases h1 : (a.kd == 1)
  · go_enter Tryz.func42, Tryz.ntmps42
    go_wp2
    go_ret
    exact ⟨rfl, hb1⟩
  · go_enter Tryz.func42, Tryz.ntmps42
    go_wp2
    go_ret
    exact ⟨rfl, hb1⟩

theorem ev_cells {w : World} {b : Nat} {a : Ev} {t : TypeId} (h : Blk w b a.cells.toArray t) : w.cell? ⟨b, 0, none⟩ = some (.int .i64 a.th) ∧ w.cell? ⟨b, 1, none⟩ = some (.int .i64 a.kd) ∧ w.cell? ⟨b, 2, none⟩ = some (.int .i64 a.lc) ∧ w.cell? ⟨b, 3, none⟩ = some (.int .i64 a.vl) ∧ w.cell? ⟨b, 4, none⟩ = some (.bool a.aq) ∧ w.cell? ⟨b, 5, none⟩ = some (.bool a.rl) ∧ w.cell? ⟨b, 6, none⟩ = some (.bool a.ex) :=
  ⟨h.cell 0, h.cell 1, h.cell 2, h.cell 3, h.cell 4, h.cell 5, h.cell 6⟩

set_option maxRecDepth 20000 in
set_option maxHeartbeats 2000000 in
theorem alikeB_any (a b : Ev) : Calls Tryz.prog 41 #[.agg a.cells.toArray, .agg b.cells.toArray] w fun e w' => e = .returned (.bool (memB a && (memB b && (a.lc == b.lc)))) ∧ Below w.heap.size w w' := by
  obtain ⟨w1, hw1⟩ : ∃ w1, w1 = w.alloc (.cells a.cells.toArray 52) := ⟨_, rfl⟩
  have k1 : Blk w1 w.heap.size a.cells.toArray 52 := by rw [hw1]; exact Blk.new
  have b1 : Below w.heap.size w w1 := by rw [hw1]; exact below_new _ _
  have u1 : w1.heap.size = w.heap.size + 1 := by rw [hw1]; simp
  obtain ⟨w2, hw2⟩ : ∃ w2, w2 = w1.alloc (.cells b.cells.toArray 52) := ⟨_, rfl⟩
  have k2 : Blk w2 (w.heap.size + 1) b.cells.toArray 52 := by rw [hw2]; exact Blk.newAt u1
  have b2 : Below w1.heap.size w1 w2 := by rw [hw2]; exact below_new _ _
  have B2 := Below.thru b1 b2 (Nat.le_refl _)
  have HW1 : Hid _ := hw1
  have HW2 : Hid _ := hw2
  have hA := fun W => isAccess_any W a
  have hB := fun W => isAccess_any W b
  obtain ⟨s0, s1, s2, s3, s4, s5, s6⟩ := ev_cells (k1.keep b2)
  obtain ⟨t0, t1, t2, t3, t4, t5, t6⟩ := ev_cells k2
  have ls := cell_lt s0
  have lt := cell_lt t0
  cases hma : memB a
  · rw [hma] at hA
    have HA : Hid _ := hA
    clear hA hB hw1 hw2 k1 k2 b1 b2 hma
    unfold Ev.cells at *
    go_enter Tryz.func41, Tryz.ntmps41
    go_wp2_with (go_at_call 42; rw [← HW1.out, ← HW2.out]; refine (HA.out w2).mono ?_; rintro e w3 ⟨rfl, hb3⟩)
    go_ret
    exact ⟨rfl, Below.thru B2 hb3 (Nat.le_refl _)⟩
  · rw [hma] at hA
    have HA : Hid _ := hA
    cases hmb : memB b
    · rw [hmb] at hB
      have HB : Hid _ := hB
      clear hA hB hw1 hw2 k1 k2 b1 b2 hma hmb
      unfold Ev.cells at *
      have F1 := trivial
      go_enter Tryz.func41, Tryz.ntmps41
      go_wp2_with (first
        | (go_at_call 42; clear F1; rw [← HW1.out, ← HW2.out]; refine (HA.out w2).mono ?_; rintro e w3 ⟨rfl, hb3⟩; replace t0 := cell_keep t0 hb3; replace t1 := cell_keep t1 hb3; replace t2 := cell_keep t2 hb3; replace t3 := cell_keep t3 hb3; replace t4 := cell_keep t4 hb3; replace t5 := cell_keep t5 hb3; replace t6 := cell_keep t6 hb3; replace lt := cell_lt t0; have F2 := trivial)
        | (go_at_call 42; clear F2; refine (HB.out w3).mono ?_; rintro e w4 ⟨rfl, hb4⟩; have F3 := trivial))
      go_ret
      exact ⟨rfl, Below.thru (Below.thru B2 hb3 (Nat.le_refl _)) hb4 (Nat.le_refl _)⟩
    · rw [hmb] at hB
      have HB : Hid _ := hB
      clear hA hB hw1 hw2 k1 k2 b1 b2 hma hmb
      unfold Ev.cells at *
      have F1 := trivial
      go_enter Tryz.func41, Tryz.ntmps41
      go_wp2_with (first
        | (go_at_call 42; clear F1; rw [← HW1.out, ← HW2.out]; refine (HA.out w2).mono ?_; rintro e w3 ⟨rfl, hb3⟩; replace s2 := cell_keep s2 hb3; replace t0 := cell_keep t0 hb3; replace t1 := cell_keep t1 hb3; replace t2 := cell_keep t2 hb3; replace t3 := cell_keep t3 hb3; replace t4 := cell_keep t4 hb3; replace t5 := cell_keep t5 hb3; replace t6 := cell_keep t6 hb3; replace lt := cell_lt t0; replace ls := cell_lt s2; have F2 := trivial)
        | (go_at_call 42; clear F2; refine (HB.out w3).mono ?_; rintro e w4 ⟨rfl, hb4⟩; replace s2 := cell_keep s2 hb4; replace t2 := cell_keep t2 hb4; replace lt := cell_lt t2; replace ls := cell_lt s2; have F3 := trivial))
      go_ret
      exact ⟨rfl, Below.thru (Below.thru B2 hb3 (Nat.le_refl _)) hb4 (Nat.le_refl _)⟩

set_option maxRecDepth 20000 in
set_option maxHeartbeats 2000000 in
theorem innerB_any (a b : Ev) : Calls Tryz.prog 43 #[.agg a.cells.toArray, .agg b.cells.toArray] w fun e w' => e = .returned (.bool (a.th == b.th)) ∧ Below w.heap.size w w' := by
  obtain ⟨w1, hw1⟩ : ∃ w1, w1 = w.alloc (.cells a.cells.toArray 52) := ⟨_, rfl⟩
  have b1 : Below w.heap.size w w1 := by rw [hw1]; exact below_new _ _
  have b2 := below_new w1 (.cells b.cells.toArray 52)
  have B2 := Below.thru b1 b2 (Nat.le_refl _)
  rw [hw1] at B2
  clear hw1 b1 b2
  unfold Ev.cells at *
  go_enter Tryz.func43, Tryz.ntmps43
  go_wp2
  go_ret
  exact ⟨rfl, B2⟩

set_option maxRecDepth 20000 in
set_option maxHeartbeats 2000000 in
theorem Alike_any (hx : ExZ (fun _ => True) w r x) (hn : x.evs.length ≤ 32) : Calls Tryz.prog 13 #[.agg (exC r)] w fun e w' => ∃ v, e = .returned v ∧ SlA (fun k => w.heap.size ≤ k) U32E w' v (mkR x.evs.length (alikeF x.evs)) ∧ Below w.heap.size w w' := by
  have hb1 := below_new w (.cells (exC r) 42)
  have hU := unlikePairs_any r x 41 (fun x y => memB x && (memB y && (x.lc == y.lc))) _ (hx.keep hb1) hn (fun args w => by kernel_rfl) (fun a b W => alikeB_any W a b)
  rw [← alike_pair] at hU
  generalize alikeF x.evs = F at *
  have HU : Hid (Calls _ _ _ _ _) := hU
  clear hU
  unfold exC at *
  go_enter Tryz.func13, Tryz.ntmps13
  go_wp2_with (go_at_call 40; refine HU.out.mono ?_; rintro e w2 ⟨v, rfl, hV, hb2⟩)
  go_ret
  exact ⟨v, rfl, hV.mono (fun b hb => by have := hb1.size; omega), Below.thru hb1 hb2 (Nat.le_refl _)⟩
set_option maxRecDepth 20000 in
set_option maxHeartbeats 2000000 in
theorem Inner_any (hx : ExZ (fun _ => True) w r x) (hn : x.evs.length ≤ 32) : Calls Tryz.prog 15 #[.agg (exC r)] w fun e w' => ∃ v, e = .returned v ∧ SlA (fun k => w.heap.size ≤ k) U32E w' v (mkR x.evs.length (innerF x.evs)) ∧ Below w.heap.size w w' := by
  have hb1 := below_new w (.cells (exC r) 42)
  have hU := unlikePairs_any r x 43 (fun x y => x.th == y.th) _ (hx.keep hb1) hn (fun args w => by kernel_rfl) (fun a b W => innerB_any W a b)
  rw [← inner_pair] at hU
  generalize innerF x.evs = F at *
  have HU : Hid (Calls _ _ _ _ _) := hU
  clear hU
  unfold exC at *
  go_enter Tryz.func15, Tryz.ntmps15
  go_wp2_with (go_at_call 40; refine HU.out.mono ?_; rintro e w2 ⟨v, rfl, hV, hb2⟩)
  go_ret
  exact ⟨v, rfl, hV.mono (fun b hb => by have := hb1.size; omega), Below.thru hb1 hb2 (Nat.le_refl _)⟩
end
end Go.Proofs.YtcalinfdckklfaaGreatDoor
