/- ExecAllW, Frame, InsTab, InsOpen, FlowOpen, TestOpen, ValsOpen: what is used of them. -/
import Derived.Test.YtcalinfdckklfaaGreatDoorPk29
import Derived.Test.YtcalinfdckklfaaGreatDoorPk30
import Derived.Test.YtcalinfdckklfaaGreatDoorPk8
import Derived.Test.YtcalinfdckklfaaGreatDoorPk43
import Derived.Test.YtcalinfdckklfaaGreatDoorPk47
import Derived.ProofKit
import Derived.OpenShut
import Derived.Carry
import Derived.Below
import Derived.Test.YtcalinfdckklfaaGreatDoorPk2
import Derived.Test.YtcalinfdckklfaaGreatDoorRows
import Derived.LaidLaws
import Derived.LaidMore
import Derived.Test.YtcalinfdckklfaaGreatDoorProg
import Derived.Test.YtcalinfdckklfaaGreatDoorPk22
import Derived.Test.YtcalinfdckklfaaGreatDoorPk6
import Derived.Stop.LaidErr
import Derived.Test.YtcalinfdckklfaaGreatDoorPk12
namespace Go.Proofs.YtcalinfdckklfaaGreatDoor
open Go.RowKit
attribute [local go_sem] Ext.cell Ext.frozen

set_option maxRecDepth 20000 in
set_option maxHeartbeats 4000000 in
theorem real10_is {A : Nat → Prop} (r : Nat → Value) (x : Ex) (w : World) (h : ExZ A w r x) : Calls Tryz.prog 11 #[.agg (exC r)] w fun e w' => e = .returned (.agg (exC r)) ∧ Below w.heap.size w w' := by
  obtain ⟨p0, c0, e0⟩ := h.e0.len
  obtain ⟨p1, c1, e1⟩ := h.e1.len
  obtain ⟨p2, c2, e2⟩ := h.e2.len
  obtain ⟨p3, c3, e3⟩ := h.e3.len
  obtain ⟨p4, c4, e4⟩ := h.e4.len
  obtain ⟨p5, c5, e5⟩ := h.e5.len
  obtain ⟨p6, c6, e6⟩ := h.e6.len
  have hexC : exC r = #[.slice p0 x.evs.length c0, .slice p1 x.po.length c1, .slice p2 x.ad.length c2, .slice p3 x.da.length c3, .slice p4 x.ct.length c4, .slice p5 x.rm.length c5, .slice p6 x.regs.length c6] := by unfold exC; rw [e0, e1, e2, e3, e4, e5, e6]
  clear e0 e1 e2 e3 e4 e5 e6 h
  rw [hexC]
  clear hexC
  obtain ⟨w1, hw1⟩ : ∃ w1, w1 = w.alloc (.cells #[.slice p0 x.evs.length c0, .slice p1 x.po.length c1, .slice p2 x.ad.length c2, .slice p3 x.da.length c3, .slice p4 x.ct.length c4, .slice p5 x.rm.length c5, .slice p6 x.regs.length c6] 42) := ⟨_, rfl⟩
  have k1 : Blk w1 w.heap.size #[.slice p0 x.evs.length c0, .slice p1 x.po.length c1, .slice p2 x.ad.length c2, .slice p3 x.da.length c3, .slice p4 x.ct.length c4, .slice p5 x.rm.length c5, .slice p6 x.regs.length c6] 42 := by rw [hw1]; exact Blk.new
  have b1 : Below w.heap.size w w1 := by rw [hw1]; exact below_new _ _
  have u1 : w1.heap.size = w.heap.size + 1 := by rw [hw1]; simp
  obtain ⟨w2, hw2⟩ : ∃ w2, w2 = w1.alloc (.cells #[.slice none 0 0, .slice none 0 0, .slice none 0 0, .slice none 0 0, .slice none 0 0, .slice none 0 0, .slice none 0 0] 47) := ⟨_, rfl⟩
  have k2 : Blk w2 (w.heap.size + 1) #[.slice none 0 0, .slice none 0 0, .slice none 0 0, .slice none 0 0, .slice none 0 0, .slice none 0 0, .slice none 0 0] 47 := by rw [hw2]; exact Blk.newAt u1
  have b2 : Below w1.heap.size w1 w2 := by rw [hw2]; exact below_new _ _
  have B2 := Below.thru b1 b2 (Nat.le_refl _)
  have kk := k1.keep b2
  have y0 : w2.cell? ⟨w.heap.size, 0, none⟩ = some (.slice p0 x.evs.length c0) := kk.cell 0
  have y1 : w2.cell? ⟨w.heap.size, 1, none⟩ = some (.slice p1 x.po.length c1) := kk.cell 1
  have y2 : w2.cell? ⟨w.heap.size, 2, none⟩ = some (.slice p2 x.ad.length c2) := kk.cell 2
  have y3 : w2.cell? ⟨w.heap.size, 3, none⟩ = some (.slice p3 x.da.length c3) := kk.cell 3
  have y4 : w2.cell? ⟨w.heap.size, 4, none⟩ = some (.slice p4 x.ct.length c4) := kk.cell 4
  have y5 : w2.cell? ⟨w.heap.size, 5, none⟩ = some (.slice p5 x.rm.length c5) := kk.cell 5
  have y6 : w2.cell? ⟨w.heap.size, 6, none⟩ = some (.slice p6 x.regs.length c6) := kk.cell 6
  have ly := cell_lt y0
  have HW1 : Hid _ := hw1
  have HW2 : Hid _ := hw2
  clear hw1 hw2 k1 b1 b2 kk u1
  have F1 := trivial
  go_enter Tryz.func11, Tryz.ntmps11
  go_wp2_with (first
    | (clear F1; rw [← HW1.out, ← HW2.out]; have F2 := trivial)
    | (clear F2; refine wpList_storeB (by rfl) 47 (.tmp 2) (.tmp 17) (by rfl) (w.heap.size + 1) #[.slice p0 x.evs.length c0, .slice p1 x.po.length c1, .slice p2 x.ad.length c2, .slice p3 x.da.length c3, .slice p4 x.ct.length c4, .slice p5 x.rm.length c5, .slice p6 x.regs.length c6] _ 47 (by rfl) (by rfl) k2 (by kernel_rfl) (by rfl) (by simp [Value.oneCell']) ?_; intro wL kM oL zL; simp only [Act.put]))
  have z0 : wL.cell? ⟨w.heap.size + 1, 0, none⟩ = some (.slice p0 x.evs.length c0) := kM.cell 0
  have z1 : wL.cell? ⟨w.heap.size + 1, 1, none⟩ = some (.slice p1 x.po.length c1) := kM.cell 1
  have z2 : wL.cell? ⟨w.heap.size + 1, 2, none⟩ = some (.slice p2 x.ad.length c2) := kM.cell 2
  have z3 : wL.cell? ⟨w.heap.size + 1, 3, none⟩ = some (.slice p3 x.da.length c3) := kM.cell 3
  have z4 : wL.cell? ⟨w.heap.size + 1, 4, none⟩ = some (.slice p4 x.ct.length c4) := kM.cell 4
  have z5 : wL.cell? ⟨w.heap.size + 1, 5, none⟩ = some (.slice p5 x.rm.length c5) := kM.cell 5
  have z6 : wL.cell? ⟨w.heap.size + 1, 6, none⟩ = some (.slice p6 x.regs.length c6) := kM.cell 6
  refine bodyPost_ret (v := .agg #[.slice p0 x.evs.length c0, .slice p1 x.po.length c1, .slice p2 x.ad.length c2, .slice p3 x.da.length c3, .slice p4 x.ct.length c4, .slice p5 x.rm.length c5, .slice p6 x.regs.length c6]) (by simp [results, Tryz.results11, go_sem, z0, z1, z2, z3, z4, z5, z6]) rfl ⟨rfl, B2.trans (oL.below B2.size (fun k hk => by omega))⟩
/-- What Join does with traces that may be joined. -/
theorem joinSaid : JoinSaid := fun p c l w hl hr h24 hok hn => refJoin_is p c l w hl hr h24 hok hn
theorem all_regs {xs : List Int} {ts : List (List Ins)} {x : Ex} (h : x ∈ (allZ xs ts).1) : x.evs.length ≤ 24 ∧ x.regs.length ≤ 1000 ∧ ∀ l ∈ x.regs, l.length ≤ 4 := by
  obtain ⟨h3, q, hway, hxe⟩ := allZ_mem h
  subst hxe
  refine ⟨?_, ?_, fun l hl => ?_⟩
  · show (evsJ _ _).length ≤ _; rw [evsJ_len]; exact way_tot hway h3
  · show (regsJ _).length ≤ _; rw [regsJ_len, List.length_map, hway.len]; omega
  · have hl' : l ∈ regsJ (q.map St.tr) := hl
    unfold regsJ at hl'
    obtain ⟨t, _, rfl⟩ := List.mem_map.1 hl'
    simp

set_option maxRecDepth 20000 in
set_option maxHeartbeats 16000000 in
theorem ExecAll_over (hJ : JoinSaid) (pi pt : Option Addr) (ci ct : Nat) (xs : List Int) (ts : List (List Ins)) (w : World) (T : FEnv w) (hi : Sl IntE w (.slice pi xs.length ci) xs) (ht : Sl ThrE w (.slice pt ts.length ct) ts) (hz : ∀ x ∈ xs, InZ x) :
    Calls Tryz.prog 4 #[.agg #[.slice pi xs.length ci, .slice pt ts.length ct]] w fun e w' => e = .returned (.bool true) ∧ Below w.heap.size w w' := by
  have hb1 := below_new w (.cells #[.slice pi xs.length ci, .slice pt ts.length ct] 63)
  have k1 : Blk (w.alloc (.cells #[.slice pi xs.length ci, .slice pt ts.length ct] 63)) w.heap.size #[.slice pi xs.length ci, .slice pt ts.length ct] 63 := Blk.new
  have hF := fun W (hB : Below w.heap.size w W) => Few_any pi pt ci ct xs ts W (ht.keep hB)
  have HF : Hid _ := hF
  clear hF
  have hne : ∀ w, Nonempty (Ext w) := ext_some
  have F1 := trivial
  cases hfew : fewB xs ts
  · have HW : Hid _ := hfew
    clear hfew
    go_enter Tryz.func4, Tryz.ntmps4
    go_wp2_with (first
      | (go_at_call 5; clear F1; refine (shown10_any _ (T.below hb1)).mono ?_; rintro e w1 ⟨rfl, hb2⟩; have B1 := Below.thru hb1 hb2 (Nat.le_refl _); have kk := k1.keep hb2; have x0 : w1.cell? ⟨w.heap.size, 0, none⟩ = some (.slice pi xs.length ci) := kk.cell 0; have x1 : w1.cell? ⟨w.heap.size, 1, none⟩ = some (.slice pt ts.length ct) := kk.cell 1; have lx := cell_lt x0; have F2 := trivial)
      | (go_at_call 17; clear F2; refine (HF.out _ B1).mono ?_; rintro e w2 ⟨rfl, hb3⟩; rw [HW.out]; have B2 := Below.thru B1 hb3 (Nat.le_refl _)))
    go_ret
    exact ⟨rfl, B2⟩
  · obtain ⟨hS, hfl, -, -⟩ := few_size hfew
    have HW : Hid _ := hfew
    clear hfew
    have hA := fun W (hB : Below w.heap.size w W) => All_any pi pt ci ct xs ts W (T.below hB) (hi.keep hB) (ht.keep hB) (by omega) hz
    have hR := fun W (hB : Below w.heap.size w W) => refAll_any hJ pi pt ci ct xs ts W (hi.keep hB) (ht.keep hB) (by omega)
    have hmem := fun x (h : x ∈ (allZ xs ts).1) => all_regs h
    have hzl : (allZ xs ts).1.length ≤ 20000 := by
      by_cases h0 : (ofZ xs ts).2 = 0
      · rcases allZ_len h0 with ⟨h1, -, h2⟩ | ⟨-, h2⟩
        · rw [h2]; exact h1
        · rw [h2]; simp
      · rw [allZ_bad h0]; simp
    generalize allZ xs ts = z at *
    obtain ⟨zl, ze⟩ := z
    replace hzl : zl.length ≤ 20000 := hzl
    have HA : Hid _ := hA
    have HR : Hid _ := hR
    have HM : Hid (∀ x ∈ zl, x.evs.length ≤ 24 ∧ x.regs.length ≤ 1000 ∧ ∀ l ∈ x.regs, l.length ≤ 4) := hmem
    clear hA hR hmem
    have hn1 : ((zl.length : Int) != (zl.length : Int)) = false := by simp
    have hn2 : (ze != ze) = false := by simp
    go_enter Tryz.func4, Tryz.ntmps4
    go_wp2_with (first
      | (go_at_call 5; clear F1; refine (shown10_any _ (T.below hb1)).mono ?_; rintro e w1 ⟨rfl, hb2⟩; have B1 := Below.thru hb1 hb2 (Nat.le_refl _); have kk := k1.keep hb2; have x0 : w1.cell? ⟨w.heap.size, 0, none⟩ = some (.slice pi xs.length ci) := kk.cell 0; have x1 : w1.cell? ⟨w.heap.size, 1, none⟩ = some (.slice pt ts.length ct) := kk.cell 1; have lx := cell_lt x0; have F2 := trivial)
      | (go_at_call 17; clear F2; refine (HF.out _ B1).mono ?_; rintro e w2 ⟨rfl, hb3⟩; rw [HW.out]; have B2 := Below.thru B1 hb3 (Nat.le_refl _); replace x0 := cell_keep x0 hb3; replace x1 := cell_keep x1 hb3; replace lx := cell_lt x0; have k2 := kk.keep hb3; have F3 := trivial)
      | (go_at_call 18; clear F3; refine (HA.out _ B2).mono ?_; rintro e w3 ⟨u3, rfl, hU3, hb4⟩; obtain ⟨p3, c3, rfl⟩ := hU3.len; have B3 := Below.thru B2 hb4 (Nat.le_refl _); replace x0 := cell_keep x0 hb4; replace x1 := cell_keep x1 hb4; replace lx := cell_lt x0; have k3 := k2.keep hb4; have F4 := trivial)
      | (go_at_call 19; clear F4; refine (HR.out _ B3).mono ?_; rintro e w4 ⟨u4, rfl, hU4, hb5⟩; obtain ⟨p4, c4, rfl⟩ := hU4.len; have B4 := Below.thru B3 hb5 (Nat.le_refl _); have V3 := hU3.keep hb5; have F5 := trivial))
    clear x0 x1 lx hn1 hn2
    go_loopw [8] (fun i wr => ∃ k : Nat, k ≤ zl.length ∧ i = .int .i64 k ∧ Below w4.heap.size w4 wr) (fun i _ => zl.length - (Go.RowKit.intOf i).toNat)
    case atStart => exact ⟨0, Nat.zero_le _, rfl, Below.refl _ _⟩
    case round =>
      obtain ⟨k, hk, rfl, hbr⟩ := hrel
      by_cases hlt : k < zl.length
      · have hlt' : (k : Int) < (zl.length : Int) := by omega
        obtain ⟨xb, xo, r, rfl, -, hX, hat⟩ := (ex_at (V3.keep hbr)).2 k hlt
        obtain ⟨yb, yo, q, rfl, -, hY, hbt⟩ := (ex_at (hU4.keep hbr)).2 k hlt
        obtain ⟨m1, m2, m3⟩ := HM.out _ (List.getElem_mem hlt)
        generalize zl[k] = x at hX hY m1 m2 m3
        have q0 := hat.c0; have q1 := hat.c1; have q2 := hat.c2; have q3 := hat.c3; have q4 := hat.c4; have q5 := hat.c5; have q6 := hat.c6;
        have p0 := hbt.c0; have p1 := hbt.c1; have p2 := hbt.c2; have p3 := hbt.c3; have p4 := hbt.c4; have p5 := hbt.c5; have p6 := hbt.c6;
        have lq := cell_lt q0
        have lp := cell_lt p0
        have hRE := fun W (hB : Below wr.heap.size wr W) => real10_is r x W (hX.keep hB)
        have hSM := fun W (hB : Below wr.heap.size wr W) => Same10_is r q x W ((hX.keep hB).any) ((hY.keep hB).any) (by omega) (by omega) (fun l hl => by have := m3 l hl; omega)
        unfold exC at hRE hSM
        have HRE : Hid _ := hRE
        have HSM : Hid _ := hSM
        clear hRE hSM m1 m2 m3 hX hY hat hbt
        go_wp2
        refine wp_region_mix [([0, 1, 2, 3, 5, 6, 7, 8], 4), ([], 9)] [10] (by kernel_rfl) (by kernel_rfl) (fun _ _ d _ _ h => by cases d <;> exact h) ?_
        dsimp only [List.map, opAt]
        have C0 : Below wr.heap.size wr wr.drew := Below.drew (Below.refl _ _)
        refine wpMix_stage ?_
        repeat (go_big_quiet_step (fail))
        refine wpQuiet_nil ?_
        go_wp2_with (go_at_call 11; refine (HRE.out _ C0).mono ?_; rintro e w5 ⟨rfl, hb6⟩)
        have C5 := Below.thru C0 hb6 (Nat.le_refl _)
        refine ⟨C5, ?_⟩
        refine wpMix_stage ?_
        refine wpQuiet_nil ?_
        go_wp2_with (go_at_call 10; refine (HSM.out _ C5).mono ?_; rintro e w6 ⟨rfl, hb7⟩)
        have C6 := Below.thru C5 hb7 (Nat.le_refl _)
        refine ⟨C6, ?_⟩
        refine wpMix_last ?_
        repeat (go_big_quiet_step (fail))
        refine wpQuiet_nil ?_
        go_wp2
        go_roundw
        case rel => exact ⟨k + 1, by omega, by go_num, Below.thru hbr C6 (Nat.le_refl _)⟩
        case measure => simp [Go.RowKit.intOf]; omega
      · have hlt' : ¬ (k : Int) < (zl.length : Int) := by omega
        go_wp2
        go_ret
        exact ⟨rfl, Below.thru B4 hbr (Nat.le_refl _)⟩
theorem ExecAll_true (pi pt : Option Addr) (ci ct : Nat) (xs : List Int) (ts : List (List Ins)) (w : World) (T : FEnv w) (hi : Sl IntE w (.slice pi xs.length ci) xs) (ht : Sl ThrE w (.slice pt ts.length ct) ts) (hz : ∀ x ∈ xs, InZ x) :
    Calls Tryz.prog 4 #[.agg #[.slice pi xs.length ci, .slice pt ts.length ct]] w fun e w' => e = .returned (.bool true) ∧ Below w.heap.size w w' :=
  ExecAll_over joinSaid pi pt ci ct xs ts w T hi ht hz
end Go.Proofs.YtcalinfdckklfaaGreatDoor
namespace Go.Proofs.YtcalinfdckklfaaGreatDoor
open Go.ChangeShapes Go.WideShapes Go.ChangeAt Go.RowKit

theorem trodAll_stays {H : Type} {enc : TypeId × Value → H} {P : Program} (hl : laidOutB P = true) {W W' : World} (hb : Below W.heap.size W W') :
    ∀ (ts : List TypeId) (vs : List Value) (ds : List (DataW H)) (ps : List MemPlace), (∀ t ∈ ts, P.readableRec t = true ∧ t < P.types.size) → (∀ x ∈ ps, x.block < W.heap.size) →
      DataW.TrodAll enc P W 0 (fun _ => true) true ts vs ds ps → DataW.TrodAll enc P W' 0 (fun b => decide (b < W.heap.size)) true ts vs ds ps
  | [], [], [], _, _, _, h => h
  | t :: ts, v :: vs, d :: ds, _, hr, hlt, ⟨p, q, h1, h2, e⟩ => by
    subst e
    exact ⟨p, q, Below.trod hl (hr t (by simp)).1 (hr t (by simp)).2 h1 hb (fun x hx => hlt x (by simp [hx])),
      trodAll_stays hl hb ts vs ds q (fun u hu => hr u (by simp [hu])) (fun x hx => hlt x (by simp [hx])) h2, rfl⟩
  | [], _ :: _, _, _, _, _, h => h.elim
  | [], [], _ :: _, _, _, _, h => h.elim
  | _ :: _, [], _, _, _, _, h => h.elim
  | _ :: _, _ :: _, [], _, _, _, h => h.elim

theorem trodAll_len {H : Type} {enc : TypeId × Value → H} {P : Program} {w : World} {base : Nat} {sp : Nat → Bool} {held : Bool} :
    ∀ (ts : List TypeId) (vs : List Value) (ds : List (DataW H)) (ps : List MemPlace), DataW.TrodAll enc P w base sp held ts vs ds ps → ds.length = ts.length
  | [], [], [], _, _ => rfl
  | _ :: ts, _ :: vs, _ :: ds, _, ⟨_, q, _, h2, _⟩ => by simp [trodAll_len ts vs ds q h2]
  | [], _ :: _, _, _, h => h.elim
  | [], [], _ :: _, _, h => h.elim
  | _ :: _, [], _, _, h => h.elim
  | _ :: _, _ :: _, [], _, h => h.elim

/-- The row's post, of a law that names no variable in its specification. -/
theorem law_post {H : Type} {enc : TypeId × Value → H} {P : Program} {f : Func} {s : ChangeSpec} {W W' : World} {args : Array Value} {ds gs : List (DataW H)} {before : List MemPlace} {tb : TypeId}
    (hl : laidOutB P = true) (hr : ∀ t ∈ f.params.toList, P.readableRec t = true ∧ t < P.types.size) (hrt : f.resultTypes = #[tb]) (htb : P.underlying tb = some .bool)
    (hvars : s.vars = []) (hfn : ∀ ds' : List (DataW H), ds'.length = f.params.size → s.fn H (ds' ++ []) = { results := [.lit (.bool true)], args := ds' })
    (hW : DataW.Whole enc P f.params.toList s.vars false W args.toList ds gs before) (hb : Below W.heap.size W W') :
    s.post enc P f false true false false W args (.bool true) W' := by
  have hlt : ∀ x ∈ before, x.block < W.heap.size := fun x hx => hW.lt x hx
  have hW' := hW
  obtain ⟨p, q, hA, hV, rfl, hfz, hnd⟩ := hW
  rw [hvars] at hV
  obtain ⟨rfl, rfl⟩ := trodVars_none hV
  simp only [List.append_nil] at hlt hW'
  have hlen : ds.length = f.params.size := by
    have := trodAll_len _ _ _ _ hA
    simpa using this
  refine ⟨ds, [], p, [], p, [], hW', ?_, ?_, ?_, Below.frame hb _, fun h => by cases h⟩
  · rw [hfn ds hlen, hrt]
    exact ⟨[], [], shut_bool htb true, rfl, rfl⟩
  · rw [hfn ds hlen]
    exact trodAll_stays hl hb _ _ _ _ hr hlt hA
  · rw [hfn ds hlen, hvars]
    rfl
end Go.Proofs.YtcalinfdckklfaaGreatDoor
namespace Go.Proofs.YtcalinfdckklfaaGreatDoor
open Go.ChangeShapes Go.WideShapes Go.ChangeAt Go.RowKit

theorem gShapes : Tryz.prog.globalNamed "cupola/ins.shapes" = some 0 := by kernel_rfl
theorem tShapes : (Tryz.prog.globals[0]?).map (·.type) = some 167 := by kernel_rfl
theorem cellsRow : Tryz.prog.cellsOf 148 = 3 := by kernel_rfl
theorem cellsInt : Tryz.prog.cellsOf 3 = 1 := by kernel_rfl
theorem cellsStr : Tryz.prog.cellsOf 9 = 1 := by kernel_rfl

set_option maxRecDepth 20000 in
theorem row_cells {enc : TypeId × Value → Unit} {W : World} {sp : Nat → Bool} {held : Bool} {m : Nat} {cs : List Value} {y : DataW Unit × List MemPlace} {s : List UInt8} {k f : Int}
    (h : DataW.trod enc Tryz.prog W 0 sp held m 148 cs = some y) (hy : y.1 = .agg [.lit (.string s), .lit (.int .i64 k), .lit (.int .i64 f)]) :
    cs = [.string ⟨s.toArray⟩, .int .i64 k, .int .i64 f] := by
  obtain ⟨xs, n, _, rfl, hl, hlen, hf⟩ := DataW.trod_struct Tryz.underlying148 h
  have h0 : DataW.trod enc Tryz.prog W 0 sp held n 9 ((cs.drop 0).take (Tryz.prog.cellsOf 9)) = xs[0]? := hf 0 _ rfl
  have h1 : DataW.trod enc Tryz.prog W 0 sp held n 3 ((cs.drop 1).take (Tryz.prog.cellsOf 3)) = xs[1]? := hf 1 _ rfl
  have h2 : DataW.trod enc Tryz.prog W 0 sp held n 3 ((cs.drop 2).take (Tryz.prog.cellsOf 3)) = xs[2]? := hf 2 _ rfl
  rw [cellsRow] at hl
  simp only [DataW.agg.injEq] at hy
  match cs, hl, xs, hlen, h0, h1, h2, hy with
  | [c0, c1, c2], _, [x0, x1, x2], _, h0, h1, h2, hy =>
    simp only [List.map_cons, List.map_nil, List.cons.injEq, and_true] at hy
    obtain ⟨y0, y1, y2⟩ := hy
    simp only [cellsInt, cellsStr, List.drop_zero, List.drop_succ_cons, List.take_succ_cons, List.take_zero, List.getElem?_cons_zero, List.getElem?_cons_succ] at h0 h1 h2
    obtain ⟨a0, e0, f0, _⟩ := DataW.trod_string Tryz.underlying9 h0
    obtain ⟨a1, e1, f1, _⟩ := DataW.trod_int Tryz.underlying3 h1
    obtain ⟨a2, e2, f2, _⟩ := DataW.trod_int Tryz.underlying3 h2
    subst f0 f1 f2
    simp only [DataW.lit.injEq, Lit.string.injEq, Lit.int.injEq, true_and] at y0 y1 y2
    subst y0 y1 y2
    simp only [List.cons.injEq, and_true] at e0 e1 e2
    subst e0 e1 e2
    rfl

set_option maxRecDepth 20000 in
theorem row_at {enc : TypeId × Value → Unit} {W : World} {sp : Nat → Bool} {held : Bool} {m : Nat} {cs : List Value} {xs : List (DataW Unit × List MemPlace)} {s : List UInt8} {k f : Int} (i : Nat)
    (h : DataW.trod enc Tryz.prog W 0 sp held m 148 ((cs.drop (i * 3)).take 3) = xs[i]?) (hx : (xs.map (·.1))[i]? = some (.agg [.lit (.string s), .lit (.int .i64 k), .lit (.int .i64 f)])) :
    cs[i * 3]? = some (.string ⟨s.toArray⟩) ∧ cs[i * 3 + 1]? = some (.int .i64 k) ∧ cs[i * 3 + 2]? = some (.int .i64 f) := by
  rw [List.getElem?_map, Option.map_eq_some_iff] at hx
  obtain ⟨y, hy, hy1⟩ := hx
  rw [hy] at h
  have e := row_cells h hy1
  have at_ : ∀ j, j < 3 → cs[i * 3 + j]? = ((cs.drop (i * 3)).take 3)[j]? := fun j hj => by
    rw [List.getElem?_take, if_pos hj, List.getElem?_drop]
  have a0 := at_ 0 (by omega)
  have a1 := at_ 1 (by omega)
  have a2 := at_ 2 (by omega)
  rw [e] at a0 a1 a2
  exact ⟨by simpa using a0, by simpa using a1, by simpa using a2⟩

set_option maxRecDepth 20000 in
theorem tab_of {W : World} (h : laidMetH Tryz.prog [("cupola/ins.shapes", Rows.laid_cupola_ins_shapes)] W) : Tab W := by
  rw [MakeChecks.laidMetH_plain _ _ _ (by kernel_rfl)] at h
  obtain ⟨ps, ⟨g0, t0, cs0, f0, p0, q0, hg0, ht0, hv0, hd0, _, _⟩, _, _⟩ := h
  obtain rfl := Option.some.inj (gShapes.symm.trans hg0)
  obtain rfl := Option.some.inj (tShapes.symm.trans ht0)
  obtain ⟨xs, m, _, hx, hlen, hn, hel⟩ := DataW.trod_array Tryz.underlying167 hd0
  rw [cellsRow] at hel
  simp only [Prod.mk.injEq] at hx
  obtain ⟨hx, _⟩ := hx
  have hx' : xs.map (·.1) = _ := (DataW.agg.inj hx).symm
  have at0 : ∀ i, W.cell? ⟨0, i, none⟩ = cs0.toList[i]? := fun i => by rw [World.var?_cell hg0 hv0 i]; simp
  have all : ∀ op : Int, 0 ≤ op → op < 15 → W.cell? ⟨0, op.toNat * 3, none⟩ = some (.string (nameS op)) ∧ W.cell? ⟨0, op.toNat * 3 + 1, none⟩ = some (.int .i64 (kindZ op)) ∧ W.cell? ⟨0, op.toNat * 3 + 2, none⟩ = some (.int .i64 (fieldsZ op)) := by
    intro op h0 h1
    rw [at0, at0, at0]
    have hc : op = 0 ∨ op = 1 ∨ op = 2 ∨ op = 3 ∨ op = 4 ∨ op = 5 ∨ op = 6 ∨ op = 7 ∨ op = 8 ∨ op = 9 ∨ op = 10 ∨ op = 11 ∨ op = 12 ∨ op = 13 ∨ op = 14 := by omega
    rcases hc with h | h | h | h | h | h | h | h | h | h | h | h | h | h | h
    all_goals
      subst h
      exact row_at _ (hel _ (by decide)) (by rw [hx']; rfl)
  refine ⟨?_, fun op h0 h1 => (all op h0 h1).1, fun op h0 h1 => (all op h0 h1).2.1, fun op h0 h1 => (all op h0 h1).2.2⟩
  exact cell_lt (all 0 (by decide) (by decide)).1
end Go.Proofs.YtcalinfdckklfaaGreatDoor
namespace Go.Proofs.YtcalinfdckklfaaGreatDoor
open Go.ChangeShapes Go.WideShapes Go.ChangeAt Go.RowKit

theorem insCells : Tryz.prog.cellsOf 72 = 6 := by kernel_rfl
theorem int1 : Tryz.prog.cellsOf 3 = 1 := by kernel_rfl
theorem int641 : Tryz.prog.cellsOf 2 = 1 := by kernel_rfl

set_option maxRecDepth 20000 in
theorem ins_cells {H : Type} {enc : TypeId × Value → H} {W : World} {base : Nat} {sp : Nat → Bool} {held : Bool} {m : Nat} {cs : List Value} {y : DataW H × List MemPlace}
    (h : DataW.trod enc Tryz.prog W base sp held m 72 cs = some y) : ∃ op d a b l i : Int, cs = [.int .i64 op, .int .i64 d, .int .i64 a, .int .i64 b, .int .i64 l, .int .i64 i] := by
  obtain ⟨xs, n, _, rfl, hl, hlen, hf⟩ := DataW.trod_struct Tryz.underlying72 h
  have h0 : DataW.trod enc Tryz.prog W base sp held n 3 ((cs.drop 0).take (Tryz.prog.cellsOf 3)) = xs[0]? := hf 0 _ rfl
  have h1 : DataW.trod enc Tryz.prog W base sp held n 3 ((cs.drop 1).take (Tryz.prog.cellsOf 3)) = xs[1]? := hf 1 _ rfl
  have h2 : DataW.trod enc Tryz.prog W base sp held n 3 ((cs.drop 2).take (Tryz.prog.cellsOf 3)) = xs[2]? := hf 2 _ rfl
  have h3 : DataW.trod enc Tryz.prog W base sp held n 3 ((cs.drop 3).take (Tryz.prog.cellsOf 3)) = xs[3]? := hf 3 _ rfl
  have h4 : DataW.trod enc Tryz.prog W base sp held n 3 ((cs.drop 4).take (Tryz.prog.cellsOf 3)) = xs[4]? := hf 4 _ rfl
  have h5 : DataW.trod enc Tryz.prog W base sp held n 2 ((cs.drop 5).take (Tryz.prog.cellsOf 2)) = xs[5]? := hf 5 _ rfl
  rw [insCells] at hl
  match cs, hl, xs, hlen, h0, h1, h2, h3, h4, h5 with
  | [c0, c1, c2, c3, c4, c5], _, [x0, x1, x2, x3, x4, x5], _, h0, h1, h2, h3, h4, h5 =>
    simp only [int1, int641, List.drop_zero, List.drop_succ_cons, List.take_succ_cons, List.take_zero, List.getElem?_cons_zero, List.getElem?_cons_succ] at h0 h1 h2 h3 h4 h5
    obtain ⟨a0, e0, _, _⟩ := DataW.trod_int Tryz.underlying3 h0
    obtain ⟨a1, e1, _, _⟩ := DataW.trod_int Tryz.underlying3 h1
    obtain ⟨a2, e2, _, _⟩ := DataW.trod_int Tryz.underlying3 h2
    obtain ⟨a3, e3, _, _⟩ := DataW.trod_int Tryz.underlying3 h3
    obtain ⟨a4, e4, _, _⟩ := DataW.trod_int Tryz.underlying3 h4
    obtain ⟨a5, e5, _, _⟩ := DataW.trod_int Tryz.underlying2 h5
    simp only [List.cons.injEq, and_true] at e0 e1 e2 e3 e4 e5
    subst e0 e1 e2 e3 e4 e5
    exact ⟨_, _, _, _, _, _, rfl⟩

end Go.Proofs.YtcalinfdckklfaaGreatDoor
namespace Go.Proofs.YtcalinfdckklfaaGreatDoor
set_option maxRecDepth 20000
open Go.ChangeShapes Go.WideShapes Go.ChangeAt Go.RowKit

def laid8 : List (String × DataW Unit) := [("cupola/ins.shapes", Rows.laid_cupola_ins_shapes), ("cupola/flow.barriers", Rows.laid_cupola_flow_barriers)]
theorem gBar : Tryz.prog.globalNamed "cupola/flow.barriers" = some 1 := by kernel_rfl
theorem tBar : (Tryz.prog.globals[1]?).map (·.type) = some 175 := by kernel_rfl

theorem bar_of {W : World} (h : laidMet Tryz.prog [("cupola/flow.barriers", Rows.laid_cupola_flow_barriers)] W) : Bar W := by
  obtain ⟨ps, ⟨g0, t0, cs0, f0, p0, q0, hg0, ht0, hv0, hd0, _, _⟩, _, _⟩ := h
  obtain rfl := Option.some.inj (gBar.symm.trans hg0)
  obtain rfl := Option.some.inj (tBar.symm.trans ht0)
  obtain ⟨xs, m, _, hx, hlen, hn, hel⟩ := DataW.trod_array Tryz.underlying175 hd0
  rw [cellsInt] at hel
  simp only [Prod.mk.injEq] at hx
  have hx' : xs.map (·.1) = [.lit (.int .i64 3), .lit (.int .i64 4), .lit (.int .i64 5)] := (DataW.agg.inj hx.1).symm
  have at0 : ∀ i, W.cell? ⟨1, i, none⟩ = cs0.toList[i]? := fun i => by rw [World.var?_cell hg0 hv0 i]; simp
  have key : ∀ i (k : Int), i < 3 → (xs.map (·.1))[i]? = some (.lit (.int .i64 k)) → cs0.toList[i]? = some (.int .i64 k) := by
    intro i k hi hk
    rw [List.getElem?_map, Option.map_eq_some_iff] at hk
    obtain ⟨y, hy, hy1⟩ := hk
    have h1 := hel i hi
    rw [hy] at h1
    obtain ⟨a, e, f, _⟩ := DataW.trod_int Tryz.underlying3 h1
    subst f
    simp only [DataW.lit.injEq, Lit.int.injEq, true_and] at hy1
    subst hy1
    have : cs0.toList[i]? = ((cs0.toList.drop (i * 1)).take 1)[0]? := by rw [List.getElem?_take, if_pos (by decide), List.getElem?_drop, Nat.mul_one]; simp
    rw [this, e]
    rfl
  exact ⟨(at0 0).trans (key 0 3 (by decide) (by rw [hx']; rfl)), (at0 1).trans (key 1 4 (by decide) (by rw [hx']; rfl)), (at0 2).trans (key 2 5 (by decide) (by rw [hx']; rfl))⟩
theorem tab_head {W : World} {r : List (String × DataW Unit)} (h : laidMet Tryz.prog (("cupola/ins.shapes", Rows.laid_cupola_ins_shapes) :: r) W) : laidMet Tryz.prog [("cupola/ins.shapes", Rows.laid_cupola_ins_shapes)] W := by
  obtain ⟨ps, ⟨g0, t0, cs0, f0, p0, q0, hg0, ht0, hv0, hd0, _, e0⟩, hnd, hrows⟩ := h
  subst e0
  refine ⟨MemPlace.row ⟨g0, 0, none⟩ cs0.size ++ p0 ++ [], ⟨g0, t0, cs0, f0, p0, [], hg0, ht0, hv0, hd0, rfl, rfl⟩, ?_, fun b off hm => hrows b off ?_⟩
  · rw [List.append_nil]; exact (List.nodup_append.1 hnd).1
  · rw [List.append_nil] at hm; exact List.mem_append_left _ hm
theorem fenv_of {W : World} (h : laidMetH Tryz.prog laid8 W) : FEnv W := by
  unfold laid8 at h
  rw [MakeChecks.laidMetH_plain _ _ _ (by kernel_rfl)] at h
  exact ⟨tab_of (by rw [MakeChecks.laidMetH_plain _ _ _ (by kernel_rfl)]; exact tab_head h), bar_of h.tail⟩

theorem boolCells : Tryz.prog.cellsOf 4 = 1 := by kernel_rfl
theorem open_sl {α H : Type} {enc : TypeId × Value → H} {W : World} {b0 : Nat} {r : Reach} {sp : Nat → Bool} {held : Bool} {v : Value} {d : DataW H} {p : List MemPlace} {t e : TypeId} {R : Elem α} (ht : Tryz.prog.underlying t = some (.slice e)) (hs : Tryz.prog.cellsOf e = R.size) (hE : Opens enc Tryz.prog W sp held e R)
    (hv : Value.okWide Tryz.prog W r b0 t v) (h : DataW.Trod enc Tryz.prog W 0 sp held t v d p) :
    ∃ q c xs, v = .slice q (xs : List α).length c ∧ Sl R W (.slice q xs.length c) xs := by
  obtain ⟨a, len, cap, rfl⟩ := okWide_slice ht hv
  obtain ⟨fuel, hf⟩ := h
  obtain ⟨xs, v, e, s⟩ := opens_slice ht hs hE _ _ _ hf
  simp only [Value.cells, List.cons.injEq, and_true] at e
  subst e
  obtain ⟨q, c, e⟩ := s.len
  rw [e] at s ⊢
  exact ⟨q, c, xs, rfl, s⟩
end Go.Proofs.YtcalinfdckklfaaGreatDoor
namespace Go.Proofs.YtcalinfdckklfaaGreatDoor
set_option maxRecDepth 20000
open Go.ChangeShapes Go.WideShapes Go.ChangeAt Go.RowKit

theorem testCells : Tryz.prog.cellsOf 63 = 2 := by kernel_rfl
theorem numsCells : Tryz.prog.cellsOf 60 = 1 := by kernel_rfl
theorem thrsCells : Tryz.prog.cellsOf 61 = 1 := by kernel_rfl
theorem thrCells : Tryz.prog.cellsOf 73 = 1 := by kernel_rfl

theorem opens_ins {H : Type} {enc : TypeId × Value → H} {W : World} {sp : Nat → Bool} {held : Bool} : Opens enc Tryz.prog W sp held 72 InsE := by
  intro m cs y h
  obtain ⟨op, d, a, b, l, i, e⟩ := ins_cells h
  exact ⟨⟨op, d, a, b, l, i⟩, e⟩
theorem opens_thrs {H : Type} {enc : TypeId × Value → H} {W : World} {sp : Nat → Bool} {held : Bool} : Opens enc Tryz.prog W sp held 61 (SlE ThrE) :=
  opens_slice Tryz.underlying61 thrCells (opens_slice Tryz.underlying73 insCells opens_ins)


end Go.Proofs.YtcalinfdckklfaaGreatDoor
namespace Go.Proofs.YtcalinfdckklfaaGreatDoor
set_option maxRecDepth 20000
open Go.ChangeShapes Go.WideShapes Go.ChangeAt Go.RowKit

/-- Numbers of 64 bits. -/
def IntW : Elem Int where
  size := 1
  pos := Nat.one_pos
  cs := fun _ _ n c => c = [.int .i64 n] ∧ InZ n
  len := fun h => by rw [h.1]; rfl
  one := fun h u hu => by rw [h.1] at hu; simp at hu; subst hu; rfl
  keep := fun h _ => h
  mono := fun _ h => h
  lt := fun h => h
theorem sl_intw {w : World} {v : Value} {xs : List Int} (h : Sl IntW w v xs) : Sl IntE w v xs ∧ ∀ x ∈ xs, InZ x := by
  obtain ⟨p, cap, e, h0, h1⟩ := h
  refine ⟨⟨p, cap, e, h0, fun hne => ?_⟩, fun x hx => ?_⟩
  · obtain ⟨b, o, h2, h3, h4⟩ := h1 hne
    exact ⟨b, o, h2, h3, fun i hi => by obtain ⟨c, h5, h6⟩ := h4 i hi; exact ⟨c, h5.1, h6⟩⟩
  · obtain ⟨b, o, h2, h3, h4⟩ := h1 (List.ne_nil_of_mem hx)
    obtain ⟨i, hi, rfl⟩ := List.getElem_of_mem hx
    obtain ⟨c, h5, h6⟩ := h4 i hi
    exact h5.2
theorem opens_intw {H : Type} {enc : TypeId × Value → H} {P : Program} {W : World} {sp : Nat → Bool} {held : Bool} {t : TypeId} (ht : P.underlying t = some (.int .i64)) : Opens enc P W sp held t IntW := by
  intro m cs y h
  obtain ⟨a, e, _, hw⟩ := DataW.trod_int ht h
  exact ⟨a, e, hw⟩
theorem opens_numw {H : Type} {enc : TypeId × Value → H} {W : World} {sp : Nat → Bool} {held : Bool} : Opens enc Tryz.prog W sp held 60 (SlE IntW) :=
  opens_slice Tryz.underlying60 int641 (opens_intw Tryz.underlying2)

theorem open_testw {H : Type} {enc : TypeId × Value → H} {W : World} {b0 : Nat} {r : Reach} {sp : Nat → Bool} {held : Bool} {v : Value} {d : DataW H} {p : List MemPlace}
    (hv : Value.okWide Tryz.prog W r b0 63 v) (h : DataW.Trod enc Tryz.prog W 0 sp held 63 v d p) :
    ∃ pi ci pt ct xs ts, v = .agg #[.slice pi xs.length ci, .slice pt ts.length ct] ∧ Sl IntE W (.slice pi (xs : List Int).length ci) xs ∧ Sl ThrE W (.slice pt (ts : List (List Ins)).length ct) ts ∧ ∀ x ∈ xs, InZ x := by
  obtain ⟨cs, rfl, _⟩ := okWide_struct Tryz.underlying63 hv
  obtain ⟨fuel, hf⟩ := h
  obtain ⟨ys, n, _, _, hl, hlen, hfs⟩ := DataW.trod_struct Tryz.underlying63 hf
  have h0 : DataW.trod enc Tryz.prog W 0 sp held n 60 (((Value.agg cs).cells.toList.drop 0).take (Tryz.prog.cellsOf 60)) = ys[0]? := hfs 0 _ rfl
  have h1 : DataW.trod enc Tryz.prog W 0 sp held n 61 (((Value.agg cs).cells.toList.drop 1).take (Tryz.prog.cellsOf 61)) = ys[1]? := hfs 1 _ rfl
  rw [testCells] at hl
  obtain ⟨cl⟩ := cs
  simp only [Value.cells] at h0 h1 hl
  match cl, hl, ys, hlen, h0, h1 with
  | [c0, c1], _, [x0, x1], _, h0, h1 =>
    simp only [numsCells, thrsCells, List.drop_zero, List.drop_succ_cons, List.take_succ_cons, List.take_zero, List.getElem?_cons_zero, List.getElem?_cons_succ] at h0 h1
    obtain ⟨xs, v0, e0, s0⟩ := opens_numw _ _ _ h0
    obtain ⟨ts, v1, e1, s1⟩ := opens_thrs _ _ _ h1
    simp only [List.cons.injEq, and_true] at e0 e1
    subst e0 e1
    obtain ⟨pi, ci, rfl⟩ := s0.len
    obtain ⟨pt, ct, rfl⟩ := s1.len
    exact ⟨pi, ci, pt, ct, xs, ts, rfl, (sl_intw s0).1, s1, (sl_intw s0).2⟩
end Go.Proofs.YtcalinfdckklfaaGreatDoor
