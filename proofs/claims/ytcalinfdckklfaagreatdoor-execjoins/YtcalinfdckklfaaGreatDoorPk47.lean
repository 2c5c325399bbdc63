/- Contract of the document's Join: of traces that may be joined. -/
import Derived.Test.YtcalinfdckklfaaGreatDoorPk46
namespace Go.Proofs.YtcalinfdckklfaaGreatDoor
open Go.RowKit
attribute [local go_sem] Ext.cell Ext.frozen

theorem fine_all {l : List Tr} {t : Tr} (h : l.all fineT = true) (ht : t ∈ l) : fineT t = true := List.all_eq_true.1 h t ht
theorem fine_lens {t : Tr} (h : fineT t = true) : t.ad.length = t.evs.length ∧ t.da.length = t.evs.length ∧ t.ct.length = t.evs.length ∧ t.pa.length = t.evs.length := by
  unfold fineT lensB at h
  simp only [Bool.and_eq_true, decide_eq_true_eq] at h
  exact ⟨h.1.1, h.1.2.1, h.1.2.2.1, h.1.2.2.2⟩
theorem prJ_next {S : Sel} {l : List Tr} {k : Nat} {t : Tr} (h : l[k]? = some t) (_ : k ≤ l.length) : prJ S (l.take (k + 1)) 0 = prJ S (l.take k) 0 ++ prT S t (totN (l.take k)) t.evs.length := by
  rw [List.take_add_one, h, Option.toList_some, prJ_snoc, Nat.zero_add]
theorem tot_of : ∀ {l : List Tr} {t : Tr}, t ∈ l → t.evs.length ≤ totN l
  | x :: l, t, h => by
    rw [totN]
    rcases List.mem_cons.1 h with rfl | h
    · omega
    · have := tot_of h; omega
theorem slA_four {A : Nat → Prop} {w : World} {b : Nat} {x0 x1 x2 x3 : Int} {T : TypeId} (ha : A b) (h : Blk w b #[.int .i64 x0, .int .i64 x1, .int .i64 x2, .int .i64 x3] T) : SlA A IntE w (.slice (some ⟨b, 0, none⟩) 4 4) [x0, x1, x2, x3] := by
  refine ⟨_, 4, rfl, ⟨(fun e => by cases e), by simp⟩, fun _ => ⟨b, 0, rfl, ha, fun i hi => ⟨_, rfl, fun j u hu => ?_⟩⟩⟩
  have hi' : i < 4 := by simpa using hi
  rw [Blk.cell h]
  match j, hu with
  | 0, hu =>
    simp only [List.getElem?_cons_zero, Option.some.injEq] at hu
    subst hu
    match i, hi' with
    | 0, _ | 1, _ | 2, _ | 3, _ => rfl
  | j + 1, hu => simp at hu
theorem made_row (S : Sel) {l : List Tr} {wr : World} {base : Nat} {e : TypeId} {v : Value} {p : Option Addr} {c : Nat} (h24 : totN l ≤ 24) (h : v = .slice p (prJ S l 0).length c) (ho : Own (fun _ => False) PairE wr base e v (prJ S l 0)) {A : Nat → Prop} (hA : ∀ b, v.ownBlock = some b → ¬ A b) {W : World} (hO : Only A wr W) :
    Calls Tryz.prog 33 #[.int .i64 (totN l : Nat), .slice p (prJ S l 0).length c] W fun e w' => ∃ v, e = .returned v ∧ SlA (fun k => W.heap.size ≤ k) U32E w' v (mkR (totN l) (relJ S l 0)) ∧ Below W.heap.size W w' := by
  have hs := (ho.only hO hA (fun _ h => h.elim)).sl.any
  rw [h] at hs
  have hm := Made_new (totN l) p c (prJ S l 0) W (by omega) hs (fun x hx => by
    have := relJ_in (mem_prJ.1 hx)
    omega) (by
    have h1 := prJ_len (S := S) (l := l) (f := 0)
    have h2 : totN l * totN l ≤ 24 * 24 := Nat.mul_le_mul h24 h24
    omega)
  have e : mkR (totN l) (ofF (prJ S l 0)) = mkR (totN l) (relJ S l 0) := mkR_congr fun i k _ _ => by
    unfold ofF
    rw [Bool.eq_iff_iff, List.contains_iff_mem]
    exact mem_prJ
  rw [e] at hm
  exact hm

set_option maxRecDepth 20000 in
set_option maxHeartbeats 32000000 in
theorem refJoin_is (p : Option Addr) (c : Nat) (l : List Tr) (w : World) (hl : Sl TgE w (.slice p l.length c) l) (hr : ∀ t ∈ l, Rng t) (h24 : totN l ≤ 24) (hok : l.all fineT = true) (hn : l.length ≤ 100) :
    Calls Tryz.prog 8 #[.slice p l.length c] w fun e w' => ∃ r, e = .returned (.tuple #[.agg (exC r), .int .i64 0]) ∧ ExZ (fun k => w.heap.size ≤ k) w' r (joinE l) ∧ Below w.heap.size w w' := by
  have hM : totN l ≤ 1000000 := by omega
  have hev : ∀ t ∈ l, t.evs.length ≤ 1000 := fun t ht => by have := tot_of ht; omega
  have HR : Hid _ := hr
  have HEV : Hid _ := hev
  have HOK : Hid _ := hok
  clear hr hev hok
  have HM : Hid _ := hM
  clear hM
  obtain ⟨w1, hw1⟩ : ∃ w1, w1 = w.alloc (.cells #[.slice none 0 0, .slice none 0 0, .slice none 0 0, .slice none 0 0, .slice none 0 0, .slice none 0 0, .slice none 0 0] 47) := ⟨_, rfl⟩
  have k1 : Blk w1 w.heap.size #[.slice none 0 0, .slice none 0 0, .slice none 0 0, .slice none 0 0, .slice none 0 0, .slice none 0 0, .slice none 0 0] 47 := by rw [hw1]; exact Blk.new
  have b1 : Below w.heap.size w w1 := by rw [hw1]; exact below_new _ _
  have u1 : w1.heap.size = w.heap.size + 1 := by rw [hw1]; simp
  obtain ⟨w2, hw2⟩ : ∃ w2, w2 = w1.alloc (.cells #[.slice none 0 0, .slice none 0 0, .slice none 0 0, .slice none 0 0, .slice none 0 0, .slice none 0 0, .slice none 0 0] 47) := ⟨_, rfl⟩
  have k2 : Blk w2 (w.heap.size + 1) #[.slice none 0 0, .slice none 0 0, .slice none 0 0, .slice none 0 0, .slice none 0 0, .slice none 0 0, .slice none 0 0] 47 := by rw [hw2]; exact Blk.newAt u1
  have b2 : Below w1.heap.size w1 w2 := by rw [hw2]; exact below_new _ _
  have u2 : w2.heap.size = w.heap.size + 2 := by rw [hw2]; simp [u1]
  have B2 := Below.thru b1 b2 (Nat.le_refl _)
  have kr := k1.keep b2
  have HW1 : Hid _ := hw1
  have HW2 : Hid _ := hw2
  have HU2 : Hid _ := u2
  clear hw1 hw2 k1 b1 b2 u1 u2
  go_enter Tryz.func8, Tryz.ntmps8
  go_wp2
  rw [← HW1.out, ← HW2.out]
  go_loopw [5, 6] (fun n i wr => ∃ k : Nat, k ≤ l.length ∧ i = .int .i64 k ∧ n = .int .i64 (totN (l.take k) : Nat) ∧ wr = w2) (fun _ i _ => l.length - (Go.RowKit.intOf i).toNat)
  case atStart => exact ⟨0, Nat.zero_le _, rfl, rfl, rfl⟩
  case round =>
    obtain ⟨k, hk, rfl, rfl, rfl⟩ := hrel
    by_cases hlt : k < l.length
    · have hlt' : (k : Int) < (l.length : Int) := by omega
      obtain ⟨xb, xo, r, rfl, -, hz, hat⟩ := (tg_at (hl.keep B2)).2 k hlt
      have a0 := hat.c0
      have hE := hz.e0
      have hnx := totN_next hlt
      have h1 := totN_take l (k + 1)
      have h2 := totN_take l k
      have hM := HM.out
      generalize l[k] = t at hE hnx
      obtain ⟨pe, ce, he⟩ := hE.len
      rw [he] at a0
      have HN : Hid _ := hnx
      have h3 : totN (l.take k) + t.evs.length ≤ 1000000 := by omega
      have la := cell_lt a0
      clear hz hat hE he hnx h1 h2 hM
      go_wp2
      go_roundw
      case rel => exact ⟨k + 1, by omega, by go_num, by rw [HN.out]; go_num, trivial⟩
      case measure => simp [Go.RowKit.intOf]; omega
    · have hlt' : ¬ (k : Int) < (l.length : Int) := by omega
      have e : l.take k = l := List.take_of_length_le (by omega)
      have h24' : ¬ (24 : Int) < ((totN (l.take k) : Nat) : Int) := by rw [e]; omega
      rw [e] at h24' ⊢
      clear e
      go_wp2
      clear hlt hlt' hk h24'
      obtain ⟨w2, hww⟩ : ∃ x : World, x = wr := ⟨_, rfl⟩
      subst hww
      go_loopw [7] (fun i wr => ∃ j : Nat, j ≤ l.length ∧ i = .int .i64 j ∧ (∀ x ∈ l.take j, fineT x = true) ∧ Below w2.heap.size w2 wr) (fun i _ => l.length - (Go.RowKit.intOf i).toNat)
      case atStart => exact ⟨0, Nat.zero_le _, rfl, fun _ h => by simp at h, Below.refl _ _⟩
      case round =>
        obtain ⟨j, hj, rfl, hfine, hbj⟩ := hrel
        have HFN : Hid _ := hfine
        clear hfine
        have Bj := Below.thru B2 hbj (Nat.le_refl _)
        have kej := k2.keep hbj
        have krj := kr.keep hbj
        by_cases hjl : j < l.length
        · have hjl' : (j : Int) < (l.length : Int) := by omega
          obtain ⟨xb, xo, r, rfl, -, hz, hat⟩ := (tg_at (hl.keep Bj)).2 j hjl
          have hr0 := HR.out _ (List.getElem_mem hjl)
          have hev := HEV.out _ (List.getElem_mem hjl)
          have htk : l.take (j + 1) = l.take j ++ [l[j]] := by rw [List.take_add_one, List.getElem?_eq_getElem hjl]; rfl
          have hmem : l[j] ∈ l := List.getElem_mem hjl
          generalize l[j] = t at hz hat hr0 hev htk hmem
          have HTK : Hid _ := htk
          have HMEM : Hid _ := hmem
          clear htk hmem
          obtain ⟨a0, a1, a2, a3, a4, a5, a6, a7, a8, a9, aa, ab, ac, ad, ae, af⟩ := hat
          have la := cell_lt a0
          have hFi := fun W (hb : Below wr.heap.size wr W) => refFine_any r t W (hz.keep hb) hr0 (by omega)
          cases hf : fineT t
          · rw [hf] at hFi
            have HFI : Hid _ := hFi
            have HBAD : Hid _ := hf
            clear hFi hf
            exact absurd HBAD.out (by rw [fine_all HOK.out HMEM.out]; decide)
          · rw [hf] at hFi
            have HFI : Hid _ := hFi
            have HOK1 : Hid _ := hf
            clear hFi hf
            go_wp2_with (go_at_call 31; refine (HFI.out _ (Below.refl _ _)).mono ?_; rintro e w7 ⟨rfl, hb7⟩)
            go_roundw
            case rel => exact ⟨j + 1, by omega, by go_num, fun x hx => by rw [HTK.out, List.mem_append] at hx; exact hx.elim (HFN.out x) (fun h => by rw [List.mem_singleton] at h; rw [h]; exact HOK1.out), Below.thru hbj hb7 (Nat.le_refl _)⟩
            case measure => simp [Go.RowKit.intOf]; omega
        · have hjl' : ¬ (j : Int) < (l.length : Int) := by omega
          have h24' : True := trivial
          have JJ0 : JI w wr (fun _ => .slice none 0 0) (fun _ => []) [] [] := ⟨jn_nil _ _, kej, krj, Bj, by have := hbj.size; have := HU2.out; omega⟩
          clear kej krj h24'
          go_wp2
          clear hjl hjl' hj hbj Bj k2 kr B2
          go_loopw [8, 9, 10, 11, 12, 13] (fun a b c d e i wr => ∃ (k : Nat) (r : Nat → Value), k ≤ l.length ∧ i = .int .i64 k ∧ a = r 0 ∧ b = r 1 ∧ c = r 2 ∧ d = r 3 ∧ e = r 4 ∧ JI w wr r (fun q => prJ (selS q) (l.take k) 0) (evsJ (l.take k) 0) (regsJ (l.take k))) (fun _ _ _ _ _ i _ => l.length - (Go.RowKit.intOf i).toNat)
          case atStart => exact ⟨0, fun _ => .slice none 0 0, Nat.zero_le _, rfl, rfl, rfl, rfl, rfl, rfl, by rw [List.take_zero]; exact JJ0⟩
          case round =>
            clear JJ0
            obtain ⟨k, r, hk, rfl, rfl, rfl, rfl, rfl, rfl, JJ⟩ := hrel
            by_cases hlt : k < l.length
            · have hlt' : (k : Int) < (l.length : Int) := by omega
              obtain ⟨xb, oo, rt, rfl, -, hZw, hA0⟩ := (tg_at hl).2 k hlt
              have hfin := fine_all HOK.out (List.getElem_mem hlt)
              have hr0 := HR.out _ (List.getElem_mem hlt)
              have hps := fun (S : Sel) => prJ_next (S := S) (List.getElem?_eq_getElem hlt) hk
              have hen := evsJ_next (List.getElem?_eq_getElem hlt) hk
              have hrn := regsJ_next (List.getElem?_eq_getElem hlt)
              have hte : l[k].evs.length ≤ 24 := by have := tot_of (List.getElem_mem hlt); omega
              have hel : (evsJ (l.take k) 0).length = totN (l.take k) := evsJ_len _ _
              have hF24 := totN_take l k
              have hrl : (regsJ (l.take k)).length = k := by rw [regsJ_len, List.length_take, Nat.min_eq_left hk]
              have hpl : ∀ q, (prJ (selS q) (l.take k) 0).length ≤ 576 := fun q => Nat.le_trans prJ_len (Nat.mul_le_mul (show totN (l.take k) ≤ 24 by omega) (show totN (l.take k) ≤ 24 by omega))
              generalize l[k] = t at hZw hA0 hfin hr0 hps hen hrn hte
              obtain ⟨PP, hPP⟩ : ∃ PP, (fun q => prJ (selS q) (l.take k) 0) = PP := ⟨_, rfl⟩
              rw [hPP] at JJ
              have hpl' : ∀ q, (PP q).length ≤ 576 := fun q => by rw [← hPP]; exact hpl q
              have HPP : Hid _ := hPP
              generalize evsJ (l.take k) 0 = E at *
              generalize regsJ (l.take k) = G at *
              have hps' : ∀ q, prJ (selS q) (l.take (k + 1)) 0 = PP q ++ prT (selS q) t (totN (l.take k)) t.evs.length := fun q => by rw [hps (selS q), ← hPP]
              have HPS : Hid _ := hps'
              have HPL : Hid _ := hpl'
              clear hps hps' hpl hpl' hPP
              generalize totN (l.take k) = F at *
              have HL : Hid _ := fine_lens hfin
              have HEL : Hid _ := hel
              have HRL : Hid _ := hrl
              have HEN : Hid _ := hen
              have HRN : Hid _ := hrn
              have HR0 : Hid _ := hr0
              clear hen hrn hfin hr0 hrl
              obtain ⟨p5, c5, h5⟩ := JJ.jn.o5.len
              have z0 : wr.cell? ⟨w.heap.size + 1, 0, none⟩ = some (.slice p5 E.length c5) := by rw [← h5]; exact JJ.ke.cell 0
              have lz := cell_lt z0
              rw [hel] at z0
              clear hel
              have a0 := cell_keep hA0.c0 JJ.B
              have a1 := cell_keep hA0.c1 JJ.B
              have a2 := cell_keep hA0.c2 JJ.B
              have a3 := cell_keep hA0.c3 JJ.B
              have a4 := cell_keep hA0.c4 JJ.B
              have a5 := cell_keep hA0.v0 JJ.B
              have a6 := cell_keep hA0.v1 JJ.B
              have a7 := cell_keep hA0.v2 JJ.B
              have a8 := cell_keep hA0.v3 JJ.B
              have a9 := cell_keep hA0.d0 JJ.B
              have aa := cell_keep hA0.d1 JJ.B
              have ab := cell_keep hA0.d2 JJ.B
              have ac := cell_keep hA0.d3 JJ.B
              have ad := cell_keep hA0.vs JJ.B
              have ae := cell_keep hA0.ls JJ.B
              have af := cell_keep hA0.mo JJ.B
              have la := cell_lt a0
              obtain ⟨pe, ce, he⟩ := hZw.e0.len
              obtain ⟨q1, d1, he1⟩ := hZw.e1.len
              obtain ⟨q2, d2, he2⟩ := hZw.e2.len
              obtain ⟨q3, d3, he3⟩ := hZw.e3.len
              obtain ⟨q4, d4, he4⟩ := hZw.e4.len
              have s0 := hZw.e0
              have s1 := hZw.e1
              have s2 := hZw.e2
              have s3 := hZw.e3
              have s4 := hZw.e4
              rw [he] at s0
              rw [he1] at s1
              rw [he2] at s2
              rw [he3] at s3
              rw [he4] at s4
              have HE : Hid _ := he
              have HE1 : Hid _ := he1
              have HE2 : Hid _ := he2
              have HE3 : Hid _ := he3
              have HE4 : Hid _ := he4
              clear he he1 he2 he3 he4
              have hZ3 := hZw.keep JJ.B
              have F1 := trivial
              go_wp2_with (clear F1; refine wpList_toldT (w := wr) (by kernel_rfl) (by rfl) (.tmp 15) (.tmp 63) (by rfl) hZ3 (by rfl) (by rfl) ?_; intro w4 kT B24; simp only [Act.put]; have x0 : w4.cell? ⟨wr.heap.size, 0, none⟩ = some (rt 0) := kT.cell 0; rw [HE.out] at x0; have lx0 := kT.lt)
              have J4 := JJ.keep B24
              have AP4 : Apart (fun b => b = wr.heap.size) w4 r := ⟨fun b e => by subst e; exact kT.lt, fun i b hi hb e => by have := (JJ.lt hi hb).2; omega⟩
              have B4s := JJ.sz
              obtain ⟨bt, hbt⟩ : ∃ bt, wr.heap.size = bt := ⟨_, rfl⟩
              rw [hbt] at kT AP4 B4s ⊢
              clear a0 a1 a2 a3 a4 a5 a6 a7 a8 a9 aa ab ac ad ae af la z0 lz h5 hA0 hZ3 hZw JJ x0 lx0 hbt B24
              go_loopw [8, 9, 10, 11, 12, 16] (fun a b c d e i wr => ∃ (m : Nat) (r : Nat → Value), m ≤ t.evs.length ∧ i = .int .i64 m ∧ a = r 0 ∧ b = r 1 ∧ c = r 2 ∧ d = r 3 ∧ e = r 4 ∧ JI w wr r (fun q => PP q ++ prT (selS q) t F m) (E ++ (t.evs.take m).map (thrEv k)) G ∧ Apart (fun b => b = bt) wr r ∧ Blk wr bt (tgC rt t) 34) (fun _ _ _ _ _ i _ => t.evs.length - (Go.RowKit.intOf i).toNat)
              case atStart => exact ⟨0, r, Nat.zero_le _, rfl, rfl, rfl, rfl, rfl, rfl, J4.congr (fun q _ => by simp [prT]) (by simp), AP4, kT⟩
              case round =>
                clear J4 AP4 kT
                obtain ⟨m, r, hm, rfl, rfl, rfl, rfl, rfl, rfl, J, AP, kT⟩ := hrel
                have x0 : wr.cell? ⟨bt, 0, none⟩ = some (rt 0) := kT.cell 0
                rw [HE.out] at x0
                have lx := kT.lt
                by_cases hml : m < t.evs.length
                · have hml' : (m : Int) < (t.evs.length : Int) := by omega
                  obtain ⟨eb, eo, rfl, g0, g1, g2, g3, g4, g5, g6⟩ := (ev_at (s0.keep J.B)).2 m hml
                  have hmt := map_takeE (k := k) (List.getElem?_eq_getElem hml)
                  generalize t.evs[m] = x at g0 g1 g2 g3 g4 g5 g6 hmt
                  have lg := cell_lt g0
                  obtain ⟨V, hVe⟩ : ∃ V, E ++ (t.evs.take m).map (thrEv k) = V := ⟨_, rfl⟩
                  have hVl : V.length ≤ 100 := by
                    have hel := HEL.out
                    rw [← hVe, List.length_append, List.length_map, List.length_take]; omega
                  rw [hVe] at J
                  have HV1 : Hid (E ++ (t.evs.take (m + 1)).map (thrEv k) = V ++ [thrEv k x]) := by rw [hmt, ← List.append_assoc, hVe]; exact rfl
                  clear hVe hmt
                  obtain ⟨p5, c5, h5⟩ := J.jn.o5.len
                  have z0 : wr.cell? ⟨w.heap.size + 1, 0, none⟩ = some (.slice p5 V.length c5) := by rw [← h5]; exact J.ke.cell 0
                  have lz := cell_lt z0
                  have H5 : Hid _ := h5
                  clear h5
                  obtain ⟨i0, zz0, j1, j2, j3, j4, j5⟩ := cl_get (show ((Tryz.prog.info? 52).map fun i => (i.zero.map (·.cells.size), i.size, i.bytes)) = some (some 7, 7, 40) by kernel_rfl)
                  have K1 : Hid _ := j1
                  have K2 : Hid _ := j2
                  have K3 : Hid _ := j3
                  have K4 : Hid _ := j4
                  have K5 : Hid _ := j5
                  clear j1 j2 j3 j4 j5
                  have F2 := trivial
                  have hwsz := J.sz
                  go_wp2_with (first
                    | (clear F2; refine wpList_toldE (w := wr) (by rfl) (.tmp 17) (.tmp 75) (by rfl) x (by rfl) (by rfl) ?_; intro w5 kE b5; simp only [Act.put]; have e0 : w5.cell? ⟨wr.heap.size, 0, none⟩ = some (.int .i64 x.th) := kE.cell 0; have f0 : w5.frozen? ⟨wr.heap.size, 0, none⟩ = false := kE.frozen 0; have lE := kE.lt; have F3 := trivial)
                    | (clear F3; obtain ⟨w6, hS⟩ : ∃ q, w5.setCell ⟨wr.heap.size, 0, none⟩ (.int .i64 (k : Int)) = q := ⟨_, rfl⟩; rw [hS]; have kS : Blk w6 wr.heap.size (thrEv k x).cells.toArray 52 := (by rw [← hS]; exact Blk.set (i := 0) kE _); have gS : w5.grownBy w6 (some wr.heap.size) := (by rw [← hS]; exact grownBy_set _ _ _); have B6 : Below wr.heap.size wr w6 := b5.grown gS b5.size (fun q hq => by cases hq; exact Nat.le_refl _); have J6 := J.keep B6; replace z0 := cell_keep z0 B6; replace lz := cell_lt z0; clear e0 f0 hS; have t0 := kS.cell 0; have t1 := kS.cell 1; have t2 := kS.cell 2; have t3 := kS.cell 3; have t4 := kS.cell 4; have t5 := kS.cell 5; have t6 := kS.cell 6; simp only [thrEv, Ev.cells, List.getElem?_toArray, List.getElem?_cons_zero, List.getElem?_cons_succ] at t0 t1 t2 t3 t4 t5 t6; have lS := kS.lt; have F4 := trivial)
                    | (at_builtin; clear F4; have kN : Blk (w6.alloc (.cells (thrEv k x).cells.toArray 52)) w6.heap.size (thrEv k x).cells.toArray 52 := Blk.new; have b7 := below_new w6 (.cells (thrEv k x).cells.toArray 52); have J7 := J6.keep b7; have o7 := J7.jn.o5; rw [H5.out] at o7; refine wpList_push (R := EvE) (xs := V) (x := thrEv k x) (by rfl) (.tmp 79) (.tmp 81) 25 52 i0 zz0 40 (by rfl) Tryz.underlying25 K1.out K2.out K4.out K5.out K3.out (w.heap.size + 2) (.slice p5 V.length c5) w6.heap.size (by rfl) (by rfl) o7 (thrEv k x).cells (fun _ _ => rfl) (fun _ _ _ _ _ h => h) (fun j u hu => (kN.cell j).trans (by simpa using hu)) (by omega) (by decide) J7.sz ?_; intro pb cb w8 hO8 hg8 hv8; rw [← H5.out] at hg8 hv8; have kx8 := (J7.old (i := 5) (by decide) hg8).1; have z8 : w8.cell? ⟨w.heap.size + 1, 0, none⟩ = some (r 5) := kx8.cell 0; have f8 : w8.frozen? ⟨w.heap.size + 1, 0, none⟩ = false := kx8.frozen 0; have l8 := kx8.lt; have F5 := trivial))
                  have B7 := Below.thru B6 b7 (Nat.le_refl _)
                  have AP7 := AP.keep (w' := w6.alloc (.cells (thrEv k x).cells.toArray 52)) B7.size
                  have AP8 := AP7.grow (i := 5) (by decide) hg8.size hv8
                  have kT8 := AP7.blk (i := 5) (by decide) rfl (kT.keep B7) hg8
                  have hbtw : w.heap.size + 1 < bt := by omega
                  have J9 := J7.ev hg8 hO8 hv8
                  obtain ⟨w9, hw9⟩ : ∃ q, w8.setCell ⟨w.heap.size + 1, 0, none⟩ (.slice pb (V.length + 1) cb) = q := ⟨_, rfl⟩
                  rw [hw9] at J9 ⊢
                  have AP9 : Apart (fun b => b = bt) w9 (updV r 5 (.slice pb (V.length + 1) cb)) := AP8.keep (by rw [← hw9, size_cell]; exact Nat.le_refl _)
                  have kT9 : Blk w9 bt (tgC rt t) 34 := by rw [← hw9]; exact kT8.grown (grownBy_set _ _ _) (by simp; omega)
                  obtain ⟨PQ, hPQ⟩ : ∃ PQ, (fun q => PP q ++ prT (selS q) t F m) = PQ := ⟨_, rfl⟩
                  rw [hPQ] at J9
                  have hPQl : ∀ q, (PQ q).length ≤ 1200 := fun q => by
                    rw [← hPQ]
                    have h1 := HPL.out q
                    have h2 := prT_len (S := selS q) (t := t) (f := F) m
                    have h3 : m * m ≤ 24 * 24 := Nat.mul_le_mul (by omega) (by omega)
                    rw [List.length_append]
                    omega
                  have HPQ : Hid _ := hPQ
                  have HPQL : Hid _ := hPQl
                  clear J AP kT x0 lx z0 lz AP7 AP8 kT8 B6 b5 b7 B7 J6 J7 o7 kE kS kN hO8 hg8 hv8 kx8 z8 f8 l8 t0 t1 t2 t3 t4 t5 t6 lS lE gS hw9 g0 g1 g2 g3 g4 g5 g6 lg hPQ hPQl H5
                  go_loopw [8, 9, 10, 11, 12, 18] (fun a b c d e i wr => ∃ (j : Nat) (r : Nat → Value), j ≤ m ∧ i = .int .i64 j ∧ a = r 0 ∧ b = r 1 ∧ c = r 2 ∧ d = r 3 ∧ e = r 4 ∧ JI w wr r (fun q => PQ q ++ prK (selS q) t F m j) (V ++ [thrEv k x]) G ∧ Apart (fun b => b = bt) wr r ∧ Blk wr bt (tgC rt t) 34) (fun _ _ _ _ _ i _ => m - (Go.RowKit.intOf i).toNat)
                  case atStart => exact ⟨0, updV r 5 (.slice pb (V.length + 1) cb), Nat.zero_le _, rfl, rfl, rfl, rfl, rfl, rfl, J9.congr (fun q _ => by simp [prK]) rfl, AP9, kT9⟩
                  case round =>
                    clear J9 AP9 kT9
                    obtain ⟨j, r, hj, rfl, rfl, rfl, rfl, rfl, rfl, J, AP, kT⟩ := hrel
                    by_cases hjl : j < m
                    · have hjl' : (j : Int) < (m : Int) := by omega
                      have hjl24 : j + 1 ≤ m := hjl
                      clear hjl'
                      refine jround_lit HE1 HE2 HE3 HE4 s1 s2 s3 s4 HL HR0 hml hte (by omega) HPQL hjl J AP kT ?_
                      intro f' r' w' J' AP' kT'
                      clear J AP kT
                      go_roundw
                      case rel =>
                        repeat apply Exists.intro
                        exact ⟨⟨j + 1, r', hjl24, rfl, rfl, rfl, rfl, rfl, rfl, J', AP', kT'⟩, rfl⟩
                      case measure => simp [Go.RowKit.intOf]; omega
                    · have hjl' : ¬ (j : Int) < (m : Int) := by omega
                      have e : j = m := by omega
                      subst e
                      go_wp2
                      go_roundw
                      case rel => exact ⟨j + 1, r, by omega, by go_num, rfl, rfl, rfl, rfl, rfl, J.congr (fun q _ => by rw [← HPQ.out, List.append_assoc, prT_next]) HV1.out.symm, AP, kT⟩
                      case measure => simp [Go.RowKit.intOf]; omega
                · have hml' : ¬ (m : Int) < (t.evs.length : Int) := by omega
                  have e : m = t.evs.length := by omega
                  rw [e] at J
                  clear e hml hm
                  have a5 : wr.cell? ⟨bt, 5, none⟩ = some (.int .i64 (t.v 0)) := kT.cell 5
                  have a6 : wr.cell? ⟨bt, 6, none⟩ = some (.int .i64 (t.v 1)) := kT.cell 6
                  have a7 : wr.cell? ⟨bt, 7, none⟩ = some (.int .i64 (t.v 2)) := kT.cell 7
                  have a8 : wr.cell? ⟨bt, 8, none⟩ = some (.int .i64 (t.v 3)) := kT.cell 8
                  obtain ⟨Z0, hZ0, -, -⟩ := J.jn.o6
                  obtain ⟨p6, c6, h6⟩ := hZ0.len
                  have y6 : wr.cell? ⟨w.heap.size + 1, 6, none⟩ = some (.slice p6 G.length c6) := by rw [← h6]; exact J.ke.cell 6
                  have ly := cell_lt y6
                  have H6 : Hid _ := h6
                  clear h6 hZ0
                  have b1 := below_new wr (.cells #[.int .i64 (t.v 0), .int .i64 (t.v 1), .int .i64 (t.v 2), .int .i64 (t.v 3)] 2)
                  have k1 : Blk (wr.alloc (.cells #[.int .i64 (t.v 0), .int .i64 (t.v 1), .int .i64 (t.v 2), .int .i64 (t.v 3)] 2)) wr.heap.size #[.int .i64 (t.v 0), .int .i64 (t.v 1), .int .i64 (t.v 2), .int .i64 (t.v 3)] 2 := Blk.new
                  obtain ⟨Z, hZ1, hZ2, hZ3, hZ4⟩ := J.jn.room rfl J.sz (.cells #[.int .i64 (t.v 0), .int .i64 (t.v 1), .int .i64 (t.v 2), .int .i64 (t.v 3)] 2)
                  obtain ⟨w1, hw1⟩ : ∃ w1, wr.alloc (.cells #[.int .i64 (t.v 0), .int .i64 (t.v 1), .int .i64 (t.v 2), .int .i64 (t.v 3)] 2) = w1 := ⟨_, rfl⟩
                  have hu1 : w1.heap.size = wr.heap.size + 1 := by rw [← hw1]; simp
                  rw [hw1] at b1 k1 hZ1 hZ2
                  have b2 := below_new w1 (.cells #[.slice (some ⟨wr.heap.size, 0, none⟩) 4 4] 60)
                  have k2 : Blk (w1.alloc (.cells #[.slice (some ⟨wr.heap.size, 0, none⟩) 4 4] 60)) (wr.heap.size + 1) #[.slice (some ⟨wr.heap.size, 0, none⟩) 4 4] 60 := Blk.newAt hu1
                  have k12 := k1.keep b2
                  have hZ12 := hZ1.keep b2
                  have hlt1 := k1.lt
                  obtain ⟨w2, hw2⟩ : ∃ w2, w1.alloc (.cells #[.slice (some ⟨wr.heap.size, 0, none⟩) 4 4] 60) = w2 := ⟨_, rfl⟩
                  rw [hw2] at b2 k2 k12 hZ12
                  have B2 := Below.thru b1 b2 (Nat.le_refl _)
                  have J2 := J.keep B2
                  have hs4 : SlA (fun b => Z b ∧ some b ≠ (r 6).ownBlock) IntE w2 (.slice (some ⟨wr.heap.size, 0, none⟩) 4 4) [t.v 0, t.v 1, t.v 2, t.v 3] := slA_four ⟨hZ4, fun e => by have := (J.lt (i := 6) (by decide) e.symm).2; omega⟩ k12
                  have HO : Hid (Own Z (SlE IntE) w2 (w.heap.size + 2) 60 (.slice p6 G.length c6) G) := by rw [← H6.out]; exact hZ12
                  rw [H6.out] at hs4
                  have HW1 : Hid _ := hw1
                  have HW2 : Hid _ := hw2
                  have HG : G.length ≤ 1000 := by rw [HRL.out]; omega
                  have hu2 := b2.size
                  clear hw1 hw2 hZ12 hZ1 k1 k12 b1 b2 hu1
                  obtain ⟨ir, J1', J2', J3', J4'⟩ : ∃ i, Tryz.prog.info? 60 = some i ∧ i.zero = some (.slice none 0 0) ∧ i.size = 1 ∧ i.bytes = 24 := by
                    obtain ⟨i, hi⟩ : ∃ i, Tryz.prog.info? 60 = some i := ⟨_, rfl⟩
                    exact ⟨i, hi, by cases hi; rfl, by cases hi; rfl, by cases hi; rfl⟩
                  have N1 : Hid _ := J1'
                  have N2 : Hid _ := J2'
                  have N3 : Hid _ := J3'
                  have N4 : Hid _ := J4'
                  clear J1' J2' J3' J4'
                  have F2 := trivial
                  go_wp2_with (first
                    | (at_builtin; clear F2; rw [HW1.out, HW2.out]; refine wpList_appO (R := SlE IntE) (A := Z) (xs := G) (ys := [[t.v 0, t.v 1, t.v 2, t.v 3]]) (by rfl) (.tmp 145) (.tmp 163) 40 60 ir (.slice none 0 0) 24 (by rfl) Tryz.underlying40 N1.out N2.out N3.out N4.out (by rfl) (w.heap.size + 2) (.slice p6 G.length c6) (.slice (some ⟨wr.heap.size + 1, 0, none⟩) 1 1) (by rfl) (by rfl) HO.out (slO_one (l := [t.v 0, t.v 1, t.v 2, t.v 3]) (by rw [Blk.cell k2]; rfl) hs4 (Nat.le_refl _)) (by simp only [List.length_cons, List.length_nil]; omega) (by decide) J2.sz ?_; intro p9 c9 w9 hO9 hg9 hv9; rw [← H6.out] at hg9 hv9; rw [show (G ++ [[t.v 0, t.v 1, t.v 2, t.v 3]]).length = G.length + 1 by simp] at hO9 hv9; have kx9 := (J2.old (i := 6) (by decide) hg9).1; have z9 : w9.cell? ⟨w.heap.size + 1, 6, none⟩ = some (r 6) := kx9.cell 6; have f9 : w9.frozen? ⟨w.heap.size + 1, 6, none⟩ = false := kx9.frozen 6; have l9 := kx9.lt))
                  have J9 := J2.reg hg9 hO9 (fun b hb => ⟨Nat.lt_of_lt_of_le (hZ2 b hb).1 hu2, (hZ2 b hb).2⟩) hZ3 hv9
                  go_roundw
                  case rel =>
                    refine ⟨k + 1, updV r 6 (.slice p9 (G.length + 1) c9), by omega, by go_num, rfl, rfl, rfl, rfl, rfl, ?_⟩
                    rw [HEN.out, HRN.out]
                    exact J9.congr (fun q _ => (HPS.out q).symm) (by rw [List.take_length])
                  case measure => simp [Go.RowKit.intOf]; omega
            · have hlt' : ¬ (k : Int) < (l.length : Int) := by omega
              have e : l.take k = l := List.take_of_length_le (by omega)
              rw [e] at JJ
              clear e
              obtain ⟨p0, c0, h0⟩ := (JJ.jn.o 0 (by decide)).len
              obtain ⟨p1, c1, h1⟩ := (JJ.jn.o 1 (by decide)).len
              obtain ⟨p2, c2, h2⟩ := (JJ.jn.o 2 (by decide)).len
              obtain ⟨p3, c3, h3⟩ := (JJ.jn.o 3 (by decide)).len
              obtain ⟨p4, c4, h4⟩ := (JJ.jn.o 4 (by decide)).len
              obtain ⟨p5, c5, h5⟩ := JJ.jn.o5.len
              obtain ⟨Z6, hZ6, hZ6b, hZ6n⟩ := JJ.jn.o6
              obtain ⟨p6, c6, h6⟩ := hZ6.len
              have ke0 := JJ.ke
              unfold exR7 at ke0
              rw [h5, h6] at ke0
              have hm0 := fun W (hO : Only (fun b => b = w.heap.size + 1) wr W) => made_row poS h24 h0 (by exact JJ.jn.o 0 (by decide)) (fun b hb e => by have := (JJ.lt (i := 0) (by decide) hb).1; omega) hO
              generalize hR0 : mkR (totN l) (relJ poS l 0) = R0 at hm0
              have HM0 : Hid _ := hm0
              have HR0 : Hid _ := hR0
              clear hm0 hR0
              have hm1 := fun W (hO : Only (fun b => b = w.heap.size + 1) wr W) => made_row adS h24 h1 (by exact JJ.jn.o 1 (by decide)) (fun b hb e => by have := (JJ.lt (i := 1) (by decide) hb).1; omega) hO
              generalize hR1 : mkR (totN l) (relJ adS l 0) = R1 at hm1
              have HM1 : Hid _ := hm1
              have HR1 : Hid _ := hR1
              clear hm1 hR1
              have hm2 := fun W (hO : Only (fun b => b = w.heap.size + 1) wr W) => made_row daS h24 h2 (by exact JJ.jn.o 2 (by decide)) (fun b hb e => by have := (JJ.lt (i := 2) (by decide) hb).1; omega) hO
              generalize hR2 : mkR (totN l) (relJ daS l 0) = R2 at hm2
              have HM2 : Hid _ := hm2
              have HR2 : Hid _ := hR2
              clear hm2 hR2
              have hm3 := fun W (hO : Only (fun b => b = w.heap.size + 1) wr W) => made_row ctS h24 h3 (by exact JJ.jn.o 3 (by decide)) (fun b hb e => by have := (JJ.lt (i := 3) (by decide) hb).1; omega) hO
              generalize hR3 : mkR (totN l) (relJ ctS l 0) = R3 at hm3
              have HM3 : Hid _ := hm3
              have HR3 : Hid _ := hR3
              clear hm3 hR3
              have hm4 := fun W (hO : Only (fun b => b = w.heap.size + 1) wr W) => made_row rmS h24 h4 (by exact JJ.jn.o 4 (by decide)) (fun b hb e => by have := (JJ.lt (i := 4) (by decide) hb).1; omega) hO
              generalize hR4 : mkR (totN l) (relJ rmS l 0) = R4 at hm4
              have HM4 : Hid _ := hm4
              have HR4 : Hid _ := hR4
              clear hm4 hR4
              rw [h0, h1, h2, h3, h4]
              have hjz := JJ.sz
              have F0 := trivial
              go_wp2_with (first
                | (go_at_call 33; clear F0; refine (HM0.out _ Only.refl).mono ?_; rintro e x0 ⟨v0, rfl, hV0, hb0⟩; obtain ⟨q0, d0, rfl⟩ := hV0.len; have ow0 : Only (fun b => b = w.heap.size + 1) wr _ := Only.refl; replace hV0 := SlA.mono (fun b hb => Nat.le_trans ow0.size hb) hV0; clear ow0; have Ox0 : Only (fun b => b = w.heap.size + 1) wr x0 := (Only.refl).trans (Below.only hb0) (fun _ h => .inl h); have kE0 := (ke0).keep hb0; have y0 := kE0.cell 1; have f0 := kE0.frozen 1; have l0 := kE0.lt; have F1 := trivial)
                | (go_at_call 33; clear F1; have kz := Blk.set (i := 1) kE0 (.slice q0 R0.length d0); have oz := (Ox0).trans (only_cell (b := w.heap.size + 1) (i := 1) (w := x0) (u := .slice q0 R0.length d0)) (fun _ h => .inl h); have sz := size_cell (b := w.heap.size + 1) (i := 1) (w := x0) (u := .slice q0 R0.length d0); have av := only_cell (b := w.heap.size + 1) (i := 1) (w := x0) (u := .slice q0 R0.length d0); replace hV0 := hV0.agree (av.agree (fun b hb e => by omega)); clear av; generalize x0.setCell ⟨w.heap.size + 1, 1, none⟩ (.slice q0 R0.length d0) = z0 at *; refine (HM1.out _ oz).mono ?_; rintro e x1 ⟨v1, rfl, hV1, hb1⟩; obtain ⟨q1, d1, rfl⟩ := hV1.len; have ow1 : Only (fun b => b = w.heap.size + 1) wr _ := oz; replace hV1 := SlA.mono (fun b hb => Nat.le_trans ow1.size hb) hV1; clear ow1; have Ox1 : Only (fun b => b = w.heap.size + 1) wr x1 := (oz).trans (Below.only hb1) (fun _ h => .inl h); have kE1 := (kz).keep hb1; replace hV0 := hV0.keep hb1; have y1 := kE1.cell 2; have f1 := kE1.frozen 2; have l1 := kE1.lt; have F2 := trivial)
                | (go_at_call 33; clear F2; have kz := Blk.set (i := 2) kE1 (.slice q1 R1.length d1); have oz := (Ox1).trans (only_cell (b := w.heap.size + 1) (i := 2) (w := x1) (u := .slice q1 R1.length d1)) (fun _ h => .inl h); have sz := size_cell (b := w.heap.size + 1) (i := 2) (w := x1) (u := .slice q1 R1.length d1); have av := only_cell (b := w.heap.size + 1) (i := 2) (w := x1) (u := .slice q1 R1.length d1); replace hV0 := hV0.agree (av.agree (fun b hb e => by omega)); replace hV1 := hV1.agree (av.agree (fun b hb e => by omega)); clear av; generalize x1.setCell ⟨w.heap.size + 1, 2, none⟩ (.slice q1 R1.length d1) = z1 at *; refine (HM2.out _ oz).mono ?_; rintro e x2 ⟨v2, rfl, hV2, hb2⟩; obtain ⟨q2, d2, rfl⟩ := hV2.len; have ow2 : Only (fun b => b = w.heap.size + 1) wr _ := oz; replace hV2 := SlA.mono (fun b hb => Nat.le_trans ow2.size hb) hV2; clear ow2; have Ox2 : Only (fun b => b = w.heap.size + 1) wr x2 := (oz).trans (Below.only hb2) (fun _ h => .inl h); have kE2 := (kz).keep hb2; replace hV0 := hV0.keep hb2; replace hV1 := hV1.keep hb2; have y2 := kE2.cell 3; have f2 := kE2.frozen 3; have l2 := kE2.lt; have F3 := trivial)
                | (go_at_call 33; clear F3; have kz := Blk.set (i := 3) kE2 (.slice q2 R2.length d2); have oz := (Ox2).trans (only_cell (b := w.heap.size + 1) (i := 3) (w := x2) (u := .slice q2 R2.length d2)) (fun _ h => .inl h); have sz := size_cell (b := w.heap.size + 1) (i := 3) (w := x2) (u := .slice q2 R2.length d2); have av := only_cell (b := w.heap.size + 1) (i := 3) (w := x2) (u := .slice q2 R2.length d2); replace hV0 := hV0.agree (av.agree (fun b hb e => by omega)); replace hV1 := hV1.agree (av.agree (fun b hb e => by omega)); replace hV2 := hV2.agree (av.agree (fun b hb e => by omega)); clear av; generalize x2.setCell ⟨w.heap.size + 1, 3, none⟩ (.slice q2 R2.length d2) = z2 at *; refine (HM3.out _ oz).mono ?_; rintro e x3 ⟨v3, rfl, hV3, hb3⟩; obtain ⟨q3, d3, rfl⟩ := hV3.len; have ow3 : Only (fun b => b = w.heap.size + 1) wr _ := oz; replace hV3 := SlA.mono (fun b hb => Nat.le_trans ow3.size hb) hV3; clear ow3; have Ox3 : Only (fun b => b = w.heap.size + 1) wr x3 := (oz).trans (Below.only hb3) (fun _ h => .inl h); have kE3 := (kz).keep hb3; replace hV0 := hV0.keep hb3; replace hV1 := hV1.keep hb3; replace hV2 := hV2.keep hb3; have y3 := kE3.cell 4; have f3 := kE3.frozen 4; have l3 := kE3.lt; have F4 := trivial)
                | (go_at_call 33; clear F4; have kz := Blk.set (i := 4) kE3 (.slice q3 R3.length d3); have oz := (Ox3).trans (only_cell (b := w.heap.size + 1) (i := 4) (w := x3) (u := .slice q3 R3.length d3)) (fun _ h => .inl h); have sz := size_cell (b := w.heap.size + 1) (i := 4) (w := x3) (u := .slice q3 R3.length d3); have av := only_cell (b := w.heap.size + 1) (i := 4) (w := x3) (u := .slice q3 R3.length d3); replace hV0 := hV0.agree (av.agree (fun b hb e => by omega)); replace hV1 := hV1.agree (av.agree (fun b hb e => by omega)); replace hV2 := hV2.agree (av.agree (fun b hb e => by omega)); replace hV3 := hV3.agree (av.agree (fun b hb e => by omega)); clear av; generalize x3.setCell ⟨w.heap.size + 1, 4, none⟩ (.slice q3 R3.length d3) = z3 at *; refine (HM4.out _ oz).mono ?_; rintro e x4 ⟨v4, rfl, hV4, hb4⟩; obtain ⟨q4, d4, rfl⟩ := hV4.len; have ow4 : Only (fun b => b = w.heap.size + 1) wr _ := oz; replace hV4 := SlA.mono (fun b hb => Nat.le_trans ow4.size hb) hV4; clear ow4; have Ox4 : Only (fun b => b = w.heap.size + 1) wr x4 := (oz).trans (Below.only hb4) (fun _ h => .inl h); have kE4 := (kz).keep hb4; replace hV0 := hV0.keep hb4; replace hV1 := hV1.keep hb4; replace hV2 := hV2.keep hb4; replace hV3 := hV3.keep hb4; have y4 := kE4.cell 5; have f4 := kE4.frozen 5; have l4 := kE4.lt; have F5 := trivial; have kz5 : Blk (x4.setCell ⟨w.heap.size + 1, 5, none⟩ (.slice q4 R4.length d4)) (w.heap.size + 1) #[.slice p5 (evsJ l 0).length c5, .slice q0 R0.length d0, .slice q1 R1.length d1, .slice q2 R2.length d2, .slice q3 R3.length d3, .slice q4 R4.length d4, .slice p6 (regsJ l).length c6] 47 := Blk.set (i := 5) kE4 (.slice q4 R4.length d4); have av5 := only_cell (b := w.heap.size + 1) (i := 5) (w := x4) (u := .slice q4 R4.length d4); have oz5 := Ox4.trans av5 (fun _ h => .inl h); replace hV0 := hV0.agree (av5.agree (fun b hb e => by omega)); replace hV1 := hV1.agree (av5.agree (fun b hb e => by omega)); replace hV2 := hV2.agree (av5.agree (fun b hb e => by omega)); replace hV3 := hV3.agree (av5.agree (fun b hb e => by omega)); replace hV4 := hV4.agree (av5.agree (fun b hb e => by omega)); have kr5 := JJ.kr.only oz5 (by omega); clear av5; have t0 := kz5.cell 0; have t1 := kz5.cell 1; have t2 := kz5.cell 2; have t3 := kz5.cell 3; have t4 := kz5.cell 4; have t5 := kz5.cell 5; have t6 := kz5.cell 6; simp only [List.getElem?_toArray, List.getElem?_cons_zero, List.getElem?_cons_succ] at t0 t1 t2 t3 t4 t5 t6; have lz5 := kz5.lt; have lr5 := kr5.lt)
                | (clear F5; unfold exZ7 at kr5; refine wpList_storeB (by rfl) 47 (.tmp 2) (.tmp 186) (by rfl) w.heap.size #[.slice p5 (evsJ l 0).length c5, .slice q0 R0.length d0, .slice q1 R1.length d1, .slice q2 R2.length d2, .slice q3 R3.length d3, .slice q4 R4.length d4, .slice p6 (regsJ l).length c6] _ 47 (by rfl) (by rfl) kr5 (by kernel_rfl) (by rfl) (by simp [Value.oneCell']) ?_; intro wL kL oL zL; simp only [Act.put]; clear zL))
              have zz := Blk.cell kL
              have g0 : wL.cell? ⟨w.heap.size, 0, none⟩ = some (.slice p5 (evsJ l 0).length c5) := zz 0
              have g1 : wL.cell? ⟨w.heap.size, 1, none⟩ = some (.slice q0 R0.length d0) := zz 1
              have g2 : wL.cell? ⟨w.heap.size, 2, none⟩ = some (.slice q1 R1.length d1) := zz 2
              have g3 : wL.cell? ⟨w.heap.size, 3, none⟩ = some (.slice q2 R2.length d2) := zz 3
              have g4 : wL.cell? ⟨w.heap.size, 4, none⟩ = some (.slice q3 R3.length d3) := zz 4
              have g5 : wL.cell? ⟨w.heap.size, 5, none⟩ = some (.slice q4 R4.length d4) := zz 5
              have g6 : wL.cell? ⟨w.heap.size, 6, none⟩ = some (.slice p6 (regsJ l).length c6) := zz 6
              have OT : Only (fun b => b = w.heap.size + 1 ∨ b = w.heap.size) wr wL := (oz5.mono fun _ h => .inl h).trans (oL.mono fun _ h => .inr h) (fun _ h => .inl h)
              have hws := JJ.B.size
              refine bodyPost_ret (v := .tuple #[.agg #[.slice p5 (evsJ l 0).length c5, .slice q0 R0.length d0, .slice q1 R1.length d1, .slice q2 R2.length d2, .slice q3 R3.length d3, .slice q4 R4.length d4, .slice p6 (regsJ l).length c6], .int .i64 0]) (by simp [results, Tryz.results8, go_sem, g0, g1, g2, g3, g4, g5, g6]) rfl ⟨fun i => ([.slice p5 (evsJ l 0).length c5, .slice q0 R0.length d0, .slice q1 R1.length d1, .slice q2 R2.length d2, .slice q3 R3.length d3, .slice q4 R4.length d4, .slice p6 (regsJ l).length c6] : List Value).getD i undef, rfl, ?_, JJ.B.trans (OT.below hws (fun b hb => by omega))⟩
              have hge : ∀ j b, j < 7 → (r j).ownBlock = some b → ¬ (b = w.heap.size + 1 ∨ b = w.heap.size) := fun j b hj hb e => by have := (JJ.lt hj hb).1; omega
              have s5 := (JJ.jn.o5.only OT (fun b hb => hge 5 b (by decide) hb) (fun _ h => h.elim)).sl
              have s6 := (hZ6.only OT (fun b hb => hge 6 b (by decide) hb) (fun b hb e => by have := (hZ6b b hb).2; omega)).sl
              rw [h5] at s5
              rw [h6] at s6
              have tr : ∀ {α : Type} {E : Elem α} {x : List α} {u : Value}, SlA (fun b => wr.heap.size ≤ b) E (x4.setCell ⟨w.heap.size + 1, 5, none⟩ (.slice q4 R4.length d4)) u x → SlA (fun b => w.heap.size ≤ b) E wL u x := fun h => SlA.mono (fun b hb => by omega) (h.agree (oL.agree (fun b hb e => by omega)))
              refine ⟨s5.mono fun b hb => hb.elim (fun hb => by omega) False.elim, ?_, ?_, ?_, ?_, ?_, s6.mono fun b hb => hb.elim (fun hb => by omega) (fun hb => by have := (hZ6b b hb).2; omega)⟩
              · show SlA _ _ _ _ (mkR (totN l) (relJ poS l 0)); rw [HR0.out]; exact tr hV0
              · show SlA _ _ _ _ (mkR (totN l) (relJ adS l 0)); rw [HR1.out]; exact tr hV1
              · show SlA _ _ _ _ (mkR (totN l) (relJ daS l 0)); rw [HR2.out]; exact tr hV2
              · show SlA _ _ _ _ (mkR (totN l) (relJ ctS l 0)); rw [HR3.out]; exact tr hV3
              · show SlA _ _ _ _ (mkR (totN l) (relJ rmS l 0)); rw [HR4.out]; exact tr hV4
end Go.Proofs.YtcalinfdckklfaaGreatDoor
