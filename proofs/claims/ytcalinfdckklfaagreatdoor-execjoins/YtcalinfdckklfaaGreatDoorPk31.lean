/- The document's trace with one event more. -/
import Derived.Test.YtcalinfdckklfaaGreatDoorPk5
import Derived.Test.YtcalinfdckklfaaGreatDoorPk19
import Derived.Test.YtcalinfdckklfaaGreatDoorPk1
namespace Go.Proofs.YtcalinfdckklfaaGreatDoor
open Go.RowKit
attribute [local go_sem] Ext.cell Ext.frozen

section
variable {α : Type} {R : Elem α} {P : Program} {w : World} {ys : List α}
/-- An append onto an empty row of one's own. -/
theorem wpList_appE {ops : Array Oper} {rest : List Oper} {o : Oper} {a : Act} {Q : Exit → Act → World → Prop} (hgd : o.guard = none) (s x : Operand) (t e : TypeId) (i : TypeInfo) (z : Value) (bytes : Nat)
    (ho : o.op = .call { callee := .builtin .append, args := #[s, x], argTypes := #[t, t] })
    (ht : P.underlying t = some (.slice e)) (hi : P.info? e = some i) (hz : i.zero = some z) (hsize : i.size = R.size) (hby : i.bytes = bytes) (hzs : z.cells.size = R.size)
    (g base : Nat) (hbg : base ≤ g) (u : Value) (hs : a.eval s = .slice (some ⟨g, 0, none⟩) 0 0) (hx : a.eval x = u) (hg : Blk w g #[] e) (hu : Sl R w u ys) (hE : ys = [] → u = .slice none 0 0) (hR : ∀ A B w y c, R.cs A w y c → R.cs B w y c)
    (h63 : ys.length ≤ 1000000) (hbytes : bytes ≤ 1000000) (hbase : base ≤ w.heap.size)
    (h : ∀ p cap w', Own F0 R w' base e (.slice p ys.length cap) ys → Below w.heap.size w w' → wpList P ops Q rest (a.put o.dst (.slice p ys.length cap)) w') : wpList P ops Q (o :: rest) a w := by
  have own0 : Own F0 R w base e (.slice (some ⟨g, 0, none⟩) 0 0) ([] : List α) := ⟨[], ⟨by simp, .inr ⟨g, 0, #[], rfl, hbg, hg, Nat.le_refl _, by unfold maxLen; omega, by simp, by simp⟩⟩, rfl, fun i h => by simp at h⟩
  by_cases hy : ys = []
  · subst hy
    have hun := hE rfl
    obtain ⟨cc, h1, _⟩ := own0
    refine wpList_plain hgd fun K hK => ?_
    have hr := run_append_owned_none (P := P) (w := w) base t o.type e i R.size ht hi _ _ _ h1
    unfold Oper.wp execOp
    rw [hun] at hx
    simp only [ho, resolve, invoke, builtin, Sem.run_bind, Sem.run_pure, Result.andThen_ok, List.map_toArray, List.map_cons, List.map_nil, hs, hx, hr]
    exact hK _ _ (h (some ⟨g, 0, none⟩) 0 w ⟨[], ⟨by simp, .inr ⟨g, 0, #[], rfl, hbg, hg, Nat.le_refl _, by unfold maxLen; omega, by simp, by simp⟩⟩, rfl, fun i h => by simp at h⟩ (Below.refl _ _))
  · refine wpList_appNew (R := R) (B := fun _ => True) (ys := ys) hgd s x t e i z bytes ho ht hi hz hsize hby hzs ⟨g, 0, none⟩ u hs hx (SlA.o hu) hy (by omega) hbytes ?_
    intro p cap w' hO hb
    refine h p cap w' ?_ hb
    obtain ⟨cc, h1, h2, h3⟩ := hO
    refine ⟨cc, ?_, h2, fun i hi hi' => hR _ _ _ _ _ (h3 i hi hi')⟩
    obtain ⟨a1, a2⟩ := h1
    refine ⟨a1, ?_⟩
    rcases a2 with a2 | ⟨g', c', cur, e1, e2, e3⟩
    · exact .inl a2
    · exact .inr ⟨g', c', cur, e1, Nat.le_trans hbase e2, e3⟩
end
theorem TrB.set0 {w : World} {b : Nat} {r : Nat → Value} {s : St} {t : TypeId} (h : TrB w b r s t) (v : Value) : TrB (w.setCell ⟨b, 0, none⟩ v) b (updV r 0 v) s t := by
  have k := Blk.set (i := 0) h v
  simp only [trC, List.setIfInBounds_toArray, List.set] at k
  exact k
theorem TrB.set1 {w : World} {b : Nat} {r : Nat → Value} {s : St} {t : TypeId} (h : TrB w b r s t) (v : Value) : TrB (w.setCell ⟨b, 1, none⟩ v) b (updV r 1 v) s t := by
  have k := Blk.set (i := 1) h v
  simp only [trC, List.setIfInBounds_toArray, List.set] at k
  exact k
theorem TrB.set2 {w : World} {b : Nat} {r : Nat → Value} {s : St} {t : TypeId} (h : TrB w b r s t) (v : Value) : TrB (w.setCell ⟨b, 2, none⟩ v) b (updV r 2 v) s t := by
  have k := Blk.set (i := 2) h v
  simp only [trC, List.setIfInBounds_toArray, List.set] at k
  exact k
theorem TrB.set3 {w : World} {b : Nat} {r : Nat → Value} {s : St} {t : TypeId} (h : TrB w b r s t) (v : Value) : TrB (w.setCell ⟨b, 3, none⟩ v) b (updV r 3 v) s t := by
  have k := Blk.set (i := 3) h v
  simp only [trC, List.setIfInBounds_toArray, List.set] at k
  exact k
theorem TrB.set4 {w : World} {b : Nat} {r : Nat → Value} {s : St} {t : TypeId} (h : TrB w b r s t) (v : Value) : TrB (w.setCell ⟨b, 4, none⟩ v) b (updV r 4 v) s t := by
  have k := Blk.set (i := 4) h v
  simp only [trC, List.setIfInBounds_toArray, List.set] at k
  exact k

/-- A trace with its rows in memory; where a row is empty it is nil. -/
structure TrN (w : World) (r : Nat → Value) (s : St) : Prop where
  is : TrIs w r s
  n0 : s.evs = [] → r 0 = .slice none 0 0
  n1 : s.ad = [] → r 1 = .slice none 0 0
  n2 : s.da = [] → r 2 = .slice none 0 0
  n3 : s.ct = [] → r 3 = .slice none 0 0
  n4 : s.pa = [] → r 4 = .slice none 0 0
theorem TrN.keep {w w' : World} {r : Nat → Value} {s : St} (h : TrN w r s) (hb : Below w.heap.size w w') : TrN w' r s := ⟨h.is.keep hb, h.n0, h.n1, h.n2, h.n3, h.n4⟩
/-- The same, with the rows in blocks of A. -/
structure TrA (A : Nat → Prop) (w : World) (r : Nat → Value) (s : St) : Prop where
  e0 : SlA A EvE w (r 0) s.evs
  e1 : SlA A MskE w (r 1) s.ad
  e2 : SlA A MskE w (r 2) s.da
  e3 : SlA A MskE w (r 3) s.ct
  e4 : SlA A IntE w (r 4) s.pa
  n0 : s.evs = [] → r 0 = .slice none 0 0
  n1 : s.ad = [] → r 1 = .slice none 0 0
  n2 : s.da = [] → r 2 = .slice none 0 0
  n3 : s.ct = [] → r 3 = .slice none 0 0
  n4 : s.pa = [] → r 4 = .slice none 0 0
theorem TrA.n {A : Nat → Prop} {w : World} {r : Nat → Value} {s : St} (h : TrA A w r s) : TrN w r s := ⟨⟨h.e0.any, h.e1.any, h.e2.any, h.e3.any, h.e4.any⟩, h.n0, h.n1, h.n2, h.n3, h.n4⟩
theorem TrA.agree {A : Nat → Prop} {w w' : World} {r : Nat → Value} {s : St} (h : TrA A w r s) (ha : Agree A w w') : TrA A w' r s := ⟨h.e0.agree ha, h.e1.agree ha, h.e2.agree ha, h.e3.agree ha, h.e4.agree ha, h.n0, h.n1, h.n2, h.n3, h.n4⟩
theorem TrA.keep {A : Nat → Prop} {w w' : World} {r : Nat → Value} {s : St} (h : TrA A w r s) (hb : Below w.heap.size w w') : TrA A w' r s := h.agree (Below.agree hb)
theorem TrA.mono {A B : Nat → Prop} {w : World} {r : Nat → Value} {s : St} (hAB : ∀ b, A b → B b) (h : TrA A w r s) : TrA B w r s := ⟨h.e0.mono hAB, h.e1.mono hAB, h.e2.mono hAB, h.e3.mono hAB, h.e4.mono hAB, h.n0, h.n1, h.n2, h.n3, h.n4⟩
theorem tra_zero (A : Nat → Prop) (w : World) : TrA A w (fun _ => .slice none 0 0) .zero := ⟨SlA.nil, SlA.nil, SlA.nil, SlA.nil, SlA.nil, fun _ => rfl, fun _ => rfl, fun _ => rfl, fun _ => rfl, fun _ => rfl⟩
/-- With an event more, and this set of branches. -/
def St.addC (s : St) (e : Ev) (a d c p : Int) : St := { s with evs := s.evs ++ [e], ad := s.ad ++ [a], da := s.da ++ [d], ct := s.ct ++ [c], pa := s.pa ++ [p] }

def phiW (n n0 : Nat) (r0 : Value) (e : Ev) (evs : List Ev) : Nat → Value → World → Prop
  | 0, v, w => ∃ g, v = .slice (some ⟨g, 0, none⟩) 0 0 ∧ n0 ≤ g ∧ Blk w g #[] 52
  | 1, v, _ => v = .pointer (some ⟨n, 0, none⟩)
  | 2, v, _ => v = r0
  | 3, v, w => Own F0 EvE w n0 52 v evs
  | 4, v, _ => v = .agg #[.int .i64 e.th, .int .i64 e.kd, .int .i64 e.lc, .int .i64 e.vl, .bool e.aq, .bool e.rl, .bool e.ex]
  | 5, v, w => ∃ g, v = .slice (some ⟨g, 0, none⟩) 1 1 ∧ n0 ≤ g ∧ Blk w g #[.int .i64 e.th, .int .i64 e.kd, .int .i64 e.lc, .int .i64 e.vl, .bool e.aq, .bool e.rl, .bool e.ex] 52
  | _, _, _ => True
theorem phiW_stab (n n0 : Nat) (r0 : Value) (e : Ev) (evs : List Ev) (i : Nat) (v : Value) (w w' : World) (h : phiW n n0 r0 e evs i v w) (hb : Below w.heap.size w w') : phiW n n0 r0 e evs i v w' := by
  unfold phiW at *
  split at h <;> first
    | exact h
    | exact Own.keep h hb
    | (obtain ⟨g, h1, h2, h3⟩ := h; exact ⟨g, h1, h2, h3.keep hb⟩)

set_option maxHeartbeats 8000000 in
theorem with_first (e : Ev) (a d c q : Int) (r : Nat → Value) (s : St) (w : World) (h : TrN w r s) (l0 : s.evs.length ≤ 1000000) (l1 : s.ad.length ≤ 1000000) (l2 : s.da.length ≤ 1000000) (l3 : s.ct.length ≤ 1000000) (l4 : s.pa.length ≤ 1000000) :
    Calls Tryz.prog 109 #[trV r s, .agg #[.int .i64 e.th, .int .i64 e.kd, .int .i64 e.lc, .int .i64 e.vl, .bool e.aq, .bool e.rl, .bool e.ex], .int .u32 a, .int .u32 d, .int .u32 c, .int .i64 q] w fun x w' =>
      ∃ r', x = .returned (trV r' (s.addC e a d c q)) ∧ TrA (fun b => w.heap.size ≤ b) w' r' (s.addC e a d c q) ∧ Below w.heap.size w w' := by
  obtain ⟨i0, z0, j1, j2, j3, j4, j5⟩ := infoGet infoEv
  have J1 : Hid _ := j1
  have J2 : Hid _ := j2
  have J3 : Hid _ := j3
  have J4 : Hid _ := j4
  have J5 : Hid _ := j5
  clear j1 j2 j3 j4 j5
  obtain ⟨i1, z1, j1, j2, j3, j4, j5⟩ := infoGet infoU32
  have K1 : Hid _ := j1
  have K2 : Hid _ := j2
  have K3 : Hid _ := j3
  have K4 : Hid _ := j4
  have K5 : Hid _ := j5
  clear j1 j2 j3 j4 j5
  obtain ⟨i2, z2, j1, j2, j3, j4, j5⟩ := infoGet infoInt
  have M1 : Hid _ := j1
  have M2 : Hid _ := j2
  have M3 : Hid _ := j3
  have M4 : Hid _ := j4
  have M5 : Hid _ := j5
  clear j1 j2 j3 j4 j5
  unfold trV trC
  go_enter Tryz.func109, Tryz.ntmps109
  go_wp2
  obtain ⟨w1, hw1, B1, kT, kE, kZ⟩ : ∃ w1, w1 = ((w.alloc (.cells #[r 0, r 1, r 2, r 3, r 4, .int .i64 (s.v 0), .int .i64 (s.v 1), .int .i64 (s.v 2), .int .i64 (s.v 3), .int .u32 (s.d 0), .int .u32 (s.d 1), .int .u32 (s.d 2), .int .u32 (s.d 3), .int .i64 (s.vals : Nat), .int .i64 (s.lucks : Nat), .int .i64 s.more] 34)).alloc (.cells #[.int .i64 e.th, .int .i64 e.kd, .int .i64 e.lc, .int .i64 e.vl, .bool e.aq, .bool e.rl, .bool e.ex] 52)).alloc (.cells #[.slice none 0 0, .slice none 0 0, .slice none 0 0, .slice none 0 0, .slice none 0 0, .int .i64 0, .int .i64 0, .int .i64 0, .int .i64 0, .int .u32 0, .int .u32 0, .int .u32 0, .int .u32 0, .int .i64 0, .int .i64 0, .int .i64 0] 34) ∧
      Below w.heap.size w w1 ∧ TrB w1 w.heap.size r s 34 ∧ Blk w1 (w.heap.size + 1) #[.int .i64 e.th, .int .i64 e.kd, .int .i64 e.lc, .int .i64 e.vl, .bool e.aq, .bool e.rl, .bool e.ex] 52 ∧ TrB w1 (w.heap.size + 1 + 1) (fun _ => .slice none 0 0) .zero 34 :=
    ⟨_, rfl, by go_grown, (Blk.new.alloc _).alloc _, (Blk.newAt (by simp)).alloc _, Blk.newAt (by simp)⟩
  rw [← hw1]
  clear hw1
  have h1 := h.keep B1
  obtain ⟨n, hn⟩ : ∃ n, w.heap.size = n := ⟨_, rfl⟩
  have HN : Hid _ := hn
  rw [hn] at kT kE kZ ⊢
  clear hn
  have lT := kT.lt
  have lE := kE.lt
  have lZ := kZ.lt
  refine wp_region_par [6, 7, 8] [(13, 0), (14, 1), (15, 2), (16, 3), (17, 4), (18, 5)] (phiW n w1.heap.size (r 0) e s.evs) (by kernel_rfl) (by kernel_rfl) (phiW_stab _ _ _ _ _) ?_ ?_
  · intro vals v5 hB5
    have kT5 := kT.keep hB5
    have kE5 := kE.keep hB5
    obtain ⟨c0, -⟩ := kT5.rows
    have lT5 := kT5.lt
    have lE5 := kE5.lt
    have d0 := kE5.cell 0
    have d1 := kE5.cell 1
    have d2 := kE5.cell 2
    have d3 := kE5.cell 3
    have d4 := kE5.cell 4
    have d5 := kE5.cell 5
    have d6 := kE5.cell 6
    simp only [List.getElem?_toArray, List.getElem?_cons_zero, List.getElem?_cons_succ] at d0 d1 d2 d3 d4 d5 d6
    dsimp only [EachOp, Nat.zero_add, Nat.reduceAdd]
    refine ⟨fun _ hd => ?_, fun _ hd => ?_, fun _ hd => ?_, fun _ hd => ?_, fun _ hd => ?_, fun _ hd => ?_, fun h => absurd h (by decide), fun h => absurd h (by decide), fun h => absurd h (by decide), trivial⟩
    · simp only [laidF, List.foldl, Act.put, List.setIfInBounds_toArray, List.set]
      go_wp2
      exact ⟨_, rfl, ⟨_, rfl, hB5.size, Blk.new⟩, by go_grown⟩
    · simp only [laidF, List.foldl, Act.put, List.setIfInBounds_toArray, List.set]
      go_wp2
      exact ⟨_, rfl, rfl, Below.refl _ _⟩
    · have g1 : vals 1 = _ := hd ⟨1, .data⟩ (by simp) rfl
      simp only [laidF, List.foldl, Act.put, List.setIfInBounds_toArray, List.set, g1]
      go_wp2
      exact ⟨_, rfl, rfl, Below.refl _ _⟩
    · obtain ⟨g, q0, hg0, kg⟩ := hd ⟨0, .data⟩ (by simp) rfl
      have q2 : vals 2 = _ := hd ⟨2, .data⟩ (by simp) rfl
      simp only [laidF, List.foldl, Act.put, List.setIfInBounds_toArray, List.set, q0, q2]
      go_wp2_with (at_builtin; refine wpList_appE (R := EvE) (ys := s.evs) (by rfl) (.tmp 13) (.tmp 15) 25 52 i0 z0 40 (by rfl) Tryz.underlying25 J1.out J2.out J4.out J5.out J3.out g w1.heap.size hg0 (r 0) (by rfl) (by rfl) kg (h1.is.e0.keep hB5) h1.n0 (fun _ _ _ _ _ h => h) l0 (by decide) hB5.size ?_; intro p6 c6 w6 hO6 hb6)
      exact ⟨_, rfl, hO6, hb6⟩
    · simp only [laidF, List.foldl, Act.put, List.setIfInBounds_toArray, List.set]
      go_wp2
      exact ⟨_, rfl, rfl, Below.refl _ _⟩
    · have g4 : vals 4 = _ := hd ⟨4, .data⟩ (by simp) rfl
      simp only [laidF, List.foldl, Act.put, List.setIfInBounds_toArray, List.set, g4]
      go_wp2
      exact ⟨_, rfl, ⟨_, rfl, hB5.size, Blk.new⟩, by go_grown⟩
  · intro vals v5 hB5 hd
    obtain ⟨g0, q0, -, -⟩ := hd 0 (by decide) (by decide)
    have q1 : vals 1 = _ := hd 1 (by decide) (by decide)
    have q2 : vals 2 = _ := hd 2 (by decide) (by decide)
    have hO := hd 3 (by decide) (by decide)
    have q4 : vals 4 = _ := hd 4 (by decide) (by decide)
    obtain ⟨g5, q5, hg5, kg5⟩ := hd 5 (by decide) (by decide)
    simp only [phiW] at hO
    obtain ⟨p3, c3, q3⟩ := hO.len
    rw [q3] at hO
    clear hd
    dsimp only [List.map, opAt]
    simp only [laidF, List.foldl, Act.put, List.setIfInBounds_toArray, List.set, q0, q1, q2, q3, q4, q5]
    clear q0 q1 q2 q3 q4 q5
    have hs1 := h.is.e1.old
    have hs2 := h.is.e2.old
    have hs3 := h.is.e3.old
    have hs4 := h.is.e4.old
    rw [HN.out] at hs1 hs2 hs3 hs4
    have Bn : Below n w v5 := by rw [← HN.out]; exact Below.thru B1 hB5 (Nat.le_refl _)
    have kT5 := kT.keep hB5
    have kZ5 := kZ.keep hB5
    have b5 := hB5.size
    have F0' := trivial
    clear kT kE kZ
    obtain ⟨y0, y1, y2, y3, y4⟩ := kT5.rows
    go_wp2_with (first
      | (at_builtin; clear F0'; refine wpList_push (R := EvE) (xs := s.evs) (x := e) (by rfl) (.tmp 16) (.tmp 18) 25 52 i0 z0 40 (by rfl) Tryz.underlying25 J1.out J2.out J4.out J5.out J3.out w1.heap.size (.slice p3 s.evs.length c3) g5 (by rfl) (by rfl) hO e.cells (fun _ _ => rfl) (fun _ _ _ _ _ h => h) (fun j u hj => (kg5.cell j).trans (by simpa [Ev.cells] using hj)) l0 (by decide) b5 ?_; intro q0 d0 wa0 hO0 hg0 hv0; have Oz0 : Only (fun k => w1.heap.size ≤ k) v5 wa0 := grownBy_only hg0 (fun k hk => (hO.lt k hk).1); have kT0 : TrB wa0 n r s 34 := Blk.only kT5 Oz0 (fun hk => by omega); have kZ0 : TrB wa0 (n + 1 + 1) (fun _ => .slice none 0 0) .zero 34 := Blk.only kZ5 Oz0 (fun hk => by omega); have Bn0 : Below n w wa0 := Bn.trans (Oz0.below (by omega) (fun k hk => by omega)); obtain ⟨x00, x01, x02, x03, x04⟩ := kT0.rows; have f0 := kT0.frozen 0; have lt0 := kT0.lt; have FE1 := trivial)
      | (at_builtin; clear FE1; have Be1 := below_new (wa0.setCell ⟨n, 0, none⟩ (.slice q0 (s.evs.length + 1) d0)) (.cells #[] 29); have Oa1 : Only (fun k => k = n) wa0 ((wa0.setCell ⟨n, 0, none⟩ (.slice q0 (s.evs.length + 1) d0)).alloc (.cells #[] 29)) := (set_only (A := fun k => k = n) Only.refl rfl _).trans (Below.only Be1 : Only (fun k => k = n) _ _) (fun _ h => .inl h); have Ba1 : Below n w ((wa0.setCell ⟨n, 0, none⟩ (.slice q0 (s.evs.length + 1) d0)).alloc (.cells #[] 29)) := Bn0.trans (Oa1.below (Nat.le_of_lt lt0) (fun k hk => by omega)); refine wpList_appE (R := MskE) (ys := s.ad) (by rfl) (.tmp 21) (.tmp 23) 26 29 i1 z1 4 (by rfl) Tryz.underlying26 K1.out K2.out K4.out K5.out K3.out wa0.heap.size wa0.heap.size (Nat.le_refl _) (r 1) (by rfl) (by rfl) (Blk.newAt (by simp)) (SlA.any (hs1.agree (Below.agreeAt Ba1 fun _ h => h))) h.n1 (fun _ _ _ _ _ h => h) l1 (by decide) (by simp) ?_; intro pe1 ce1 we1 hOe1 hbe1; have FP1 := trivial)
      | (at_builtin; clear FP1; have Bf1 := below_new we1 (.cells #[.int .u32 a] 29); have kN1 : Blk (we1.alloc (.cells #[.int .u32 a] 29)) we1.heap.size #[.int .u32 a] 29 := Blk.new; have Ob1 : Only (fun k => k = n) wa0 (we1.alloc (.cells #[.int .u32 a] 29)) := (Oa1.trans (Below.only hbe1 : Only (fun k => k = n) _ _) (fun _ h => .inl h)).trans (Below.only Bf1 : Only (fun k => k = n) _ _) (fun _ h => .inl h); refine wpList_push (R := MskE) (xs := s.ad) (x := a) (by rfl) (.tmp 24) (.tmp 26) 26 29 i1 z1 4 (by rfl) Tryz.underlying26 K1.out K2.out K4.out K5.out K3.out wa0.heap.size (.slice pe1 s.ad.length ce1) we1.heap.size (by rfl) (by rfl) (hOe1.keep Bf1) [.int .u32 a] (fun _ _ => rfl) (fun _ _ _ _ _ h => h) (fun j u hj => (kN1.cell j).trans (by simpa using hj)) l1 (by decide) Ob1.size ?_; intro q1 d1 wa1 hO1 hg1 hv1; have Oc1 : Only (fun k => k = n) wa0 wa1 := Ob1.trans (grownBy_only (A := fun k => wa0.heap.size ≤ k) hg1 (fun k hk => ((hOe1.keep Bf1).lt k hk).1)) (fun k hk => .inr hk); have kT1 : TrB wa1 n (updV (r) 0 (.slice q0 (s.evs.length + 1) d0)) s 34 := Blk.only (((kT0.set0 (.slice q0 (s.evs.length + 1) d0)).keep Be1 |>.keep hbe1).keep Bf1) (grownBy_only (A := fun k => wa0.heap.size ≤ k) hg1 (fun k hk => ((hOe1.keep Bf1).lt k hk).1)) (fun hk => by omega); have kZ1 : TrB wa1 (n + 1 + 1) (fun _ => .slice none 0 0) .zero 34 := Blk.only kZ0 Oc1 (by omega); have Bn1 : Below n w wa1 := Bn0.trans (Oc1.below (Nat.le_of_lt lt0) (fun k hk => by omega)); obtain ⟨x10, x11, x12, x13, x14⟩ := kT1.rows; have f1 := kT1.frozen 1; have lt1 := kT1.lt; have FE2 := trivial; skip)
      | (at_builtin; clear FE2; have Be2 := below_new (wa1.setCell ⟨n, 1, none⟩ (.slice q1 (s.ad.length + 1) d1)) (.cells #[] 29); have Oa2 : Only (fun k => k = n) wa1 ((wa1.setCell ⟨n, 1, none⟩ (.slice q1 (s.ad.length + 1) d1)).alloc (.cells #[] 29)) := (set_only (A := fun k => k = n) Only.refl rfl _).trans (Below.only Be2 : Only (fun k => k = n) _ _) (fun _ h => .inl h); have Ba2 : Below n w ((wa1.setCell ⟨n, 1, none⟩ (.slice q1 (s.ad.length + 1) d1)).alloc (.cells #[] 29)) := Bn1.trans (Oa2.below (Nat.le_of_lt lt1) (fun k hk => by omega)); refine wpList_appE (R := MskE) (ys := s.da) (by rfl) (.tmp 29) (.tmp 31) 26 29 i1 z1 4 (by rfl) Tryz.underlying26 K1.out K2.out K4.out K5.out K3.out wa1.heap.size wa1.heap.size (Nat.le_refl _) (r 2) (by rfl) (by rfl) (Blk.newAt (by simp)) (SlA.any (hs2.agree (Below.agreeAt Ba2 fun _ h => h))) h.n2 (fun _ _ _ _ _ h => h) l2 (by decide) (by simp) ?_; intro pe2 ce2 we2 hOe2 hbe2; have FP2 := trivial)
      | (at_builtin; clear FP2; have Bf2 := below_new we2 (.cells #[.int .u32 d] 29); have kN2 : Blk (we2.alloc (.cells #[.int .u32 d] 29)) we2.heap.size #[.int .u32 d] 29 := Blk.new; have Ob2 : Only (fun k => k = n) wa1 (we2.alloc (.cells #[.int .u32 d] 29)) := (Oa2.trans (Below.only hbe2 : Only (fun k => k = n) _ _) (fun _ h => .inl h)).trans (Below.only Bf2 : Only (fun k => k = n) _ _) (fun _ h => .inl h); refine wpList_push (R := MskE) (xs := s.da) (x := d) (by rfl) (.tmp 32) (.tmp 34) 26 29 i1 z1 4 (by rfl) Tryz.underlying26 K1.out K2.out K4.out K5.out K3.out wa1.heap.size (.slice pe2 s.da.length ce2) we2.heap.size (by rfl) (by rfl) (hOe2.keep Bf2) [.int .u32 d] (fun _ _ => rfl) (fun _ _ _ _ _ h => h) (fun j u hj => (kN2.cell j).trans (by simpa using hj)) l2 (by decide) Ob2.size ?_; intro q2 d2 wa2 hO2 hg2 hv2; have Oc2 : Only (fun k => k = n) wa1 wa2 := Ob2.trans (grownBy_only (A := fun k => wa1.heap.size ≤ k) hg2 (fun k hk => ((hOe2.keep Bf2).lt k hk).1)) (fun k hk => .inr hk); have kT2 : TrB wa2 n (updV (updV (r) 0 (.slice q0 (s.evs.length + 1) d0)) 1 (.slice q1 (s.ad.length + 1) d1)) s 34 := Blk.only (((kT1.set1 (.slice q1 (s.ad.length + 1) d1)).keep Be2 |>.keep hbe2).keep Bf2) (grownBy_only (A := fun k => wa1.heap.size ≤ k) hg2 (fun k hk => ((hOe2.keep Bf2).lt k hk).1)) (fun hk => by omega); have kZ2 : TrB wa2 (n + 1 + 1) (fun _ => .slice none 0 0) .zero 34 := Blk.only kZ1 Oc2 (by omega); have Bn2 : Below n w wa2 := Bn1.trans (Oc2.below (Nat.le_of_lt lt1) (fun k hk => by omega)); obtain ⟨x20, x21, x22, x23, x24⟩ := kT2.rows; have f2 := kT2.frozen 2; have lt2 := kT2.lt; have FE3 := trivial; skip)
      | (at_builtin; clear FE3; have Be3 := below_new (wa2.setCell ⟨n, 2, none⟩ (.slice q2 (s.da.length + 1) d2)) (.cells #[] 29); have Oa3 : Only (fun k => k = n) wa2 ((wa2.setCell ⟨n, 2, none⟩ (.slice q2 (s.da.length + 1) d2)).alloc (.cells #[] 29)) := (set_only (A := fun k => k = n) Only.refl rfl _).trans (Below.only Be3 : Only (fun k => k = n) _ _) (fun _ h => .inl h); have Ba3 : Below n w ((wa2.setCell ⟨n, 2, none⟩ (.slice q2 (s.da.length + 1) d2)).alloc (.cells #[] 29)) := Bn2.trans (Oa3.below (Nat.le_of_lt lt2) (fun k hk => by omega)); refine wpList_appE (R := MskE) (ys := s.ct) (by rfl) (.tmp 37) (.tmp 39) 26 29 i1 z1 4 (by rfl) Tryz.underlying26 K1.out K2.out K4.out K5.out K3.out wa2.heap.size wa2.heap.size (Nat.le_refl _) (r 3) (by rfl) (by rfl) (Blk.newAt (by simp)) (SlA.any (hs3.agree (Below.agreeAt Ba3 fun _ h => h))) h.n3 (fun _ _ _ _ _ h => h) l3 (by decide) (by simp) ?_; intro pe3 ce3 we3 hOe3 hbe3; have FP3 := trivial)
      | (at_builtin; clear FP3; have Bf3 := below_new we3 (.cells #[.int .u32 c] 29); have kN3 : Blk (we3.alloc (.cells #[.int .u32 c] 29)) we3.heap.size #[.int .u32 c] 29 := Blk.new; have Ob3 : Only (fun k => k = n) wa2 (we3.alloc (.cells #[.int .u32 c] 29)) := (Oa3.trans (Below.only hbe3 : Only (fun k => k = n) _ _) (fun _ h => .inl h)).trans (Below.only Bf3 : Only (fun k => k = n) _ _) (fun _ h => .inl h); refine wpList_push (R := MskE) (xs := s.ct) (x := c) (by rfl) (.tmp 40) (.tmp 42) 26 29 i1 z1 4 (by rfl) Tryz.underlying26 K1.out K2.out K4.out K5.out K3.out wa2.heap.size (.slice pe3 s.ct.length ce3) we3.heap.size (by rfl) (by rfl) (hOe3.keep Bf3) [.int .u32 c] (fun _ _ => rfl) (fun _ _ _ _ _ h => h) (fun j u hj => (kN3.cell j).trans (by simpa using hj)) l3 (by decide) Ob3.size ?_; intro q3 d3 wa3 hO3 hg3 hv3; have Oc3 : Only (fun k => k = n) wa2 wa3 := Ob3.trans (grownBy_only (A := fun k => wa2.heap.size ≤ k) hg3 (fun k hk => ((hOe3.keep Bf3).lt k hk).1)) (fun k hk => .inr hk); have kT3 : TrB wa3 n (updV (updV (updV (r) 0 (.slice q0 (s.evs.length + 1) d0)) 1 (.slice q1 (s.ad.length + 1) d1)) 2 (.slice q2 (s.da.length + 1) d2)) s 34 := Blk.only (((kT2.set2 (.slice q2 (s.da.length + 1) d2)).keep Be3 |>.keep hbe3).keep Bf3) (grownBy_only (A := fun k => wa2.heap.size ≤ k) hg3 (fun k hk => ((hOe3.keep Bf3).lt k hk).1)) (fun hk => by omega); have kZ3 : TrB wa3 (n + 1 + 1) (fun _ => .slice none 0 0) .zero 34 := Blk.only kZ2 Oc3 (by omega); have Bn3 : Below n w wa3 := Bn2.trans (Oc3.below (Nat.le_of_lt lt2) (fun k hk => by omega)); obtain ⟨x30, x31, x32, x33, x34⟩ := kT3.rows; have f3 := kT3.frozen 3; have lt3 := kT3.lt; have FE4 := trivial; skip)
      | (at_builtin; clear FE4; have Be4 := below_new (wa3.setCell ⟨n, 3, none⟩ (.slice q3 (s.ct.length + 1) d3)) (.cells #[] 3); have Oa4 : Only (fun k => k = n) wa3 ((wa3.setCell ⟨n, 3, none⟩ (.slice q3 (s.ct.length + 1) d3)).alloc (.cells #[] 3)) := (set_only (A := fun k => k = n) Only.refl rfl _).trans (Below.only Be4 : Only (fun k => k = n) _ _) (fun _ h => .inl h); have Ba4 : Below n w ((wa3.setCell ⟨n, 3, none⟩ (.slice q3 (s.ct.length + 1) d3)).alloc (.cells #[] 3)) := Bn3.trans (Oa4.below (Nat.le_of_lt lt3) (fun k hk => by omega)); refine wpList_appE (R := IntE) (ys := s.pa) (by rfl) (.tmp 45) (.tmp 47) 27 3 i2 z2 8 (by rfl) Tryz.underlying27 M1.out M2.out M4.out M5.out M3.out wa3.heap.size wa3.heap.size (Nat.le_refl _) (r 4) (by rfl) (by rfl) (Blk.newAt (by simp)) (SlA.any (hs4.agree (Below.agreeAt Ba4 fun _ h => h))) h.n4 (fun _ _ _ _ _ h => h) l4 (by decide) (by simp) ?_; intro pe4 ce4 we4 hOe4 hbe4; have FP4 := trivial)
      | (at_builtin; clear FP4; have Bf4 := below_new we4 (.cells #[.int .i64 q] 3); have kN4 : Blk (we4.alloc (.cells #[.int .i64 q] 3)) we4.heap.size #[.int .i64 q] 3 := Blk.new; have Ob4 : Only (fun k => k = n) wa3 (we4.alloc (.cells #[.int .i64 q] 3)) := (Oa4.trans (Below.only hbe4 : Only (fun k => k = n) _ _) (fun _ h => .inl h)).trans (Below.only Bf4 : Only (fun k => k = n) _ _) (fun _ h => .inl h); refine wpList_push (R := IntE) (xs := s.pa) (x := q) (by rfl) (.tmp 48) (.tmp 50) 27 3 i2 z2 8 (by rfl) Tryz.underlying27 M1.out M2.out M4.out M5.out M3.out wa3.heap.size (.slice pe4 s.pa.length ce4) we4.heap.size (by rfl) (by rfl) (hOe4.keep Bf4) [.int .i64 q] (fun _ _ => rfl) (fun _ _ _ _ _ h => h) (fun j u hj => (kN4.cell j).trans (by simpa using hj)) l4 (by decide) Ob4.size ?_; intro q4 d4 wa4 hO4 hg4 hv4; have Oc4 : Only (fun k => k = n) wa3 wa4 := Ob4.trans (grownBy_only (A := fun k => wa3.heap.size ≤ k) hg4 (fun k hk => ((hOe4.keep Bf4).lt k hk).1)) (fun k hk => .inr hk); have kT4 : TrB wa4 n (updV (updV (updV (updV (r) 0 (.slice q0 (s.evs.length + 1) d0)) 1 (.slice q1 (s.ad.length + 1) d1)) 2 (.slice q2 (s.da.length + 1) d2)) 3 (.slice q3 (s.ct.length + 1) d3)) s 34 := Blk.only (((kT3.set3 (.slice q3 (s.ct.length + 1) d3)).keep Be4 |>.keep hbe4).keep Bf4) (grownBy_only (A := fun k => wa3.heap.size ≤ k) hg4 (fun k hk => ((hOe4.keep Bf4).lt k hk).1)) (fun hk => by omega); have kZ4 : TrB wa4 (n + 1 + 1) (fun _ => .slice none 0 0) .zero 34 := Blk.only kZ3 Oc4 (by omega); have Bn4 : Below n w wa4 := Bn3.trans (Oc4.below (Nat.le_of_lt lt3) (fun k hk => by omega)); obtain ⟨x40, x41, x42, x43, x44⟩ := kT4.rows; have f4 := kT4.frozen 4; have lt4 := kT4.lt; have FZ := trivial; obtain ⟨⟨r5, r6, r7, r8⟩, r9, ra, rb, rc⟩ := kT4.regs; obtain ⟨rd, re, rf⟩ := kT4.more)
      | (clear FZ; refine wpList_storeB (by rfl) 34 (.tmp 12) (.tmp 53) (by rfl) (n + 1 + 1) (trC (updV (updV (updV (updV (updV (r) 0 (.slice q0 (s.evs.length + 1) d0)) 1 (.slice q1 (s.ad.length + 1) d1)) 2 (.slice q2 (s.da.length + 1) d2)) 3 (.slice q3 (s.ct.length + 1) d3)) 4 (.slice q4 (s.pa.length + 1) d4)) s) _ 34 (by rfl) (by rfl) (Blk.only kZ4 (set_only (A := fun k => k = n) (b := n) (i := 4) Only.refl rfl (.slice q4 (s.pa.length + 1) d4)) (by omega)) (by kernel_rfl) (by rfl) (by simp [trC, updV, Value.oneCell']) ?_; intro wL kL oL zL; simp only [Act.put]))
    have OL4 : Only (fun k => k = n ∨ k = n + 1 + 1) wa4 wL := ((set_only (A := fun k => k = n) (b := n) (i := 4) Only.refl rfl (.slice q4 (s.pa.length + 1) d4)).mono (fun _ h => .inl h)).trans (oL.mono (fun _ h => .inr h) : Only (fun k => k = n ∨ k = n + 1 + 1) _ _) (fun _ h => .inl h)
    have OL3 : Only (fun k => k = n ∨ k = n + 1 + 1) wa3 wL := (Oc4.mono (fun _ h => .inl h)).trans OL4 (fun _ h => .inl h)
    have OL2 : Only (fun k => k = n ∨ k = n + 1 + 1) wa2 wL := (Oc3.mono (fun _ h => .inl h)).trans OL3 (fun _ h => .inl h)
    have OL1 : Only (fun k => k = n ∨ k = n + 1 + 1) wa1 wL := (Oc2.mono (fun _ h => .inl h)).trans OL2 (fun _ h => .inl h)
    have OL0 : Only (fun k => k = n ∨ k = n + 1 + 1) wa0 wL := (Oc1.mono (fun _ h => .inl h)).trans OL1 (fun _ h => .inl h)
    have z0 := Oz0.size
    have z1 := Oc1.size
    have z2 := Oc2.size
    have z3 := Oc3.size
    have kL' : TrB wL (n + 1 + 1) (updV (updV (updV (updV (updV (r) 0 (.slice q0 (s.evs.length + 1) d0)) 1 (.slice q1 (s.ad.length + 1) d1)) 2 (.slice q2 (s.da.length + 1) d2)) 3 (.slice q3 (s.ct.length + 1) d3)) 4 (.slice q4 (s.pa.length + 1) d4)) s 34 := kL
    clear x00 x01 x02 x03 x04 x10 x11 x12 x13 x14 x20 x21 x22 x23 x24 x30 x31 x32 x33 x34 x40 x41 x42 x43 x44 r5 r6 r7 r8 r9 ra rb rc rd re rf
    obtain ⟨x0, x1, x2, x3, x4⟩ := kL'.rows
    obtain ⟨⟨x5, x6, x7, x8⟩, x9, xa, xb, xc⟩ := kL'.regs
    obtain ⟨xd, xe, xf⟩ := kL'.more
    refine bodyPost_ret (v := trV (updV (updV (updV (updV (updV (r) 0 (.slice q0 (s.evs.length + 1) d0)) 1 (.slice q1 (s.ad.length + 1) d1)) 2 (.slice q2 (s.da.length + 1) d2)) 3 (.slice q3 (s.ct.length + 1) d3)) 4 (.slice q4 (s.pa.length + 1) d4)) s) (by simp [results, Tryz.results109, go_sem, trV, trC, x0, x1, x2, x3, x4, x5, x6, x7, x8, x9, xa, xb, xc, xd, xe, xf]) rfl ⟨_, rfl, ⟨?_, ?_, ?_, ?_, ?_, ?_, ?_, ?_, ?_, ?_⟩, ?_⟩
    · exact (hO0.only OL0 (fun k hk hA => by have := (hO0.lt k hk).1; omega) (fun _ h => h.elim)).sl.mono (fun b hb => by rw [HN.out]; rcases hb with hb | hb; (omega); exact hb.elim)
    · exact (hO1.only OL1 (fun k hk hA => by have := (hO1.lt k hk).1; omega) (fun _ h => h.elim)).sl.mono (fun b hb => by rw [HN.out]; rcases hb with hb | hb; (omega); exact hb.elim)
    · exact (hO2.only OL2 (fun k hk hA => by have := (hO2.lt k hk).1; omega) (fun _ h => h.elim)).sl.mono (fun b hb => by rw [HN.out]; rcases hb with hb | hb; (omega); exact hb.elim)
    · exact (hO3.only OL3 (fun k hk hA => by have := (hO3.lt k hk).1; omega) (fun _ h => h.elim)).sl.mono (fun b hb => by rw [HN.out]; rcases hb with hb | hb; (omega); exact hb.elim)
    · exact (hO4.only OL4 (fun k hk hA => by have := (hO4.lt k hk).1; omega) (fun _ h => h.elim)).sl.mono (fun b hb => by rw [HN.out]; rcases hb with hb | hb; (omega); exact hb.elim)
    · intro h; simp [St.addC] at h
    · intro h; simp [St.addC] at h
    · intro h; simp [St.addC] at h
    · intro h; simp [St.addC] at h
    · intro h; simp [St.addC] at h
    · rw [HN.out]
      exact Bn4.trans (OL4.below (Nat.le_of_lt lt4) (fun k hk => by omega))
end Go.Proofs.YtcalinfdckklfaaGreatDoor
