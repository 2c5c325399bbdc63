/- ValsK: ValsSet, ValsWf, ValsTold, ValsGuess, ValsInv, in one text. -/
import Derived.Test.YtcalinfdckklfaaGreatDoorPk9
import Derived.Shelf.SlIterI.Nil
import Derived.OpenShut
import Derived.WalkSmall
import Derived.ArgAppend
import Derived.Maps.AppendAt
namespace Go.Proofs.YtcalinfdckklfaaGreatDoor
open Go.RowKit Go.Maps Go.Sort

/-- A number of 64 bits. -/
def InZ (n : Int) : Prop := (Lit.int .i64 n).wf = true
/-- What stands at a key plays no part. -/
def unitElem : Value → Option (DataW Unit × List MemPlace) := fun _ => some (.lit (.bool true), [])
/-- A map that has the numbers of a list. -/
def SetAt (w : World) (b n : Nat) (l : List Int) : Prop := ∃ D, w.ownsMap Tryz.prog 2 unitElem b n D ∧ ∀ x, has D (.int .i64 x) = true ↔ x ∈ l
theorem keyed64 : Keyed Tryz.prog 2 := int_keyed Tryz.underlying2
theorem SetAt.made (w : World) : SetAt (w.alloc (.map #[] 0)) w.heap.size 0 [] := ⟨_, World.ownsMap_made w Tryz.prog 2 unitElem, fun x => by simp [has]⟩
theorem SetAt.keep {w w' : World} {b n : Nat} {l : List Int} (h : SetAt w b n l) (hb : Below w.heap.size w w') : SetAt w' b n l := by
  obtain ⟨D, h1, h2⟩ := h
  exact ⟨D, h1.kept (Below.grownBy hb) (by simp), h2⟩
theorem SetAt.put {w : World} {b n : Nat} {l : List Int} (h : SetAt w b n l) (hn : n ≤ 1000000) {x : Int} (hx : InZ x) (val : Value) :
    ∃ w', (Instr.mapUpdate 133 (.map (some b)) (.int .i64 x) val).run Tryz.prog w = .ok () w' ∧ SetAt w' b (n + 1) (l ++ [x]) ∧ w.grownBy w' (some b) := by
  obtain ⟨D, h1, h2⟩ := h
  obtain ⟨w', r1, o1, g1⟩ := h1.update (t := 133) keyed64 Tryz.underlying133 (by unfold maxLen; omega) (keyOf_int_mk Tryz.underlying2 hx) (show unitElem val = _ from rfl)
  refine ⟨w', r1, ⟨_, o1, fun y => ?_⟩, g1⟩
  by_cases e : y = x
  · subst e
    rw [has_put_same h1.isMap (show WideAt.IsKeyLit (.int .i64 y) from trivial)]
    simp
  · rw [has_put_other (fun k => e (by injection k))]
    rw [h2 y]
    simp [e]

theorem up_nodup {l : List Int} (h : Up l) : l.Nodup := h.imp fun h => by omega
theorem up_sorted {l : List Int} (h : Up l) : l.mergeSort leI = l :=
  List.mergeSort_of_pairwise (h.imp fun h => by simp only [leI, decide_eq_true_eq]; omega)
/-- The map's numbers, sorted. -/
theorem SetAt.sorted {w : World} {b n : Nat} {D : DataW Unit} {l ss : List Int} (h : w.ownsMap Tryz.prog 2 unitElem b n D) (h2 : ∀ x, has D (.int .i64 x) = true ↔ x ∈ l) (hs : ss.Perm (intKeys D)) : ss.mergeSort leI = putsN [] l := by
  obtain ⟨es, hD, hpw, _⟩ := h.entries keyed64
  obtain ⟨es', hD', hko⟩ := h.keysOf
  obtain rfl : es = es' := by rw [hD] at hD'; simpa using hD'
  have hup : Up (putsN [] l) := up_putsN (by simp [Up])
  subst hD
  have hp : (putsN [] l).Perm (intKeys (.map es)) := perm_intKeys hpw (fun p hp => by obtain ⟨v, hv⟩ := hko p hp; obtain ⟨x, _, hx, _⟩ := Maps.keyOf_i64 Tryz.underlying2 hv; exact ⟨x, hx⟩) (up_nodup hup) (fun x => by rw [h2 x, mem_putsN]; simp)
  rw [mergeSort_of_perm_i (hs.trans hp.symm), up_sorted hup]

/-- A row of numbers that a call has made. -/
theorem own_ints {w : World} {base : Nat} {e : TypeId} {v : Value} {l : List Int} (h : w.ownsRow base e 1 v l.length (l.map encZ)) : Own (fun _ => False) IntE w base e v l :=
  ⟨l.map fun x => [.int .i64 x], by
    have e1 : (l.map fun x => [Value.int .i64 x]).flatten = l.map encZ := by
      clear h
      induction l with
      | nil => rfl
      | cons x l ih => simp [ih]
    rw [e1]; exact h, by simp, fun i h h' => by
    show _ = [Value.int .i64 l[i]]
    simp⟩

end Go.Proofs.YtcalinfdckklfaaGreatDoor

namespace Go.Proofs.YtcalinfdckklfaaGreatDoor
open Go.RowKit

theorem inZ_of {n : Int} (h1 : -1000000 ≤ n) (h2 : n ≤ 1000000) : InZ n := WalkArith.wf_i64 (by omega)
theorem inZ0 : InZ 0 := inZ_of (by decide) (by decide)
theorem mayF_mem {locs : Int} : ∀ {th : List Ins} {x : Ins}, mayF locs th = true → x ∈ th → ∃ k : Int, mayB x.op x.d x.a x.b x.l x.i k locs = true
  | y :: l, x, h, hx => by
    unfold mayF at h
    rw [Bool.and_eq_true] at h
    rcases List.mem_cons.1 hx with rfl | hx
    · exact ⟨_, h.1⟩
    · exact mayF_mem h.2 hx
theorem may_imm {op d a b l i k locs : Int} (h : mayB op d a b l i k locs = true) (ho : op = 1) : InZ i := by
  subst ho
  unfold mayB at h
  simp only [Bool.and_eq_true] at h
  have h5 := h.2.2.2.2.2
  unfold m5B at h5
  rw [show hasIB 1 = true from rfl, cond_true] at h5
  unfold immB at h5
  rw [if_pos rfl] at h5
  simp only [Bool.and_eq_true, decide_eq_true_eq] at h5
  exact inZ_of (by omega) (by omega)
theorem wf_atR {v : Nat → Int} (h : ∀ k, InZ (v k)) (n : Int) : InZ (atR v n) := by
  unfold atR
  split
  · exact h _
  · exact inZ0
theorem wf_upd {v : Nat → Int} (h : ∀ k, InZ (v k)) {x : Int} (hx : InZ x) (n : Int) (k : Nat) : InZ (upd v n x k) := by
  unfold upd
  split
  · exact hx
  · exact h k
theorem wf_make {op a b i : Int} (hi : op = 1 → InZ i) : InZ (makeZ op a b i) := by
  unfold makeZ
  split
  · rename_i h; exact hi h
  · split
    · exact RowKit.wrap64_wf _
    · split
      · exact wf_bits _ _ _ _
      · exact wf_bits _ _ _ _
/-- Registers and values of events are of 64 bits. -/
structure WfS (s : St) : Prop where
  v : ∀ k, InZ (s.v k)
  e : ∀ e ∈ s.evs, InZ e.vl
theorem WfS.add {s : St} (h : WfS s) {e : Ev} (he : InZ e.vl) (a d p : Int) : WfS (s.add e a d p) :=
  ⟨h.v, fun x hx => by
    rcases List.mem_append.1 (show x ∈ s.evs ++ [e] from hx) with hx | hx
    · exact h.e x hx
    · rw [List.mem_singleton.1 hx]; exact he⟩
theorem WfS.set {s : St} (h : WfS s) {x : Int} (hx : InZ x) (n y : Int) : WfS (s.set n x y) := ⟨wf_upd h.v hx n, h.e⟩
theorem WfS.like {s t : St} (h : WfS s) (hv : t.v = s.v) (he : t.evs = s.evs) : WfS t := ⟨by rw [hv]; exact h.v, by rw [he]; exact h.e⟩
theorem WfS.write {s : St} (h : WfS s) (locs : Int) (x : Ins) (p : Int) : WfS (s.write locs x p) := h.add (wf_atR h.v x.b) _ _ _
theorem WfS.load {s : St} (h : WfS s) (locs val : Int) (x : Ins) (hval : InZ val) : WfS (s.load locs val x) := by
  have h1 : WfS ((({ s with vals := s.vals + 1 } : St).add (rdEv locs val x s) (placeD s.d x.op x.a locs) 0 (-1)).set x.d val (2 ^ s.evs.length)) :=
    ((h.like (t := { s with vals := s.vals + 1 }) rfl rfl).add hval _ _ _).set hval _ _
  unfold St.load
  simp only []
  split
  · exact h1.like rfl rfl
  · exact h1
theorem WfS.fail {s : St} (h : WfS s) (x : Ins) : WfS (s.fail x) := (h.like (t := { s with opn := -1 }) rfl rfl).set (inZ_of (by decide) (by decide)) _ _
theorem WfS.stx {s : St} (h : WfS s) (locs : Int) (x : Ins) : WfS (s.stx locs x) := ((h.like (t := { s with opn := -1, lucks := s.lucks + 1 }) rfl rfl).write locs x s.opn).set inZ0 _ _
theorem runT_wf (th : List Ins) (locs : Int) (vals : List Int) (lucks : List Bool) (hv : ∀ x ∈ vals, InZ x) : WfS (runT th locs vals lucks) := by
  refine runT_ind WfS ⟨fun _ => inZ0, fun e he => by simp [St.zero] at he⟩ ?_
  intro s x hm hx hz hok hi h0
  have hmx : x ∈ th := List.mem_of_getElem? hx
  unfold mayT at hm
  rw [Bool.and_eq_true] at hm
  obtain ⟨k, hk⟩ := mayF_mem hm.2 hmx
  have h : WfS s.inc := h0.like rfl rfl
  unfold St.step
  split
  · split
    · exact h.like rfl rfl
    · refine h.load _ _ _ ?_
      rw [List.getD_eq_getElem?_getD]
      cases hg : vals[s.inc.vals]? with
      | none => exact inZ0
      | some y => exact hv y (List.mem_of_getElem? hg)
  · split
    · exact h.write _ _ _
    · split
      · split
        · split
          · exact h.like rfl rfl
          · split
            · exact h.stx _ _
            · exact (h.like (t := { s.inc with lucks := s.inc.lucks + 1 }) rfl rfl).fail x
        · exact h.fail x
      · split
        · exact h.add inZ0 _ _ _
        · split
          · exact h.add inZ0 _ _ _
          · split
            · exact h.like rfl rfl
            · exact ⟨wf_upd h.v (wf_make (may_imm hk)) _, h.e⟩
/-- What threads write is of 64 bits. -/
theorem wrote_wf {th : List Ins} {locs : Int} {l : List Int} (hl : ∀ x ∈ l, InZ x) : ∀ y ∈ wroteT (tracesT th locs l), InZ y := by
  intro y hy
  unfold wroteT at hy
  rw [List.mem_flatMap] at hy
  obtain ⟨s, hs, hy⟩ := hy
  obtain ⟨v, b, rfl, _, _, hv⟩ := tracesT_mem hs
  unfold wroteS at hy
  obtain ⟨e, he, rfl⟩ := List.mem_map.1 hy
  exact (runT_wf th locs v b fun x hx => hl x (hv x hx)).e e (List.mem_filter.1 he).1
theorem nextN_wf {ts : List (List Ins)} {locs : Int} {l : List Int} (hl : ∀ x ∈ l, InZ x) : ∀ y ∈ nextN ts locs l, InZ y := by
  intro y hy
  rw [nextN_is] at hy
  rcases mem_putsN.1 hy with hy | hy
  · rw [List.mem_flatMap] at hy
    obtain ⟨th, _, hy⟩ := hy
    exact wrote_wf hl y hy
  · exact hl y hy
theorem putsN_wf {l m : List Int} (hl : ∀ x ∈ l, InZ x) (hm : ∀ x ∈ m, InZ x) : ∀ y ∈ putsN l m, InZ y := fun y hy => (mem_putsN.1 hy).elim (hm y) (hl y)
end Go.Proofs.YtcalinfdckklfaaGreatDoor

namespace Go.Proofs.YtcalinfdckklfaaGreatDoor
open Go.RowKit

theorem info_boolP : ∃ i, Tryz.prog.info? 4 = some i ∧ i.zero = some (.bool false) ∧ i.size = 1 ∧ i.bytes = 1 := by
  have h : (Tryz.prog.info? 4).map (fun i => (i.zero, i.size, i.bytes)) = some (some (.bool false), 1, 1) := by kernel_rfl
  cases hi : Tryz.prog.info? 4 with
  | none => rw [hi] at h; cases h
  | some i =>
    rw [hi] at h
    simp only [Option.map_some, Option.some.injEq, Prod.mk.injEq] at h
    exact ⟨i, rfl, h.1, h.2.1, h.2.2⟩
theorem info_trP : ∃ i z, Tryz.prog.info? 37 = some i ∧ i.zero = some z ∧ z.cells.size = 16 ∧ i.size = 16 ∧ i.bytes = 192 := by
  have h : (Tryz.prog.info? 37).map (fun i => (i.zero.map (·.cells.size), i.size, i.bytes)) = some (some 16, 16, 192) := by kernel_rfl
  cases hi : Tryz.prog.info? 37 with
  | none => rw [hi] at h; cases h
  | some i =>
    rw [hi] at h
    simp only [Option.map_some, Option.some.injEq, Prod.mk.injEq] at h
    obtain ⟨h1, h2, h3⟩ := h
    cases hz : i.zero with
    | none => rw [hz] at h1; cases h1
    | some z =>
      rw [hz] at h1
      simp only [Option.map_some, Option.some.injEq] at h1
      exact ⟨i, z, rfl, hz, h1, h2, h3⟩
def zeroTrP : Array Value := #[.slice none 0 0, .slice none 0 0, .slice none 0 0, .slice none 0 0, .slice none 0 0, .int .i64 0, .int .i64 0, .int .i64 0, .int .i64 0, .int .u32 0, .int .u32 0, .int .u32 0, .int .u32 0, .int .i64 0, .int .i64 0, .int .i64 0]
section
variable {ops : Array Oper} {rest : List Oper} {o : Oper} {a : Act} {w : World} {Q : Exit → Act → World → Prop}
/-- A trace is stored into a new block. -/
theorem wpList_toldP {T : TypeId} (hi : (Tryz.prog.info? T).map (·.size) = some 16) (hgd : o.guard = none) (x y : Operand) (ho : o.op = .store T x y) {r : Nat → Value} {D : St} {A : Nat → Prop} (hz : TrZ A w r D) (hx : a.eval x = .pointer (some ⟨w.heap.size, 0, none⟩)) (hy : a.eval y = .agg (trC r D))
    (h : ∀ w', TrB w' w.heap.size r D T → Below w.heap.size w w' → wpList Tryz.prog ops Q rest (a.put o.dst undef) w') : wpList Tryz.prog ops Q (o :: rest) a (w.alloc (.cells zeroTrP T (0, 0))) := by
  refine wpList_storeB hgd T x y ho w.heap.size (trC r D) zeroTrP T hx hy Blk.new hi (by rfl) hz.one ?_
  intro w4 kL oL zL
  exact h w4 kL ((below_new _ _).trans (oL.below (by simp) (fun k hk => by omega)))
/-- An event is stored into a new block. -/
theorem wpList_toldE (hgd : o.guard = none) (x y : Operand) (ho : o.op = .store 52 x y) (e : Ev) (hx : a.eval x = .pointer (some ⟨w.heap.size, 0, none⟩)) (hy : a.eval y = .agg e.cells.toArray)
    (h : ∀ w', Blk w' w.heap.size e.cells.toArray 52 → Below w.heap.size w w' → wpList Tryz.prog ops Q rest (a.put o.dst undef) w') : wpList Tryz.prog ops Q (o :: rest) a (w.alloc (.cells #[.int .i64 0, .int .i64 0, .int .i64 0, .int .i64 0, .bool false, .bool false, .bool false] 52 (0, 0))) := by
  refine wpList_storeB hgd 52 x y ho w.heap.size e.cells.toArray _ 52 hx hy Blk.new (by kernel_rfl) (by rfl) (by simp [Value.oneCell', Ev.cells]) ?_
  intro w4 kL oL zL
  exact h w4 kL ((below_new _ _).trans (oL.below (by simp) (fun k hk => by omega)))
end
end Go.Proofs.YtcalinfdckklfaaGreatDoor

namespace Go.Proofs.YtcalinfdckklfaaGreatDoor
open Go.RowKit

/-- What an append of one thing has done: it lies in the row, or the row is a new one. -/
def Pushed (w w' : World) (v v' : Value) (n : Nat) : Prop :=
  (∃ g cap, v = .slice (some ⟨g, 0, none⟩) n cap ∧ v' = .slice (some ⟨g, 0, none⟩) (n + 1) cap) ∨ (v'.ownBlock = some w.heap.size ∧ w.grownBy w' none)

section
variable {P : Program} {w : World}
theorem run_pushK (t ty e : TypeId) (i : TypeInfo) (z : Value) (bytes : Nat) (ht : P.underlying t = some (.slice e)) (hi : P.info? e = some i) (hz : i.zero = some z) (hsize : i.size = 1) (hby : i.bytes = bytes) (hzs : z.cells.size = 1)
    (base : Nat) (v : Value) (n : Nat) (xs : List Value) (hown : w.ownsRow base e 1 v n xs) (g0 c : Nat) (x : Value) (hx : w.cell? ⟨g0, 0, none⟩ = some x) (h1 : x.oneCell' = true) (hn : n ≤ 1000000) (hb : bytes ≤ 1000000) (hbase : base ≤ w.heap.size) :
    ∃ v' w', (Builtin.append_ #[t, t] ty #[v, .slice (some ⟨g0, 0, none⟩) 1 c]).run P w = .ok v' w' ∧ w'.ownsRow base e 1 v' (n + 1) (xs ++ [x]) ∧ w.grownBy w' v.ownBlock ∧ Pushed w w' v v' n := by
  have hl : [x].length = 1 * 1 := rfl
  have hnews : ∀ j u, [x][j]? = some u → w.cell? ((⟨g0, 0, none⟩ : Addr).add j) = some u := fun j u hu => by
    match j, hu with
    | 0, hu => simp at hu; subst hu; simpa [Addr.add] using hx
    | j + 1, hu => simp at hu
  have h1' : ∀ u ∈ [x], u.oneCell' = true := fun u hu => by rw [List.mem_singleton.1 hu]; exact h1
  have h63 : n + 1 ≤ maxLen := by unfold maxLen; omega
  have hbb : (n + 1) * bytes ≤ 140737488355328 := Nat.le_trans (Nat.mul_le_mul (show n + 1 ≤ 1000001 by omega) hb) (by decide)
  obtain ⟨v', w', hr, h4, h5, h6, h7⟩ := run_append_own_at (P := P) w base t ty e i z 1 bytes ht hi hz hsize hby hzs (by decide) v n xs hown ⟨g0, 0, none⟩ 1 c [x] hl hnews h1' h63 hbb hbase
  refine ⟨v', w', hr, h4, h5, ?_⟩
  have hlt := hown.lt
  rcases hown.2 with ⟨rfl, rfl⟩ | ⟨g, cap, cur, rfl, hbg, hg, hnc, hcm, hcs, htake⟩
  · refine .inr ⟨?_, h5⟩
    rcases h7 with h7 | h7
    · rcases h4.2 with ⟨_, h0⟩ | ⟨g, cap, cur, rfl, _⟩
      · simp at h0
      · cases h7
    · exact h7
  · by_cases hroom : n + 1 ≤ cap
    · have hfit : n * i.size + [x].length ≤ cur.size := by rw [hcs, hsize]; simp; omega
      have hr2 := run_append_room (P := P) w t ty e i ht hi g n cap cur hg ⟨g0, 0, none⟩ 1 c [x] (by rw [hsize]; rfl) hnews h1' hroom hfit
      rw [hr] at hr2
      injection hr2 with e1 e2
      exact .inl ⟨g, cap, rfl, e1⟩
    · have holds : ∀ j u, xs[j]? = some u → w.cell? ((⟨g, 0, none⟩ : Addr).add j) = some u := hown.cells (g := g) rfl
      obtain ⟨v2, w2, hr2, k1, k2⟩ := run_append_arg_grows (P := P) w t ty e i z 1 bytes ht hi hz hsize hby hzs (by decide) ⟨g, 0, none⟩ n cap xs hown.1 holds ⟨g0, 0, none⟩ 1 c [x] hl hnews (by omega) h63 hbb
      rw [hr] at hr2
      injection hr2 with e1 e2
      subst e1 e2
      refine .inr ⟨?_, k2⟩
      rcases h7 with h7 | h7
      · have a1 := (k1.lt g h7).1
        have a2 := (hlt g rfl).2
        omega
      · exact h7

/-- At an operation of a region. -/
theorem wpList_pushK {ops : Array Oper} {rest : List Oper} {o : Oper} {a : Act} {Q : Exit → Act → World → Prop} (hgd : o.guard = none) (s y : Operand) (t e : TypeId) (i : TypeInfo) (z : Value) (bytes : Nat)
    (ho : o.op = .call { callee := .builtin .append, args := #[s, y], argTypes := #[t, t] })
    (ht : P.underlying t = some (.slice e)) (hi : P.info? e = some i) (hz : i.zero = some z) (hsize : i.size = 1) (hby : i.bytes = bytes) (hzs : z.cells.size = 1)
    (base : Nat) (v : Value) (n : Nat) (xs : List Value) (g0 c : Nat) (x : Value) (hs : a.eval s = v) (hy : a.eval y = .slice (some ⟨g0, 0, none⟩) 1 c) (hown : w.ownsRow base e 1 v n xs) (hx : w.cell? ⟨g0, 0, none⟩ = some x) (h1 : x.oneCell' = true) (hn : n ≤ 1000000) (hb : bytes ≤ 1000000) (hbase : base ≤ w.heap.size)
    (h : ∀ v' w', w'.ownsRow base e 1 v' (n + 1) (xs ++ [x]) → w.grownBy w' v.ownBlock → Pushed w w' v v' n → wpList P ops Q rest (a.put o.dst v') w') : wpList P ops Q (o :: rest) a w := by
  refine wpList_plain hgd fun K hK => ?_
  obtain ⟨v', w', hr, h2, h3, h4⟩ := run_pushK (P := P) t o.type e i z bytes ht hi hz hsize hby hzs base v n xs hown g0 c x hx h1 hn hb hbase
  unfold Oper.wp execOp
  simp only [ho, resolve, invoke, builtin, Sem.run_bind, Sem.run_pure, Result.andThen_ok, List.map_toArray, List.map_cons, List.map_nil, hs, hy, hr]
  exact hK _ _ (h v' w' h2 h3 h4)
end

/-- The row that it was, behind what was done with the longer one. -/
theorem Pushed.back {w w1 w2 : World} {base : Nat} {e : TypeId} {v v' : Value} {n : Nat} {xs : List Value} {x : Value} {A : Nat → Prop} (h : Pushed w w1 v v' n) (h0 : w.ownsRow base e 1 v n xs) (h1 : w2.ownsRow base e 1 v' (n + 1) (xs ++ [x])) (ho : Only A w1 w2)
    (hA : v'.ownBlock = some w.heap.size → ∀ b, v.ownBlock = some b → ¬ A b) : w2.ownsRow base e 1 v n xs := by
  rcases h with ⟨g, cap, rfl, rfl⟩ | ⟨h2, h3⟩
  · exact ownsRow_pop (by have := h0.1; exact this) h1
  · have k : w1.ownsRow base e 1 v n xs := h0.kept h3 (by cases hv : v.ownBlock with | none => exact .inl rfl | some k => exact .inr (by simp))
    exact ownsRow_only k ho (hA h2)
theorem Pushed.own {w w1 : World} {v v' : Value} {n : Nat} (h : Pushed w w1 v v' n) : v'.ownBlock = v.ownBlock ∨ v'.ownBlock = some w.heap.size := by
  rcases h with ⟨g, cap, rfl, rfl⟩ | ⟨h2, h3⟩
  · exact .inl rfl
  · exact .inr h2
/-- Rows of numbers, and of bools, as lists. -/
theorem row_ints {w : World} {base : Nat} {e : TypeId} {v : Value} {l : List Int} (h : w.ownsRow base e 1 v l.length (l.map (Value.int .i64))) : Own F0 IntE w base e v l :=
  ⟨l.map fun x => [.int .i64 x], by
    have e1 : (l.map fun x => [Value.int .i64 x]).flatten = l.map (Value.int .i64) := by
      clear h
      induction l with
      | nil => rfl
      | cons x l ih => simp [ih]
    rw [e1]; exact h, by simp, fun i h h' => by
    show _ = [Value.int .i64 l[i]]
    simp⟩
theorem row_bools {w : World} {base : Nat} {e : TypeId} {v : Value} {l : List Bool} (h : w.ownsRow base e 1 v l.length (l.map Value.bool)) : Own F0 BoolE w base e v l :=
  ⟨l.map fun x => [.bool x], by
    have e1 : (l.map fun x => [Value.bool x]).flatten = l.map Value.bool := by
      clear h
      induction l with
      | nil => rfl
      | cons x l ih => simp [ih]
    rw [e1]; exact h, by simp, fun i h h' => by
    show _ = [Value.bool l[i]]
    simp⟩
end Go.Proofs.YtcalinfdckklfaaGreatDoor

namespace Go.Proofs.YtcalinfdckklfaaGreatDoor
open Go.RowKit

/-- What may be written: the list's variable, its row, and the rows of the guesses. -/
def hotG (bl : Nat) (lv gv kv : Value) (x : Nat) : Prop := x = bl ∨ lv.ownBlock = some x ∨ gv.ownBlock = some x ∨ kv.ownBlock = some x
structure GaInv (te ti tb tl : TypeId) (base bl : Nat) (C : Nat → Prop) (W : World) (D : Nat → Prop) (lv : Value) (acc : List St) (gv : Value) (v : List Int) (kv : Value) (b : List Bool) : Prop where
  blk : Blk W bl #[lv] tl
  own : Own D TrE W base te lv acc
  og : W.ownsRow base ti 1 gv v.length (v.map (Value.int .i64))
  ob : W.ownsRow base tb 1 kv b.length (b.map Value.bool)
  bs : base ≤ W.heap.size
  clt : ∀ x, C x → x < W.heap.size
  dlt : ∀ x, D x → x < W.heap.size
  cold : ∀ x, C x → ¬ hotG bl lv gv kv x
  dcold : ∀ x, D x → ¬ hotG bl lv gv kv x
  n1 : lv.ownBlock ≠ some bl
  n2 : gv.ownBlock ≠ some bl
  n3 : kv.ownBlock ≠ some bl
  n4 : ∀ x, lv.ownBlock = some x → gv.ownBlock ≠ some x
  n5 : ∀ x, lv.ownBlock = some x → kv.ownBlock ≠ some x
  n6 : ∀ x, gv.ownBlock = some x → kv.ownBlock ≠ some x
structure GaRun (te ti tb tl : TypeId) (base bl : Nat) (W : World) (D : Nat → Prop) (lv gv : Value) (v : List Int) (kv : Value) (b : List Bool) (W' : World) (D' : Nat → Prop) (lv' : Value) (acc' : List St) : Prop where
  only : Only (hotG bl lv gv kv) W W'
  blk : Blk W' bl #[lv'] tl
  own : Own D' TrE W' base te lv' acc'
  og : W'.ownsRow base ti 1 gv v.length (v.map (Value.int .i64))
  ob : W'.ownsRow base tb 1 kv b.length (b.map Value.bool)
  vsub : ∀ x, lv'.ownBlock = some x → lv.ownBlock = some x ∨ W.heap.size ≤ x
  dsub : ∀ x, D' x → D x ∨ W.heap.size ≤ x
  dlt : ∀ x, D' x → x < W'.heap.size
  dnot : ∀ x, D' x → lv'.ownBlock ≠ some x
theorem Own.monoD {α : Type} {R : Elem α} {A B : Nat → Prop} {w : World} {base : Nat} {e : TypeId} {v : Value} {xs : List α} (hAB : ∀ b, A b → B b) (h : Own A R w base e v xs) : Own B R w base e v xs := by
  obtain ⟨cc, h1, h2, h3⟩ := h
  exact ⟨cc, h1, h2, fun i hi hi' => R.mono (fun b hb => ⟨hAB b hb.1, hb.2⟩) (h3 i hi hi')⟩
section
variable {te ti tb tl : TypeId} {base bl : Nat} {C D D' D'' : Nat → Prop} {W W' W'' W1 W2 : World} {lv lv' lv'' gv gv1 kv kv1 : Value} {acc acc' acc'' : List St} {v : List Int} {b : List Bool}
theorem GaInv.hlt (h : GaInv te ti tb tl base bl C W D lv acc gv v kv b) : ∀ x, hotG bl lv gv kv x → x < W.heap.size := by
  rintro x (rfl | hx | hx | hx)
  · exact Blk.lt h.blk
  · exact (h.own.lt x hx).2
  · exact (h.og.lt x hx).2
  · exact (h.ob.lt x hx).2
theorem GaInv.refl (h : GaInv te ti tb tl base bl C W D lv acc gv v kv b) : GaRun te ti tb tl base bl W D lv gv v kv b W D lv acc :=
  ⟨Only.refl, h.blk, h.own, h.og, h.ob, fun _ hx => .inl hx, fun _ hx => .inl hx, h.dlt, fun x hx e => h.dcold x hx (.inr (.inl e))⟩
theorem GaInv.run (h : GaInv te ti tb tl base bl C W D lv acc gv v kv b) (k : GaRun te ti tb tl base bl W D lv gv v kv b W' D' lv' acc') : GaInv te ti tb tl base bl C W' D' lv' acc' gv v kv b := by
  have hs := k.only.size
  have hbl := Blk.lt h.blk
  have hg := fun x e => (h.og.lt x e).2
  have hk := fun x e => (h.ob.lt x e).2
  refine ⟨k.blk, k.own, k.og, k.ob, Nat.le_trans h.bs hs, fun x hx => Nat.lt_of_lt_of_le (h.clt x hx) hs, k.dlt, fun x hx => ?_, fun x hx => ?_, fun e => ?_, h.n2, h.n3, fun x e1 e2 => ?_, fun x e1 e2 => ?_, h.n6⟩
  · have hc := h.cold x hx
    have hl := h.clt x hx
    rintro (e | e | e | e)
    · exact hc (.inl e)
    · rcases k.vsub x e with e | e
      · exact hc (.inr (.inl e))
      · omega
    · exact hc (.inr (.inr (.inl e)))
    · exact hc (.inr (.inr (.inr e)))
  · rintro (e | e | e | e)
    · rcases k.dsub x hx with d | d
      · exact h.dcold x d (.inl e)
      · omega
    · exact k.dnot x hx e
    · rcases k.dsub x hx with d | d
      · exact h.dcold x d (.inr (.inr (.inl e)))
      · have := hg x e; omega
    · rcases k.dsub x hx with d | d
      · exact h.dcold x d (.inr (.inr (.inr e)))
      · have := hk x e; omega
  · rcases k.vsub _ e with e | e
    · exact h.n1 e
    · omega
  · rcases k.vsub _ e1 with e | e
    · exact h.n4 x e e2
    · have := hg x e2; omega
  · rcases k.vsub _ e1 with e | e
    · exact h.n5 x e e2
    · have := hk x e2; omega
theorem GaRun.trans (h : GaRun te ti tb tl base bl W D lv gv v kv b W' D' lv' acc') (k : GaRun te ti tb tl base bl W' D' lv' gv v kv b W'' D'' lv'' acc'') : GaRun te ti tb tl base bl W D lv gv v kv b W'' D'' lv'' acc'' := by
  have hs := h.only.size
  refine ⟨h.only.trans k.only fun x hx => ?_, k.blk, k.own, k.og, k.ob, fun x hx => ?_, fun x hx => ?_, k.dlt, k.dnot⟩
  · rcases hx with e | e | e | e
    · exact .inl (.inl e)
    · rcases h.vsub x e with e | e
      · exact .inl (.inr (.inl e))
      · exact .inr e
    · exact .inl (.inr (.inr (.inl e)))
    · exact .inl (.inr (.inr (.inr e)))
  · rcases k.vsub x hx with e | e
    · exact h.vsub x e
    · exact .inr (by omega)
  · rcases k.dsub x hx with e | e
    · exact h.dsub x e
    · exact .inr (by omega)
/-- New memory, in which rows of traces may lie. -/
theorem GaInv.growD (h : GaInv te ti tb tl base bl C W D lv acc gv v kv b) (hb : Below W.heap.size W W') : GaRun te ti tb tl base bl W D lv gv v kv b W' (fun x => D x ∨ (W.heap.size ≤ x ∧ x < W'.heap.size)) lv acc := by
  have hs := hb.size
  refine ⟨Below.only hb, h.blk.keep hb, (h.own.keep hb).monoD fun x hx => .inl hx, h.og.kept (Below.grownBy hb) (by cases gv.ownBlock <;> simp), h.ob.kept (Below.grownBy hb) (by cases kv.ownBlock <;> simp), fun x hx => .inl hx, fun x hx => hx.imp id And.left, fun x hx => ?_, fun x hx e => ?_⟩
  · rcases hx with hx | hx
    · exact Nat.lt_of_lt_of_le (h.dlt x hx) hs
    · exact hx.2
  · rcases hx with hx | hx
    · exact h.dcold x hx (.inr (.inl e))
    · have := (h.own.lt x e).2; omega
/-- Another list, in new memory or where the old one was. -/
theorem GaInv.step (h : GaInv te ti tb tl base bl C W D lv acc gv v kv b) (hg : W.grownBy W2 lv.ownBlock) (ho : Own D TrE W2 base te lv' acc') (hv : lv'.ownBlock = lv.ownBlock ∨ lv'.ownBlock = some W.heap.size) :
    GaRun te ti tb tl base bl W D lv gv v kv b (W2.setCell ⟨bl, 0, none⟩ lv') D lv' acc' := by
  have hs2 := hg.size
  have hbb := Blk.lt h.blk
  have hset := grownBy_set W2 ⟨bl, 0, none⟩ lv'
  have hs3 := hset.size
  have hne : ∀ x, lv'.ownBlock = some x → lv.ownBlock = some x ∨ W.heap.size ≤ x := fun x e => by
    rcases hv with h1 | h1
    · exact .inl (h1 ▸ e)
    · rw [h1] at e; injection e with e; exact .inr (by omega)
  have hbn : ∀ x, lv'.ownBlock = some x → x ≠ bl := fun x e he => by
    subst he
    rcases hne _ e with h1 | h1
    · exact h.n1 h1
    · omega
  have hgk : ∀ x, gv.ownBlock = some x → x ≠ bl := fun x e he => by subst he; exact h.n2 e
  have hkk : ∀ x, kv.ownBlock = some x → x ≠ bl := fun x e he => by subst he; exact h.n3 e
  have only1 : Only (hotG bl lv gv kv) W W2 := grownBy_only hg (fun k e => .inr (.inl e))
  have only2 : Only (hotG bl lv gv kv) W2 (W2.setCell ⟨bl, 0, none⟩ lv') := grownBy_only hset (fun k e => by cases e; exact .inl rfl)
  have kg : W2.ownsRow base ti 1 gv v.length (v.map (Value.int .i64)) := h.og.kept hg (by
    cases hx : gv.ownBlock with
    | none => exact .inl rfl
    | some x => exact .inr fun e => h.n4 x e.symm hx)
  have kb : W2.ownsRow base tb 1 kv b.length (b.map Value.bool) := h.ob.kept hg (by
    cases hx : kv.ownBlock with
    | none => exact .inl rfl
    | some x => exact .inr fun e => h.n5 x e.symm hx)
  refine ⟨only1.trans only2 fun x hx => .inl hx, ?_, ?_, ?_, ?_, hne, fun x hx => .inl hx, fun x hx => by have := h.dlt x hx; omega, fun x hx e => ?_⟩
  · have h1 : Blk W2 bl #[lv] tl := h.blk.grown hg fun e => h.n1 e.symm
    have h2 := Blk.set (i := 0) h1 lv'
    simpa using h2
  · exact ho.agree hset fun k hk => by
      cases hk
      exact ⟨fun d => h.dcold bl d (.inl rfl), fun e => hbn bl e rfl⟩
  · exact kg.kept hset (by
      cases hx : gv.ownBlock with
      | none => exact .inl rfl
      | some x => exact .inr fun e => hgk x hx (by simpa using e))
  · exact kb.kept hset (by
      cases hx : kv.ownBlock with
      | none => exact .inl rfl
      | some x => exact .inr fun e => hkk x hx (by simpa using e))
  · rcases hne x e with h1 | h1
    · exact h.dcold x hx (.inr (.inl h1))
    · have := h.dlt x hx; omega
/-- A guess more. -/
theorem GaInv.pushG (h : GaInv te ti tb tl base bl C W D lv acc gv v kv b) (hg : W.grownBy W1 gv.ownBlock) {x : Int} (og1 : W1.ownsRow base ti 1 gv1 (v.length + 1) (v.map (Value.int .i64) ++ [Value.int .i64 x])) (hp : Pushed W W1 gv gv1 v.length) :
    GaInv te ti tb tl base bl C W1 D lv acc gv1 (v ++ [x]) kv b := by
  have hs := hg.size
  have hd := h.dcold
  have hgl := fun x e => (h.og.lt x e).2
  have hne : ∀ y, gv1.ownBlock = some y → gv.ownBlock = some y ∨ W.heap.size ≤ y := fun y e => by
    rcases hp.own with h1 | h1
    · exact .inl (h1 ▸ e)
    · rw [h1] at e; injection e with e; exact .inr (by omega)
  have hbb := Blk.lt h.blk
  have hll := fun x e => (h.own.lt x e).2
  have hol := fun x e => (h.ob.lt x e).2
  have kv' : W1.ownsRow base tb 1 kv b.length (b.map Value.bool) := h.ob.kept hg (by
    cases hx : kv.ownBlock with
    | none => exact .inl rfl
    | some y => exact .inr fun e => h.n6 y e.symm hx)
  have ko : Own D TrE W1 base te lv acc := h.own.agree hg fun y e => ⟨fun d => hd y d (.inr <| .inr <| .inl e), fun e2 => h.n4 y e2 e⟩
  refine ⟨h.blk.grown hg fun e => h.n2 e.symm, ko, by rw [List.length_append, List.map_append]; exact og1, kv', Nat.le_trans h.bs hs, fun x hx => Nat.lt_of_lt_of_le (h.clt x hx) hs, fun x hx => Nat.lt_of_lt_of_le (h.dlt x hx) hs, fun y hy => ?_, fun y hy => ?_, h.n1, fun e => ?_, h.n3, fun y e1 e2 => ?_, h.n5, fun y e1 e2 => ?_⟩
  · have hc := h.cold y hy
    have hl := h.clt y hy
    rintro (e | e | e | e)
    · exact hc (.inl e)
    · exact hc (.inr (.inl e))
    · rcases hne y e with e | e
      · exact hc (.inr (.inr (.inl e)))
      · omega
    · exact hc (.inr (.inr (.inr e)))
  · have hc := h.dcold y hy
    have hl := h.dlt y hy
    rintro (e | e | e | e)
    · exact hc (.inl e)
    · exact hc (.inr (.inl e))
    · rcases hne y e with e | e
      · exact hc (.inr (.inr (.inl e)))
      · omega
    · exact hc (.inr (.inr (.inr e)))
  · rcases hne _ e with e | e
    · exact h.n2 e
    · omega
  · rcases hne _ e2 with e | e
    · exact h.n4 y e1 e
    · have := hll y e1; omega
  · rcases hne _ e1 with e | e
    · exact h.n6 y e e2
    · have := hol y e2; omega
/-- .. and what was done with it. -/
theorem GaInv.popG (h : GaInv te ti tb tl base bl C W D lv acc gv v kv b) (hg : W.grownBy W1 gv.ownBlock) {x : Int} (hp : Pushed W W1 gv gv1 v.length) (k : GaRun te ti tb tl base bl W1 D lv gv1 (v ++ [x]) kv b W2 D' lv' acc') :
    GaRun te ti tb tl base bl W D lv gv v kv b W2 D' lv' acc' := by
  have hs := hg.size
  have hgl := fun x e => (h.og.lt x e).2
  have hne : ∀ y, gv1.ownBlock = some y → gv.ownBlock = some y ∨ W.heap.size ≤ y := fun y e => by
    rcases hp.own with h1 | h1
    · exact .inl (h1 ▸ e)
    · rw [h1] at e; injection e with e; exact .inr (by omega)
  refine ⟨(grownBy_only (A := hotG bl lv gv kv) hg fun y e => .inr <| .inr <| .inl e).trans k.only fun y hy => ?_, k.blk, k.own, ?_, k.ob, fun y hy => ?_, fun y hy => ?_, k.dlt, k.dnot⟩
  · rcases hy with e | e | e | e
    · exact .inl (.inl e)
    · exact .inl (.inr (.inl e))
    · rcases hne y e with e | e
      · exact .inl (.inr (.inr (.inl e)))
      · exact .inr e
    · exact .inl (.inr (.inr (.inr e)))
  · have k1 := k.og
    rw [List.length_append, List.map_append] at k1
    refine hp.back h.og k1 k.only fun e1 y e2 => ?_
    have hl := hgl y e2
    rintro (e | e | e | e)
    · exact h.n2 (e ▸ e2)
    · exact h.n4 y e e2
    · rw [e1] at e; injection e with e; omega
    · exact h.n6 y e2 e
  · rcases k.vsub y hy with e | e
    · exact .inl e
    · exact .inr (by omega)
  · rcases k.dsub y hy with e | e
    · exact .inl e
    · exact .inr (by omega)
/-- A guess more. -/
theorem GaInv.pushK (h : GaInv te ti tb tl base bl C W D lv acc gv v kv b) (hg : W.grownBy W1 kv.ownBlock) {x : Bool} (og1 : W1.ownsRow base tb 1 kv1 (b.length + 1) (b.map Value.bool ++ [Value.bool x])) (hp : Pushed W W1 kv kv1 b.length) :
    GaInv te ti tb tl base bl C W1 D lv acc gv v kv1 (b ++ [x]) := by
  have hs := hg.size
  have hd := h.dcold
  have hgl := fun x e => (h.ob.lt x e).2
  have hne : ∀ y, kv1.ownBlock = some y → kv.ownBlock = some y ∨ W.heap.size ≤ y := fun y e => by
    rcases hp.own with h1 | h1
    · exact .inl (h1 ▸ e)
    · rw [h1] at e; injection e with e; exact .inr (by omega)
  have hbb := Blk.lt h.blk
  have hll := fun x e => (h.own.lt x e).2
  have hol := fun x e => (h.og.lt x e).2
  have kv' : W1.ownsRow base ti 1 gv v.length (v.map (Value.int .i64)) := h.og.kept hg (by
    cases hx : gv.ownBlock with
    | none => exact .inl rfl
    | some y => exact .inr fun e => h.n6 y hx e.symm)
  have ko : Own D TrE W1 base te lv acc := h.own.agree hg fun y e => ⟨fun d => hd y d (.inr <| .inr <| .inr e), fun e2 => h.n5 y e2 e⟩
  refine ⟨h.blk.grown hg fun e => h.n3 e.symm, ko, kv', by rw [List.length_append, List.map_append]; exact og1, Nat.le_trans h.bs hs, fun x hx => Nat.lt_of_lt_of_le (h.clt x hx) hs, fun x hx => Nat.lt_of_lt_of_le (h.dlt x hx) hs, fun y hy => ?_, fun y hy => ?_, h.n1, h.n2, fun e => ?_, h.n4, fun y e1 e2 => ?_, fun y e1 e2 => ?_⟩
  · have hc := h.cold y hy
    have hl := h.clt y hy
    rintro (e | e | e | e)
    · exact hc (.inl e)
    · exact hc (.inr (.inl e))
    · exact hc (.inr (.inr (.inl e)))
    · rcases hne y e with e | e
      · exact hc (.inr (.inr (.inr e)))
      · omega
  · have hc := h.dcold y hy
    have hl := h.dlt y hy
    rintro (e | e | e | e)
    · exact hc (.inl e)
    · exact hc (.inr (.inl e))
    · exact hc (.inr (.inr (.inl e)))
    · rcases hne y e with e | e
      · exact hc (.inr (.inr (.inr e)))
      · omega
  · rcases hne _ e with e | e
    · exact h.n3 e
    · omega
  · rcases hne _ e2 with e | e
    · exact h.n5 y e1 e
    · have := hll y e1; omega
  · rcases hne _ e2 with e | e
    · exact h.n6 y e1 e
    · have := hol y e1; omega
/-- .. and what was done with it. -/
theorem GaInv.popK (h : GaInv te ti tb tl base bl C W D lv acc gv v kv b) (hg : W.grownBy W1 kv.ownBlock) {x : Bool} (hp : Pushed W W1 kv kv1 b.length) (k : GaRun te ti tb tl base bl W1 D lv gv v kv1 (b ++ [x]) W2 D' lv' acc') :
    GaRun te ti tb tl base bl W D lv gv v kv b W2 D' lv' acc' := by
  have hs := hg.size
  have hgl := fun x e => (h.ob.lt x e).2
  have hne : ∀ y, kv1.ownBlock = some y → kv.ownBlock = some y ∨ W.heap.size ≤ y := fun y e => by
    rcases hp.own with h1 | h1
    · exact .inl (h1 ▸ e)
    · rw [h1] at e; injection e with e; exact .inr (by omega)
  refine ⟨(grownBy_only (A := hotG bl lv gv kv) hg fun y e => .inr <| .inr <| .inr e).trans k.only fun y hy => ?_, k.blk, k.own, k.og, ?_, fun y hy => ?_, fun y hy => ?_, k.dlt, k.dnot⟩
  · rcases hy with e | e | e | e
    · exact .inl (.inl e)
    · exact .inl (.inr (.inl e))
    · exact .inl (.inr (.inr (.inl e)))
    · rcases hne y e with e | e
      · exact .inl (.inr (.inr (.inr e)))
      · exact .inr e
  · have k1 := k.ob
    rw [List.length_append, List.map_append] at k1
    refine hp.back h.ob k1 k.only fun e1 y e2 => ?_
    have hl := hgl y e2
    rintro (e | e | e | e)
    · exact h.n3 (e ▸ e2)
    · exact h.n5 y e e2
    · exact h.n6 y e e2
    · rw [e1] at e; injection e with e; omega
  · rcases k.vsub y hy with e | e
    · exact .inl e
    · exact .inr (by omega)
  · rcases k.dsub y hy with e | e
    · exact .inl e
    · exact .inr (by omega)
end
end Go.Proofs.YtcalinfdckklfaaGreatDoor
