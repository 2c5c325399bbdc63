/- RepB, CloneI: what is used of them. -/
import Derived.Test.YtcalinfdckklfaaGreatDoorPk1
import Derived.Test.YtcalinfdckklfaaGreatDoorProg
namespace Go.Proofs.YtcalinfdckklfaaGreatDoor
open Go.RowKit

section
variable {α : Type} {R : Elem α} {A B : Nat → Prop} {P : Program} {w : World} {xs ys : List α}

/-- THE LAW OF append, run. -/
theorem run_appB (t ty e : TypeId) (i : TypeInfo) (z : Value) (bytes : Nat) (ht : P.underlying t = some (.slice e)) (hi : P.info? e = some i) (hz : i.zero = some z) (hsize : i.size = R.size) (hby : i.bytes = bytes) (hzs : z.cells.size = R.size)
    (base : Nat) (v u : Value) (hown : Own A R w base e v xs) (hu : SlA B R w u ys) (hB : ∀ y ∈ ys, ∀ c, R.cs B w y c → R.cs (fun b => A b ∧ some b ≠ v.ownBlock) w y c)
    (h63 : xs.length + ys.length ≤ maxLen) (hbb : (xs.length + ys.length) * bytes ≤ 140737488355328) (hbase : base ≤ w.heap.size) :
    ∃ p cap w', (Builtin.append_ #[t, t] ty #[v, u]).run P w = .ok (.slice p (xs ++ ys).length cap) w' ∧ Own A R w' base e (.slice p (xs ++ ys).length cap) (xs ++ ys) ∧ w.grownBy w' v.ownBlock ∧
      ((Value.slice p (xs ++ ys).length cap).ownBlock = v.ownBlock ∨ (Value.slice p (xs ++ ys).length cap).ownBlock = some w.heap.size) := by
  obtain ⟨pu, cu, dd, rfl, hn, hdl, hd, hdc⟩ := hu.cells
  obtain ⟨cc, h1, h2, h3⟩ := hown
  cases pu with
  | none =>
    obtain ⟨rfl, rfl⟩ := hn rfl
    obtain ⟨p, cap, rfl⟩ := (show Own A R w base e v xs from ⟨cc, h1, h2, h3⟩).len
    refine ⟨p, cap, w, ?_, ?_, ⟨rfl, rfl, rfl, Nat.le_refl _, fun _ _ _ => rfl⟩, .inl (by simp)⟩
    · simp only [List.length_nil, List.append_nil]
      exact run_append_owned_none (P := P) (w := w) base t ty e i R.size ht hi _ _ _ h1
    · simp only [List.append_nil]
      exact ⟨cc, h1, h2, h3⟩
  | some ad =>
    have hl : dd.flatten.length = ys.length * R.size := by
      have hlen := Own.lens hd hdl
      rw [← hdl]
      clear hd hdl hdc hB hu hn h63
      induction dd with
      | nil => simp
      | cons c cc ih => simp only [List.flatten_cons, List.length_append, List.length_cons]; rw [hlen c (by simp), ih (fun c hc => hlen c (by simp [hc])), Nat.add_mul]; omega
    obtain ⟨v', w', hr, h4, h5, _, h7⟩ := run_append_own_at (P := P) w base t ty e i z R.size bytes ht hi hz hsize hby hzs R.pos v xs.length cc.flatten h1 ad ys.length cu dd.flatten hl (hdc ad rfl) (Own.ones hd hdl) h63 hbb hbase
    have hlt := h1.lt
    have h4' : w'.ownsRow base e R.size v' (xs ++ ys).length (cc ++ dd).flatten := by rw [List.length_append, List.flatten_append]; exact h4
    have hown' : Own A R w' base e v' (xs ++ ys) := by
      refine ⟨cc ++ dd, h4', by simp [h2, hdl], fun k hk hk' => ?_⟩
      have hfix : ∀ x c, R.cs (fun b => A b ∧ some b ≠ v.ownBlock) w x c → R.cs (fun b => A b ∧ some b ≠ v'.ownBlock) w' x c := fun x c hx => by
        have a1 := R.keep (R.lt hx) (grownBy_agree h5 fun b hb => hb.1.2)
        refine R.mono (fun b hb => ⟨hb.1.1, ?_⟩) a1
        rcases h7 with h7 | h7
        · rw [h7]; exact hb.1.2
        · rw [h7]; intro e; injection e with e; omega
      by_cases hx : k < xs.length
      · rw [List.getElem_append_left hx, List.getElem_append_left (by omega)]
        exact hfix _ _ (h3 k hx (by omega))
      · rw [List.getElem_append_right (by omega), List.getElem_append_right (by omega)]
        have e : k - cc.length = k - xs.length := by omega
        simp only [e]
        have hy : k - xs.length < ys.length := by simp at hk; omega
        exact hfix _ _ (hB _ (List.getElem_mem hy) _ (hd _ hy (by omega)))
    obtain ⟨p, cap, rfl⟩ := hown'.len
    exact ⟨p, cap, w', hr, hown', h5, h7⟩

/-- At an operation of a region. -/
theorem wpList_appB {ops : Array Oper} {rest : List Oper} {o : Oper} {a : Act} {Q : Exit → Act → World → Prop} (hgd : o.guard = none) (s x : Operand) (t e : TypeId) (i : TypeInfo) (z : Value) (bytes : Nat)
    (ho : o.op = .call { callee := .builtin .append, args := #[s, x], argTypes := #[t, t] })
    (ht : P.underlying t = some (.slice e)) (hi : P.info? e = some i) (hz : i.zero = some z) (hsize : i.size = R.size) (hby : i.bytes = bytes) (hzs : z.cells.size = R.size)
    (base : Nat) (v u : Value) (hs : a.eval s = v) (hx : a.eval x = u) (hown : Own A R w base e v xs) (hu : SlA B R w u ys) (hB : ∀ y ∈ ys, ∀ c, R.cs B w y c → R.cs (fun b => A b ∧ some b ≠ v.ownBlock) w y c)
    (h63 : xs.length + ys.length ≤ maxLen) (hbb : (xs.length + ys.length) * bytes ≤ 140737488355328) (hbase : base ≤ w.heap.size)
    (h : ∀ p cap w', Own A R w' base e (.slice p (xs ++ ys).length cap) (xs ++ ys) → w.grownBy w' v.ownBlock → ((Value.slice p (xs ++ ys).length cap).ownBlock = v.ownBlock ∨ (Value.slice p (xs ++ ys).length cap).ownBlock = some w.heap.size) → wpList P ops Q rest (a.put o.dst (.slice p (xs ++ ys).length cap)) w') : wpList P ops Q (o :: rest) a w := by
  refine wpList_plain hgd fun K hK => ?_
  obtain ⟨p, cap, w', hr, h2, h3, h4⟩ := run_appB (P := P) t o.type e i z bytes ht hi hz hsize hby hzs base v u hown hu hB h63 hbb hbase
  unfold Oper.wp execOp
  simp only [ho, resolve, invoke, builtin, Sem.run_bind, Sem.run_pure, Result.andThen_ok, List.map_toArray, List.map_cons, List.map_nil, hs, hx, hr]
  exact hK _ _ (h p cap w' h2 h3 h4)
end
end Go.Proofs.YtcalinfdckklfaaGreatDoor
namespace Go.Proofs.YtcalinfdckklfaaGreatDoor
open Go.RowKit

theorem cl_get {P : Program} {t : TypeId} {a b c : Nat} (h : ((P.info? t).map fun i => (i.zero.map (·.cells.size), i.size, i.bytes)) = some (some a, b, c)) : ∃ i z, P.info? t = some i ∧ i.zero = some z ∧ z.cells.size = a ∧ i.size = b ∧ i.bytes = c := by
  cases hi : P.info? t with
  | none => rw [hi] at h; simp at h
  | some i =>
    rw [hi] at h
    simp only [Option.map_some, Option.some.injEq, Prod.mk.injEq] at h
    obtain ⟨h1, h2, h3⟩ := h
    cases hz : i.zero with
    | none => rw [hz] at h1; simp at h1
    | some z => rw [hz] at h1; simp at h1; exact ⟨i, z, rfl, hz, h1, h2, h3⟩
theorem own_new {α : Type} {A : Nat → Prop} {R : Elem α} {w : World} {base g : Nat} {e : TypeId} (hb : base ≤ g) (h : Blk w g #[] e) : Own A R w base e (.slice (some ⟨g, 0, none⟩) 0 0) [] :=
  ⟨[], ⟨by simp, .inr ⟨g, 0, #[], rfl, hb, h, Nat.le_refl _, by unfold maxLen; omega, by simp, by simp⟩⟩, rfl, fun i h => by simp at h⟩
theorem info_i64cl : ((Tryz.prog.info? 2).map fun i => (i.zero.map (·.cells.size), i.size, i.bytes)) = some (some 1, 1, 8) := by kernel_rfl
theorem eqlNums (w : World) (a : Option Addr) (l c : Nat) : (binOp .eql 60 (.slice a l c) (.slice none 0 0)).run Tryz.prog w = .ok (.bool a.isNone) w := eql_slice_nil w _ _ a l c Tryz.underlying60
attribute [local go_sem] eqlNums

theorem nil_of {α : Type} {A : Nat → Prop} {R : Elem α} {w : World} {n c : Nat} {xs : List α} (h : SlA A R w (.slice none n c) xs) : xs = [] := by
  obtain ⟨p, cap, e, _, h⟩ := h
  simp only [Value.slice.injEq] at e
  obtain ⟨rfl, _, _⟩ := e
  by_cases hx : xs = []
  · exact hx
  · obtain ⟨b, o, e, _⟩ := h hx
    cases e

set_option maxHeartbeats 1000000 in
theorem cloneI_any (p : Option Addr) (c : Nat) (xs : List Int) (w : World) (hx : Sl IntE w (.slice p xs.length c) xs) (hz : xs.length * 8 ≤ 140737488355328) :
    Calls Tryz.prog 53 #[.slice p xs.length c] w fun e w' => ∃ v, e = .returned v ∧ SlA (fun b => w.heap.size ≤ b) IntE w' v xs ∧ Below w.heap.size w w' := by
  obtain ⟨i0, z0, j1, j2, j3, j4, j5⟩ := cl_get info_i64cl
  have J1 : Hid _ := j1
  have J2 : Hid _ := j2
  have J3 : Hid _ := j3
  have J4 : Hid _ := j4
  have J5 : Hid _ := j5
  clear j1 j2 j3 j4 j5
  cases p with
  | none =>
    have e := nil_of hx
    subst e
    clear hx
    go_enter Tryz.func53, Tryz.ntmps53
    go_wp2
    go_ret
    exact ⟨_, rfl, SlA.nil, Below.refl _ _⟩
  | some ad =>
    go_enter Tryz.func53, Tryz.ntmps53
    have hb := (Below.refl w.heap.size w).alloc (Nat.le_refl _) (.cells #[] 2)
    have hk : Blk (w.alloc (.cells #[] 2)) w.heap.size #[] 2 := Blk.new
    have hx1 := hx.keep hb
    go_wp2_with (at_builtin; refine wpList_appB (R := IntE) (A := fun _ => False) (B := fun _ => True) (xs := []) (ys := xs) (by rfl) (.tmp 5) (.tmp 6) 60 2 i0 z0 8 (by rfl) Tryz.underlying60 J1.out J2.out J4.out J5.out J3.out w.heap.size (.slice (some ⟨w.heap.size, 0, none⟩) 0 0) (.slice (some ad) xs.length c) (by rfl) (by rfl) (own_new (Nat.le_refl _) hk) hx1 (fun _ _ _ h => h) (by simp only [List.length_nil]; unfold maxLen; omega) (by simpa using hz) (by simp) ?_; intro p6 c6 w6 hO6 hg6 _; simp only [List.nil_append] at hO6 ⊢)
    go_ret
    exact ⟨_, rfl, SlA.mono (fun b hb => hb.elim id False.elim) hO6.sl, hb.grown hg6 (by simp) (fun k hk => by simp [Value.ownBlock] at hk; omega)⟩

end Go.Proofs.YtcalinfdckklfaaGreatDoor
