/- The document's Run: its loop's body, and what holds ahead of each round. -/
import Derived.Test.YtcalinfdckklfaaGreatDoorPk31
import Derived.Test.YtcalinfdckklfaaGreatDoorPk32
import Derived.Test.YtcalinfdckklfaaGreatDoorPk21
import Derived.Deep.MidRow
namespace Go.Proofs.YtcalinfdckklfaaGreatDoor
open Go.RowKit

def firstLoop : Code → Option Code
  | .loop c => some c
  | .seq a b => match firstLoop a with
    | some c => some c
    | none => firstLoop b
  | .block _ c => firstLoop c
  | .scope c => firstLoop c
  | .cond _ a b => match firstLoop a with
    | some c => some c
    | none => firstLoop b
  | _ => none
noncomputable def rbody : Code := ((Tryz.f87.body.bind firstLoop).getD .skip)

/-- What the round reads of its arguments. -/
structure REnv (p pv pl : Option Addr) (c0 cv cl : Nat) (th : List Ins) (locs : Int) (vals : List Int) (lucks : List Bool) (w : World) : Prop where
  ht : Sl InsE w (.slice p th.length c0) th
  hv : Sl IntE w (.slice pv vals.length cv) vals
  hl : Sl BoolE w (.slice pl lucks.length cl) lucks
  nv : vals.length ≤ 1000000
  nl : lucks.length ≤ 1000000
  l1 : 1 ≤ locs
  l3 : locs ≤ 3
  h8 : th.length ≤ 8
  ok : ∀ k x, th[k]? = some x → InsOk locs (th.length - 1 - k) x
/-- Where the rows lie: in no block that the call writes into. -/
def Aside2 (n b : Nat) : Prop := b ≠ n ∧ b ≠ n + 1 ∧ n ≤ b
structure RRel (th : List Ins) (locs : Int) (vals : List Int) (lucks : List Bool) (w : World) (R : St) (s : St) (r : Nat → Value) (n : Nat) (wr : World) : Prop where
  kt : TrB wr (w.heap.size + 1) r s 34
  kz : TrB wr w.heap.size (fun _ => .slice none 0 0) .zero 34
  tr : TrA (Aside2 w.heap.size) wr r s
  ok : StOk th.length vals lucks s
  more : s.more = 0
  dep : DepOk s.d
  fuel : th.length ≤ s.next + n
  run : St.run th locs vals lucks n s = R
  B : Below w.heap.size w wr
set_option maxRecDepth 1000000 in
def rfrm (p pv pl : Option Addr) (c0 cv cl : Nat) (th : List Ins) (locs : Int) (vals : List Int) (lucks : List Bool) (w : World) (k f : Nat → Value) (s : St) : Array Value := #[.slice p th.length c0, .int .i64 locs, .slice pv vals.length cv, .slice pl lucks.length cl, k 4, k 5, k 6, k 7, .pointer (some ⟨w.heap.size, 0, none⟩), .pointer (some ⟨w.heap.size + 1, 0, none⟩), .int .u32 s.ctrl, .int .i64 s.opn, .int .i64 (s.next : Nat), f 13, f 14, f 15, f 16, f 17, f 18, f 19, f 20, f 21, f 22, f 23, k 24, k 25, k 26, k 27, k 28, k 29, f 30, f 31, f 32, f 33, f 34, f 35, f 36, f 37, f 38, f 39, f 40, f 41, f 42, f 43, f 44, f 45, f 46, f 47, f 48, f 49, f 50, f 51, f 52, f 53, f 54, f 55, f 56, f 57, f 58, f 59, f 60, f 61, f 62, f 63, f 64, f 65, f 66, f 67, f 68, f 69, f 70, f 71, f 72, f 73, f 74, f 75, f 76, f 77, f 78, f 79, f 80, f 81, f 82, f 83, f 84, f 85, f 86, f 87, f 88, f 89, f 90, f 91, f 92, f 93, f 94, f 95, f 96, f 97, f 98, f 99, f 100, f 101, f 102, f 103, f 104, f 105, f 106, f 107, f 108, f 109, f 110, f 111, f 112, f 113, f 114, f 115, f 116, f 117, f 118, f 119, f 120, f 121, f 122, f 123, f 124, f 125, f 126, f 127, f 128, f 129, f 130, f 131, f 132, f 133, f 134, f 135, f 136, f 137, f 138, f 139, f 140, f 141, f 142, f 143, f 144, f 145, f 146, f 147, f 148, f 149, f 150, f 151, f 152, f 153, f 154, f 155, f 156, f 157, f 158, f 159, f 160, f 161, f 162, f 163, f 164, f 165, f 166, f 167, f 168, f 169, f 170, f 171, f 172, f 173, f 174, f 175, f 176, f 177, f 178, f 179, f 180, f 181, f 182, f 183, f 184, f 185, f 186, f 187, f 188, f 189, f 190, f 191, f 192, f 193, f 194, f 195, f 196, f 197, f 198, f 199, f 200, f 201, f 202, f 203, f 204, f 205, f 206, f 207, f 208, f 209, f 210, f 211, f 212, f 213, f 214, f 215, f 216, f 217, f 218, f 219, f 220, f 221, f 222, f 223, f 224, f 225, f 226, f 227, f 228, f 229, f 230, f 231, f 232, f 233, f 234, f 235, f 236, f 237, f 238, f 239, f 240, f 241, f 242, f 243, f 244, k 245]
def RWI (p pv pl : Option Addr) (c0 cv cl : Nat) (th : List Ins) (locs : Int) (vals : List Int) (lucks : List Bool) (w : World) (R : St) (k : Nat → Value) (a : Act) (wr : World) : Prop := ∃ s r n f, RRel th locs vals lucks w R s r n wr ∧ a = ⟨rfrm p pv pl c0 cv cl th locs vals lucks w k f s, []⟩
def rmu (th : List Ins) (a : Act) (_ : World) : Nat := th.length - (intOf (a.tmps.getD 12 undef)).toNat
/-- Behind a return: the result lies in its block. -/
def RWR (w : World) (R : St) (a : Act) (wr : World) : Prop := a.tmps[8]? = some (.pointer (some ⟨w.heap.size, 0, none⟩)) ∧ a.defers = [] ∧ ∃ r, TrB wr w.heap.size r R 34 ∧ TrA (fun b => w.heap.size ≤ b) wr r R ∧ Below w.heap.size w wr
theorem rwi_of {p pv pl : Option Addr} {c0 cv cl : Nat} {th : List Ins} {locs : Int} {vals : List Int} {lucks : List Bool} {w : World} {R : St} {k : Nat → Value} {t : Array Value} {wr : World} (s : St) (r : Nat → Value) (n : Nat) (h : RRel th locs vals lucks w R s r n wr) (ht : t = rfrm p pv pl c0 cv cl th locs vals lucks w k (fun i => t.getD i undef) s) : RWI p pv pl c0 cv cl th locs vals lucks w R k ⟨t, []⟩ wr :=
  ⟨s, r, n, _, h, by rw [← ht]⟩
theorem TrB.putR {w : World} {b : Nat} {r : Nat → Value} {s : St} {t : TypeId} (h : TrB w b r s t) (v d : Nat → Int) : TrB (putR w b v d) b r { s with v := v, d := d } t := by
  have k := Blk.set (i := 12) (Blk.set (i := 11) (Blk.set (i := 10) (Blk.set (i := 9) (Blk.set (i := 8) (Blk.set (i := 7) (Blk.set (i := 6) (Blk.set (i := 5) h (.int .i64 (v 0))) (.int .i64 (v 1))) (.int .i64 (v 2))) (.int .i64 (v 3))) (.int .u32 (d 0))) (.int .u32 (d 1))) (.int .u32 (d 2))) (.int .u32 (d 3))
  simp only [trC, List.setIfInBounds_toArray, List.set] at k
  exact k
theorem wpList_putR {P : Program} {ops : Array Oper} {rest : List Oper} {o : Oper} {a : Act} {w : World} {Q : Exit → Act → World → Prop} (hgd : o.guard = none) (ty : TypeId) (x y : Operand) (ho : o.op = .store ty x y) (b : Nat) (v d : Nat → Int) {r : Nat → Value} {s : St} {t : TypeId} (hk : TrB w b r s t)
    (hx : a.eval x = .pointer (some ⟨b, 5, none⟩)) (hy : a.eval y = .agg #[.int .i64 (v 0), .int .i64 (v 1), .int .i64 (v 2), .int .i64 (v 3), .int .u32 (d 0), .int .u32 (d 1), .int .u32 (d 2), .int .u32 (d 3)]) (hi : (P.info? ty).map (·.size) = some 8)
    (h : wpList P ops Q rest (a.put o.dst undef) (putR w b v d)) : wpList P ops Q (o :: rest) a w := by
  refine wpList_store_mid hgd ty x y ho b 5 _ hx hy ?_ hi (by simp [Value.oneCell']) h
  intro j hj
  refine ⟨?_, Blk.frozen hk _⟩
  rw [Blk.cell hk]
  have hj' : j < 8 := hj
  match j, hj' with
  | 0, _ => rfl
  | 1, _ => rfl
  | 2, _ => rfl
  | 3, _ => rfl
  | 4, _ => rfl
  | 5, _ => rfl
  | 6, _ => rfl
  | 7, _ => rfl
theorem putR_only {w : World} {b : Nat} {v d : Nat → Int} : Only (fun k => k = b) w (putR w b v d) := by
  have k : ∀ {a c : World} {i : Nat} {u : Value}, Only (fun k => k = b) a c → Only (fun k => k = b) a (c.setCell ⟨b, i, none⟩ u) := fun h => set_only (A := fun k => k = b) h rfl _
  exact k (k (k (k (k (k (k (k Only.refl)))))))
theorem or_range (a b : Int) : 0 ≤ bits .or .u32 a b ∧ bits .or .u32 a b < 4294967296 := by
  show 0 ≤ IntKind.u32.wrap _ ∧ IntKind.u32.wrap _ < 4294967296
  rw [IntKind.wrap_u32]
  omega
theorem depOk_upd {d : Nat → Int} (h : DepOk d) (n : Int) {y : Int} (hy : 0 ≤ y ∧ y < 4294967296) : DepOk (upd d n y) := fun k => by
  unfold upd
  split
  · exact hy
  · exact h k
theorem hang_range {d : Nat → Int} : ∀ (l : List Int) (acc : Int), (0 ≤ acc ∧ acc < 4294967296) → 0 ≤ hangF d l acc ∧ hangF d l acc < 4294967296
  | [], _, h => h
  | n :: l, acc, _ => hang_range l _ (or_range acc (atR d n))
theorem depOk_do {d : Nat → Int} (h : DepOk d) (op xd xa xb : Int) : DepOk (doD d op xd xa xb) := depOk_upd h _ (hang_range _ _ ⟨by decide, by decide⟩)
theorem TrB.setVals {w : World} {b : Nat} {r : Nat → Value} {s : St} {t : TypeId} (h : TrB w b r s t) {n : Int} {k : Nat} (hn : n = (k : Int)) : TrB (w.setCell ⟨b, 13, none⟩ (.int .i64 n)) b r { s with vals := k } t := by
  subst hn
  have q := Blk.set (i := 13) h (.int .i64 (k : Int))
  simp only [trC, List.setIfInBounds_toArray, List.set] at q
  exact q
theorem TrB.setLucks {w : World} {b : Nat} {r : Nat → Value} {s : St} {t : TypeId} (h : TrB w b r s t) {n : Int} {k : Nat} (hn : n = (k : Int)) : TrB (w.setCell ⟨b, 14, none⟩ (.int .i64 n)) b r { s with lucks := k } t := by
  subst hn
  have q := Blk.set (i := 14) h (.int .i64 (k : Int))
  simp only [trC, List.setIfInBounds_toArray, List.set] at q
  exact q
theorem lens_of {n : Nat} {vals : List Int} {lucks : List Bool} {s : St} (h : StOk n vals lucks s) (hn : n ≤ 8) : s.evs.length ≤ 1000000 ∧ s.ad.length ≤ 1000000 ∧ s.da.length ≤ 1000000 ∧ s.ct.length ≤ 1000000 ∧ s.pa.length ≤ 1000000 := by
  have h1 := h.ev
  have h2 := h.nx
  have h3 := h.ad
  have h4 := h.da
  have h5 := h.ct
  have h6 := h.pa
  omega
theorem one16A {A : Nat → Prop} {w : World} {r : Nat → Value} {s s' : St} (h : TrA A w r s) : (trC r s').all (·.oneCell') = true := by
  obtain ⟨p0, c0, h0⟩ := h.e0.len
  obtain ⟨p1, c1, h1⟩ := h.e1.len
  obtain ⟨p2, c2, h2⟩ := h.e2.len
  obtain ⟨p3, c3, h3⟩ := h.e3.len
  obtain ⟨p4, c4, h4⟩ := h.e4.len
  simp [trC, Value.oneCell', h0, h1, h2, h3, h4]
theorem updV_self {r : Nat → Value} {i : Nat} {v : Value} (h : r i = v) : updV r i v = r := by
  funext k
  unfold updV
  split
  · rename_i e; rw [e, h]
  · rfl
theorem TrA.is {A : Nat → Prop} {w : World} {r : Nat → Value} {s : St} (h : TrA A w r s) : TrIs w r s := h.n.is
theorem TrA.nw {n : Nat} {w : World} {r : Nat → Value} {s : St} (h : TrA (Aside2 n) w r s) : TrA (fun b => n ≤ b) w r s := h.mono fun _ hb => hb.2.2
theorem pow_range {k : Nat} (h : k < 32) : 0 ≤ (2 : Int) ^ k ∧ (2 : Int) ^ k < 4294967296 := by
  have e : (2 : Int) ^ k = ((2 ^ k : Nat) : Int) := by simp
  have l : 2 ^ k < 2 ^ 32 := Nat.pow_lt_pow_right (by decide) h
  rw [e]
  exact ⟨Int.natCast_nonneg _, Int.lt_of_lt_of_le (Int.ofNat_lt.2 l) (by decide)⟩
theorem rrel_step {p pv pl : Option Addr} {c0 cv cl : Nat} {th : List Ins} {locs : Int} {vals : List Int} {lucks : List Bool} {w : World} {R : St} {s : St} {r : Nat → Value} {n : Nat} {wr : World} {x : Ins} (E : REnv p pv pl c0 cv cl th locs vals lucks w) (H : RRel th locs vals lucks w R s r (n + 1) wr) (hlt : s.next < th.length) (hx : th[s.next] = x)
    {s2 : St} {r2 : Nat → Value} {w2 : World} (hst : s.inc.step locs vals lucks x = s2) (kt : TrB w2 (w.heap.size + 1) r2 s2 34) (kz : TrB w2 w.heap.size (fun _ => .slice none 0 0) .zero 34) (tr : TrA (Aside2 w.heap.size) w2 r2 s2) (more : s2.more = 0) (dep : DepOk s2.d) (B : Below w.heap.size w w2) : RRel th locs vals lucks w R s2 r2 n w2 := by
  have hokx := E.ok s.next _ (List.getElem?_eq_getElem hlt)
  rw [hx] at hokx
  have hrun := H.run
  rw [run_step H.more hlt, hx, hst] at hrun
  have h1 := (H.ok.inc hlt).step (x := x) (locs := locs) (by rw [show th.length - s.inc.next = th.length - 1 - s.next by simp only [St.inc]; omega]; exact hokx)
  have h2 : s.next + 1 ≤ (s.inc.step locs vals lucks x).next := step_next (s := s.inc)
  rw [hst] at h1 h2
  have h3 := H.fuel
  exact ⟨kt, kz, tr, h1, more, dep, by omega, hrun, B⟩
theorem TrA.only {A S : Nat → Prop} {w w' : World} {r : Nat → Value} {s : St} (h : TrA A w r s) (ho : Only S w w') (hs : ∀ b, A b → ¬ S b) : TrA A w' r s := h.agree (ho.agree hs)
theorem TrA.st {A : Nat → Prop} {w : World} {r : Nat → Value} {s s' : St} (h : TrA A w r s) (e0 : s'.evs = s.evs) (e1 : s'.ad = s.ad) (e2 : s'.da = s.da) (e3 : s'.ct = s.ct) (e4 : s'.pa = s.pa) : TrA A w r s' := by
  obtain ⟨a0, a1, a2, a3, a4, n0, n1, n2, n3, n4⟩ := h
  rw [← e0] at a0 n0
  rw [← e1] at a1 n1
  rw [← e2] at a2 n2
  rw [← e3] at a3 n3
  rw [← e4] at a4 n4
  exact ⟨a0, a1, a2, a3, a4, n0, n1, n2, n3, n4⟩
end Go.Proofs.YtcalinfdckklfaaGreatDoor
