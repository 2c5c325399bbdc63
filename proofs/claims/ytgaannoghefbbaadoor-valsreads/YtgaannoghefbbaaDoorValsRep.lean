/- Lists of traces in memory. -/
import Derived.Test.YtgaannoghefbbaaDoorValsPut
import Derived.Test.YtgaannoghefbbaaDoorFlowP
namespace Go.Proofs.YtgaannoghefbbaaDoor
open Go.RowKit
attribute [local go_sem] Ext.cell Ext.frozen

/-- A trace's rows, in blocks of A. -/
structure TrZ (A : Nat → Prop) (w : World) (r : Nat → Value) (s : St) : Prop where
  e0 : SlA A EvE w (r 0) s.evs
  e1 : SlA A MskE w (r 1) s.ad
  e2 : SlA A MskE w (r 2) s.da
  e3 : SlA A MskE w (r 3) s.ct
  e4 : SlA A IntE w (r 4) s.pa
section
variable {A B : Nat → Prop} {w w' : World} {r : Nat → Value} {s : St}
theorem TrZ.agree (h : TrZ A w r s) (ha : Agree A w w') : TrZ A w' r s := ⟨h.e0.agree ha, h.e1.agree ha, h.e2.agree ha, h.e3.agree ha, h.e4.agree ha⟩
theorem TrZ.keep (h : TrZ A w r s) (hb : Below w.heap.size w w') : TrZ A w' r s := h.agree (Below.agree hb)
theorem TrZ.mono (hAB : ∀ b, A b → B b) (h : TrZ A w r s) : TrZ B w r s := ⟨h.e0.mono hAB, h.e1.mono hAB, h.e2.mono hAB, h.e3.mono hAB, h.e4.mono hAB⟩
theorem TrZ.lt (h : TrZ A w r s) : TrZ (fun b => A b ∧ b < w.heap.size) w r s := ⟨h.e0.lt, h.e1.lt, h.e2.lt, h.e3.lt, h.e4.lt⟩
theorem TrZ.is (h : TrZ A w r s) : TrIs w r s := ⟨h.e0.any, h.e1.any, h.e2.any, h.e3.any, h.e4.any⟩
theorem TrIs.z (h : TrIs w r s) : TrZ (fun _ => True) w r s := ⟨h.e0, h.e1, h.e2, h.e3, h.e4⟩
theorem TrZ.one (h : TrZ A w r s) : (trC r s).all (·.oneCell') = true := by
  obtain ⟨p0, c0, h0⟩ := h.e0.len
  obtain ⟨p1, c1, h1⟩ := h.e1.len
  obtain ⟨p2, c2, h2⟩ := h.e2.len
  obtain ⟨p3, c3, h3⟩ := h.e3.len
  obtain ⟨p4, c4, h4⟩ := h.e4.len
  simp [trC, Value.oneCell', h0, h1, h2, h3, h4]
end
theorem TrO.z {w : World} {n : Nat} {r : Nat → Value} {s : St} (h : TrO w n r s) : TrZ (fun b => n ≤ b) w r s := by
  obtain ⟨base, hn, h⟩ := h
  have k : ∀ b, base ≤ b ∨ F0 b → n ≤ b := fun b hb => hb.elim (fun h => Nat.le_trans hn h) False.elim
  exact ⟨h.e0.sl.mono k, h.e1.sl.mono k, h.e2.sl.mono k, h.e3.sl.mono k, h.e4.sl.mono k⟩

def TrE : Elem St where
  size := 16
  pos := by decide
  cs := fun A w s c => ∃ r, c = (trC r s).toList ∧ TrZ A w r s
  len := fun ⟨_, h, _⟩ => by subst h; rfl
  one := fun ⟨r, h, hz⟩ u hu => by
    subst h
    have := hz.one
    rw [Array.all_eq_true'] at this
    exact this u (by simpa using hu)
  keep := fun ⟨r, h, hz⟩ hw => ⟨r, h, hz.agree hw⟩
  mono := fun hAB ⟨r, h, hz⟩ => ⟨r, h, hz.mono hAB⟩
  lt := fun ⟨r, h, hz⟩ => ⟨r, h, hz.lt⟩
/-- The cells of a trace. -/
structure TrAt (w : World) (b o : Nat) (r : Nat → Value) (s : St) : Prop where
  c0 : w.cell? ⟨b, o, none⟩ = some (r 0)
  c1 : w.cell? ⟨b, o + 1, none⟩ = some (r 1)
  c2 : w.cell? ⟨b, o + 2, none⟩ = some (r 2)
  c3 : w.cell? ⟨b, o + 3, none⟩ = some (r 3)
  c4 : w.cell? ⟨b, o + 4, none⟩ = some (r 4)
  v0 : w.cell? ⟨b, o + 5, none⟩ = some (.int .i64 (s.v 0))
  v1 : w.cell? ⟨b, o + 6, none⟩ = some (.int .i64 (s.v 1))
  v2 : w.cell? ⟨b, o + 7, none⟩ = some (.int .i64 (s.v 2))
  v3 : w.cell? ⟨b, o + 8, none⟩ = some (.int .i64 (s.v 3))
  d0 : w.cell? ⟨b, o + 9, none⟩ = some (.int .u32 (s.d 0))
  d1 : w.cell? ⟨b, o + 10, none⟩ = some (.int .u32 (s.d 1))
  d2 : w.cell? ⟨b, o + 11, none⟩ = some (.int .u32 (s.d 2))
  d3 : w.cell? ⟨b, o + 12, none⟩ = some (.int .u32 (s.d 3))
  vs : w.cell? ⟨b, o + 13, none⟩ = some (.int .i64 (s.vals : Nat))
  ls : w.cell? ⟨b, o + 14, none⟩ = some (.int .i64 (s.lucks : Nat))
  mo : w.cell? ⟨b, o + 15, none⟩ = some (.int .i64 s.more)
theorem TrAt.keep {w w' : World} {b o : Nat} {r : Nat → Value} {s : St} (h : TrAt w b o r s) (hb : Below w.heap.size w w') : TrAt w' b o r s :=
  ⟨cell_keep h.c0 hb, cell_keep h.c1 hb, cell_keep h.c2 hb, cell_keep h.c3 hb, cell_keep h.c4 hb, cell_keep h.v0 hb, cell_keep h.v1 hb, cell_keep h.v2 hb, cell_keep h.v3 hb, cell_keep h.d0 hb, cell_keep h.d1 hb, cell_keep h.d2 hb, cell_keep h.d3 hb, cell_keep h.vs hb, cell_keep h.ls hb, cell_keep h.mo hb⟩
theorem TrAt.lt {w : World} {b o : Nat} {r : Nat → Value} {s : St} (h : TrAt w b o r s) : b < w.heap.size := cell_lt h.c0
theorem tr_at {A : Nat → Prop} {w : World} {p : Option Addr} {n c : Nat} {xs : List St} (h : SlA A TrE w (.slice p n c) xs) : n = xs.length ∧ ∀ k (hk : k < xs.length), ∃ b o r, p = some ⟨b, o, none⟩ ∧ A b ∧ TrZ A w r xs[k] ∧ TrAt w b (o + k * 16) r xs[k] := by
  obtain ⟨h1, h2⟩ := h.at
  refine ⟨h1, fun k hk => ?_⟩
  obtain ⟨b, o, rfl, hA, cs, ⟨r, h3, hz⟩, h4⟩ := h2 k hk
  subst h3
  exact ⟨b, o, r, rfl, hA, hz, ⟨h4 0 _ rfl, h4 1 _ rfl, h4 2 _ rfl, h4 3 _ rfl, h4 4 _ rfl, h4 5 _ rfl, h4 6 _ rfl, h4 7 _ rfl, h4 8 _ rfl, h4 9 _ rfl, h4 10 _ rfl, h4 11 _ rfl, h4 12 _ rfl, h4 13 _ rfl, h4 14 _ rfl, h4 15 _ rfl⟩⟩
/-- A list of one trace, in a new block. -/
theorem tr_single {A : Nat → Prop} {w : World} {b c : Nat} {r : Nat → Value} {s : St} {t : TypeId} (hA : A b) (hz : TrZ A w r s) (h : TrB w b r s t) (hc : 1 ≤ c := by decide) : SlA A TrE w (.slice (some ⟨b, 0, none⟩) 1 c) [s] :=
  sl_single hA ⟨r, rfl, hz⟩ (fun j u hu => by rw [Blk.cell h]; rw [← hu]; simp) hc

/-- Is a value in a list? -/
def inL (l : List Int) (n : Int) : Bool := l.any (· == n)
theorem inL_is {l : List Int} {n : Int} : inL l n = true ↔ n ∈ l := by
  unfold inL
  rw [List.any_eq_true]
  exact ⟨fun ⟨x, hx, e⟩ => by rw [beq_iff_eq] at e; exact e ▸ hx, fun h => ⟨n, h, by simp⟩⟩

set_option maxHeartbeats 1000000 in
theorem refIn_any (q : Option Addr) (d : Nat) (l : List Int) (n : Int) (w : World) (hl : Sl IntE w (.slice q l.length d) l) (hn : l.length ≤ 1000000) :
    Calls Tryd.prog 10 #[.slice q l.length d, .int .i64 n] w fun e w' => e = .returned (.bool (inL l n)) ∧ w' = w := by
  go_enter Tryd.func10, Tryd.ntmps10
  go_wp2
  go_loop [5] (fun i => ∃ k : Nat, k ≤ l.length ∧ i = .int .i64 k ∧ inL (l.drop k) n = inL l n) (fun i => l.length - (intOf i).toNat)
  case atStart => exact ⟨0, Nat.zero_le _, rfl, rfl⟩
  case round =>
    obtain ⟨k, hk, rfl, hF⟩ := hrel
    have HF : Hid _ := hF
    clear hF
    by_cases hlt : k < l.length
    · obtain ⟨b2, o2, rfl, g1⟩ := (ints_at hl).2 k hlt
      generalize hy : l[k] = y at g1
      have HY : Hid (l.drop k = y :: l.drop (k + 1)) := by rw [← hy]; exact drop_at hlt
      clear hy
      by_cases he : y = n
      · have heb : (y == n) = true := by simp [he]
        have HE : Hid _ := heb
        go_wp2
        go_ret
        exact ⟨by rw [← HF.out, HY.out]; unfold inL; rw [List.any_cons, HE.out]; rfl, rfl⟩
      · have heb : (y == n) = false := by simp [he]
        have HE : Hid _ := heb
        go_wp2
        go_round
        case rel => exact ⟨k + 1, by omega, by go_num, by rw [← HF.out, HY.out]; unfold inL; rw [List.any_cons, HE.out]; rfl⟩
        case measure => simp [intOf]; omega
    · go_wp2
      go_ret
      exact ⟨by rw [← HF.out, List.drop_of_length_le (by omega)]; rfl, rfl⟩
end Go.Proofs.YtgaannoghefbbaaDoor
