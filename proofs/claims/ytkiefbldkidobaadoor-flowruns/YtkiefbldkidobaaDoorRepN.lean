/- Laws of no program: an append onto an empty slice without room: a new row; nothing that stood is turned. -/
import Derived.Test.YtkiefbldkidobaaDoorRepO
import Derived.ArgAppend
namespace Go.Proofs.YtkiefbldkidobaaDoor
open Go.RowKit

section
variable {α : Type} {R : Elem α} {B : Nat → Prop} {P : Program} {w : World} {ys : List α}

theorem wpList_appNew {ops : Array Oper} {rest : List Oper} {o : Oper} {a : Act} {Q : Exit → Act → World → Prop} (hgd : o.guard = none) (s x : Operand) (t e : TypeId) (i : TypeInfo) (z : Value) (bytes : Nat)
    (ho : o.op = .call { callee := .builtin .append, args := #[s, x], argTypes := #[t, t] })
    (ht : P.underlying t = some (.slice e)) (hi : P.info? e = some i) (hz : i.zero = some z) (hsize : i.size = R.size) (hby : i.bytes = bytes) (hzs : z.cells.size = R.size)
    (g : Addr) (u : Value) (hs : a.eval s = .slice (some g) 0 0) (hx : a.eval x = u) (hu : SlO B R w u ys) (hne : ys ≠ [])
    (h63 : ys.length ≤ 100000000) (hbytes : bytes ≤ 1000000)
    (h : ∀ p cap w', Own B R w' w.heap.size e (.slice p ys.length cap) ys → Below w.heap.size w w' → wpList P ops Q rest (a.put o.dst (.slice p ys.length cap)) w') : wpList P ops Q (o :: rest) a w := by
  obtain ⟨pu, cu, dd, rfl, hn, hdl, hd, hdc⟩ := hu.cells
  cases pu with
  | none => exact absurd (hn rfl).2 hne
  | some ad =>
    have hl : dd.flatten.length = ys.length * R.size := by
      have hlen := Own.lens hd hdl
      rw [← hdl]
      clear hd hdl hdc hu hn h63 h
      induction dd with
      | nil => simp
      | cons c cc ih => simp only [List.flatten_cons, List.length_append, List.length_cons]; rw [hlen c (by simp), ih (fun c hc => hlen c (by simp [hc])), Nat.add_mul]; omega
    have hpos : 0 < ys.length := List.length_pos_iff.2 hne
    have hbb : (0 + ys.length) * bytes ≤ 140737488355328 := by rw [Nat.zero_add]; exact Nat.le_trans (Nat.mul_le_mul h63 hbytes) (by decide)
    refine wpList_append_grows w hgd s x t ho e i z R.size bytes ht hi hz hsize hby hzs R.pos (some g) 0 0 [] hs (fun e => by cases e) (by simp) (fun b _ j u hj => by simp at hj) ad ys.length cu dd.flatten hx hl (hdc ad rfl) (Own.ones hd hdl) (by omega) (by unfold maxLen; omega) hbb ?_
    intro v' w' hown hg
    rw [Nat.zero_add, List.nil_append] at hown
    have hb : Below w.heap.size w w' := (Below.refl _ _).grown hg (Nat.le_refl _) (fun k hk => by cases hk)
    have hO : Own B R w' w.heap.size e v' ys := by
      refine ⟨dd, hown, hdl, fun k hk hk' => ?_⟩
      have h1 := R.keep (R.lt (hd k hk hk')) (Below.agree hb)
      refine R.mono (fun b hb => ⟨hb.1, fun e => ?_⟩) h1
      have := (hown.lt b e.symm).1
      omega
    obtain ⟨p, cap, rfl⟩ := hO.len
    exact h p cap w' hO hb
end
end Go.Proofs.YtkiefbldkidobaaDoor
