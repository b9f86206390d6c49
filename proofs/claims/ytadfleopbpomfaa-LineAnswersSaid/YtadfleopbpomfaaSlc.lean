/- Slices that are read, cut short: l[:k], l[k:]. -/
import Derived.Test.YtadfleopbpomfaaCells
namespace Go.Proofs.Ytadfleopbpomfaa
open Go.RowKit

theorem Lies.short {w : World} {B : Nat} {A : Option Addr} {l : List Int} (h : Lies w B A (ints .i64 l)) (k : Nat) : Lies w B A (ints .i64 (l.take k)) := by
  intro hne
  have hl : ints .i64 l ≠ [] := by
    intro e
    apply hne
    have : l = [] := by simpa [ints] using e
    subst this; simp [ints]
  obtain ⟨p, hA, hp, hc⟩ := h hl
  refine ⟨p, hA, hp, fun i u hu => hc i u ?_⟩
  rw [ints, List.map_take] at hu
  rw [List.getElem?_take] at hu
  split at hu
  · exact hu
  · cases hu
/-- l[k:], as the walk leaves it -/
theorem Lies.dropIf {w : World} {B : Nat} {A : Option Addr} {l : List Int} (h : Lies w B A (ints .i64 l)) (k c : Nat) (hc : l.length ≤ c) :
    Lies w B (if c = k then A else Option.map (fun x => { block := x.block, off := x.off + k }) A) (ints .i64 (l.drop k)) := by
  intro hne
  have hk : k < l.length := by
    apply Classical.byContradiction
    intro hk
    apply hne
    rw [List.drop_of_length_le (by omega)]; rfl
  obtain ⟨b, off, rfl, hb, hcell⟩ := h.plainInts (by omega)
  rw [if_neg (by omega)]
  refine ⟨_, rfl, hb, fun i u hu => ?_⟩
  rw [add_plain]
  rw [ints, List.map_drop, List.getElem?_drop, List.getElem?_map] at hu
  obtain ⟨x, hx, rfl⟩ := Option.map_eq_some_iff.1 hu
  obtain ⟨hlt, rfl⟩ := List.getElem?_eq_some_iff.1 hx
  have := hcell (k + i) hlt
  rw [show off + k + i = off + (k + i) by omega]
  exact this
section
variable {P : Program} {ops : Array Oper} {rest : List Oper} {o : Oper} {a : Act} {Q : Exit → Act → World → Prop}
/-- l[:k] -/
theorem short_lies {t e : TypeId} {z : Value} {bytes : Nat} (T : SliceOf P t e z bytes) (W : World) (x y : Operand) (k : IntKind) (j : Nat) (A : Option Addr) (n c : Nat)
    (hgd : Region.wanted o (yielded ops a.tmps) = true) (ho : o.op = .slice t x none (some y) none) (hx : a.eval x = .slice A n c) (hy : a.eval y = .int k (j : Int)) (hj : j ≤ c)
    (h : wpList P ops Q rest (a.put o.dst (.slice A j c)) W) :
    wpList P ops Q (o :: rest) a W := by
  obtain ⟨i, hi, hz0, hz1, hz2⟩ := info_parts T.elem
  have he : P.elem t = e := by simp [Program.elem, T.slice]
  have hrun := run_slice_h (P := P) (w := W) t A n c (by rw [T.slice, he]) k (j : Int) (by omega) (by omega)
  refine wpList_step fun K' hK' => ?_
  rw [if_pos hgd]
  unfold Oper.wp
  simp [execOp, ho, hx, hy, run_sliceAt_slice, T.slice, he, hrun, Result.andThen, sizeOf, typeInfo, hi, hz1, sliced]
  refine hK' _ _ ?_
  have e0 : (if c = 0 then A else Option.map (fun x : Addr => x.add 0) A) = A := by cases A <;> simp [Addr.add]
  rw [e0]
  exact h
end
end Go.Proofs.Ytadfleopbpomfaa
