/- Rows that are made whole and filled: make([]T, n), stores into one's own row. -/
import Derived.Test.YtbaaaadjabjfbaaKit
import Derived.Deep.OwnRows
import Derived.Laws.OwnMore
namespace Go.Proofs.Ytbaaaadjabjfbaa
open Go.RowKit

/-- one more cell of a row that was made whole is filled -/
theorem fill_step {c : Array Value} {xs : List Value} {z v : Value} {n k : Nat} (h : c.toList = xs ++ List.replicate (n - k) z) (hk : xs.length = k) (hn : k < n) :
    (c.setIfInBounds k v).toList = (xs ++ [v]) ++ List.replicate (n - (k + 1)) z := by
  rw [Array.toList_setIfInBounds, h, List.set_append_right _ _ (by omega), hk, Nat.sub_self, show n - k = (n - (k + 1)) + 1 by omega, List.replicate_succ, List.set_cons_zero, List.append_assoc]
  rfl
theorem fill_start (z : Value) (n : Nat) : (madeCells #[z] n).toList = [] ++ List.replicate (n - 0) z := by
  rw [toList_madeCells_one]; simp
/-- one more place of a list that begins with what is done -/
theorem fill_list {xs : List Value} {z v : Value} {n k : Nat} (hk : xs.length = k) (hn : k < n) : (xs ++ List.replicate (n - k) z).set k v = (xs ++ [v]) ++ List.replicate (n - (k + 1)) z := by
  rw [List.set_append_right _ _ (by omega), hk, Nat.sub_self, show n - k = (n - (k + 1)) + 1 by omega, List.replicate_succ, List.set_cons_zero, List.append_assoc]
  rfl
/-- .. the same place once more -/
theorem fill_again {xs : List Value} {z u v : Value} {n k : Nat} (hk : xs.length = k) : ((xs ++ [u]) ++ List.replicate (n - (k + 1)) z).set k v = (xs ++ [v]) ++ List.replicate (n - (k + 1)) z := by
  rw [List.append_assoc, List.set_append_right _ _ (by omega), hk, Nat.sub_self, List.append_assoc]
  rfl

/-- block g is a row of the call's own, and holds xs -/
def Row (w : World) (B : Nat) (e : TypeId) (g c : Nat) (xs : List Value) : Prop := Own w B e (.slice (some ⟨g, 0, none⟩) xs.length c) xs
section
variable {w w' : World} {B : Nat} {e : TypeId} {g c : Nat} {xs : List Value}
theorem Row.own (h : Row w B e g c xs) {n : Nat} (hn : n = xs.length) : Own w B e (.slice (some ⟨g, 0, none⟩) n c) xs := hn ▸ h
theorem Row.cell (h : Row w B e g c xs) {j : Nat} (hj : j < xs.length) : w.cell? ⟨g, j, none⟩ = some xs[j] := by
  have := World.ownsRow.cellAt (h : w.ownsRow B e 1 _ _ xs) j (by omega)
  rw [this, List.getElem?_eq_getElem hj]
theorem Row.free (h : Row w B e g c xs) (j : Nat) : w.frozen? ⟨g, j, none⟩ = false := World.ownsRow.frozenAt (h : w.ownsRow B e 1 _ _ xs) j
theorem Row.set (h : Row w B e g c xs) (j : Nat) (u : Value) : Row (w.setCell ⟨g, j, none⟩ u) B e g c (xs.set j u) := by
  have := (World.ownsRow.stored (h : w.ownsRow B e 1 _ _ xs) j u).1
  unfold Row Own
  rw [List.length_set]
  exact this
theorem Row.inside (h : Row w B e g c xs) : B ≤ g ∧ g < w.heap.size := Own.inside h g rfl
theorem Row.below (h : Row w B e g c xs) {C : Nat} (hb : Below C w w') (hC : w.heap.size ≤ C) : Row w' B e g c xs := Own.below h hb hC
theorem Row.alloc (h : Row w B e g c xs) (o : Obj) : Row (w.alloc o) B e g c xs := Own.alloc h o
theorem Row.setG (h : Row w B e g c xs) (j : Nat) (u : Value) : w.grownBy (w.setCell ⟨g, j, none⟩ u) (some g) := (World.ownsRow.stored (h : w.ownsRow B e 1 _ _ xs) j u).2
theorem Row.setB {w0 : World} (hb : Below B w0 w) (h : Row w B e g c xs) (j : Nat) (u : Value) : Below B w0 (w.setCell ⟨g, j, none⟩ u) := hb.setCell h.inside.1 u
variable {P : Program} {ops : Array Oper} {rest : List Oper} {o : Oper} {a : Act} {Q : Exit → Act → World → Prop}
/-- make([]T, n) -/
theorem make_row {t e : TypeId} {z : Value} {bytes : Nat} (T : SliceOf P t e z bytes) (w0 W : World) (B : Nat) (x y : Operand) (kl kc : IntKind) (n : Nat)
    (hgd : o.guard = none) (ho : o.op = .makeSlice t x y) (hx : a.eval x = .int kl (n : Int)) (hy : a.eval y = .int kc (n : Int)) (hz : z.cells = #[z]) (hb : Below B w0 W) (hB : B ≤ W.heap.size) (hn : bytes * n ≤ 281474976710656) (hm : n ≤ maxLen)
    (h : ∀ w', Row w' B e W.heap.size n (List.replicate n z) → Below B w0 w' → W.grownBy w' none → wpList P ops Q rest (a.put o.dst (.slice (some ⟨W.heap.size, 0, none⟩) n n)) w') :
    wpList P ops Q (o :: rest) a W := by
  obtain ⟨i, hi, hz0, hz1, hz2⟩ := info_parts T.elem
  obtain ⟨w', hrun, r1, r2⟩ := run_make_full (P := P) W B t e i z 1 T.slice hi hz0 hz1 kl kc n (by rw [hz2]; exact hn) hm hB
  refine wpList_plain hgd fun K' hK' => ?_
  unfold Oper.wp
  simp [execOp, ho, hx, hy, hrun, Result.andThen]
  refine hK' _ _ (h w' ?_ (hb.grown r2 hB (fun k hk => by cases hk)) r2)
  rw [hz, Nat.mul_one, toList_madeCells_one] at r1
  unfold Row Own
  simpa using r1
end
end Go.Proofs.Ytbaaaadjabjfbaa
