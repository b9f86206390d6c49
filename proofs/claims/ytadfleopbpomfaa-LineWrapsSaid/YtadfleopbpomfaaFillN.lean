/- Rows of structs that are made whole and filled: make([]T, n), a struct of two cells stored at a place. -/
import Derived.Test.YtadfleopbpomfaaFill
import Derived.Test.YtadfleopbpomfaaWide
import Derived.Deep.MidRow
namespace Go.Proofs.Ytadfleopbpomfaa
open Go.RowKit

theorem made_two (z : Value) (n : Nat) : (madeCells #[z, z] (n * 2)).toList = List.replicate (n * 2) z := by
  apply List.ext_getElem?
  intro j
  by_cases hj : j < n * 2
  · have h2 : (j % 2 = 0) ∨ (j % 2 = 1) := by omega
    rcases h2 with h2 | h2 <;> simp [madeCells, hj, h2]
  · simp [madeCells, hj]
/-- one more pair of a list that begins with what is done -/
theorem fill_two {xs : List Value} {z u v : Value} {n k : Nat} (hk : xs.length = k * 2) (hn : k < n) :
    ((xs ++ List.replicate ((n - k) * 2) z).set (k * 2) u).set (k * 2 + 1) v = (xs ++ [u, v]) ++ List.replicate ((n - (k + 1)) * 2) z := by
  rw [List.set_append_right _ _ (by omega), hk, Nat.sub_self, show (n - k) * 2 = (n - (k + 1)) * 2 + 1 + 1 by omega, List.replicate_succ, List.replicate_succ, List.set_cons_zero,
    List.set_append_right _ _ (by omega), hk, show k * 2 + 1 - k * 2 = 1 by omega, List.set_cons_succ, List.set_cons_zero, List.append_assoc]
  rfl
section
variable {P : Program} {ops : Array Oper} {rest : List Oper} {o : Oper} {a : Act} {Q : Exit → Act → World → Prop}
/-- make([]T, n), of elements of several cells -/
theorem make_rowN {t e : TypeId} {z : Value} {size bytes : Nat} (T : SliceOfN P t e z size bytes) (w0 W : World) (B : Nat) (x y : Operand) (kl kc : IntKind) (n : Nat)
    (hgd : o.guard = none) (ho : o.op = .makeSlice t x y) (hx : a.eval x = .int kl (n : Int)) (hy : a.eval y = .int kc (n : Int)) (hb : Below B w0 W) (hB : B ≤ W.heap.size) (hn : bytes * n ≤ 281474976710656) (hm : n ≤ maxLen)
    (h : ∀ w', OwnN w' B e size (.slice (some ⟨W.heap.size, 0, none⟩) n n) n (madeCells z.cells (n * size)).toList → Below B w0 w' → W.grownBy w' none → wpList P ops Q rest (a.put o.dst (.slice (some ⟨W.heap.size, 0, none⟩) n n)) w') :
    wpList P ops Q (o :: rest) a W := by
  obtain ⟨i, hi, hz0, hz1, hz2⟩ := info_parts T.elem
  obtain ⟨w', hrun, r1, r2⟩ := run_make_full (P := P) W B t e i z size T.slice hi hz0 hz1 kl kc n (by rw [hz2]; exact hn) hm hB
  refine wpList_plain hgd fun K' hK' => ?_
  unfold Oper.wp
  simp [execOp, ho, hx, hy, hrun, Result.andThen]
  exact hK' _ _ (h w' r1 (hb.grown r2 hB (fun k hk => by cases hk)) r2)
/-- a struct of two cells, stored at a place of a row of one's own -/
theorem store_two {t e : TypeId} (w0 W : World) (B : Nat) (x y : Operand) (g j c n : Nat) (u v : Value) (xs : List Value)
    (hgd : o.guard = none) (hd : o.dst = none) (ho : o.op = .store t x y) (ht : (P.info? t).map (·.size) = some 2) (hu : u.oneCell' = true) (hv : v.oneCell' = true)
    (hx : a.eval x = .pointer (some ⟨g, j, none⟩)) (hy : a.eval y = .agg #[u, v]) (hr : OwnN W B e 2 (.slice (some ⟨g, 0, none⟩) n c) n xs) (hj : j + 1 < n * 2) (hb : Below B w0 W)
    (h : ∀ w', OwnN w' B e 2 (.slice (some ⟨g, 0, none⟩) n c) n ((xs.set j u).set (j + 1) v) → Below B w0 w' → wpList P ops Q rest a w') : wpList P ops Q (o :: rest) a W := by
  have hjl : j + 1 < xs.length := by rw [hr.1]; exact hj
  have hin := (OwnN.inside hr) g rfl
  have s1 := World.ownsRow.stored hr j u
  have s2 := World.ownsRow.stored s1.1 (j + 1) v
  refine wpList_store_mid hgd t x y ho g j #[u, v] hx hy (fun i hi => ?_) ht (by simp [hu, hv]) ?_
  · have hi2 : i < 2 := hi
    refine ⟨?_, World.ownsRow.frozenAt hr (j + i)⟩
    rw [World.ownsRow.cellAt hr (j + i) (by omega), List.getElem?_eq_getElem (by omega)]
    rfl
  · rw [hd]
    exact h _ s2.1 ((hb.setCell (p := ⟨g, j, none⟩) hin.1 u).setCell (p := ⟨g, j + 1, none⟩) hin.1 v)
end
end Go.Proofs.Ytadfleopbpomfaa
