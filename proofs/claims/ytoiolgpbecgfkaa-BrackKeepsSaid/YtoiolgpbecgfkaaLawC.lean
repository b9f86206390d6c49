/- From a walk to a law's row: an argument that is a struct of three slices of whole numbers. -/
import Derived.Test.YtoiolgpbecgfkaaLaw
import Derived.Lib.SmallJoins
namespace Go.Proofs.Ytoiolgpbecgfkaa
open Go.ChangeShapes Go.WideShapes Go.ChangeAt Go.RowKit

section
variable {H : Type} {enc : TypeId × Value → H} {P : Program}
theorem open_listF {t e : TypeId} {k : IntKind} {W : World} {v : Value} {y : DataW H × List MemPlace} {n : Nat} (ht : P.underlying t = some (.slice e)) (he : P.underlying e = some (.int k)) (hc : P.cellsOf e = 1)
    (h : DataW.trod enc P W 0 (fun _ => true) true n t [v] = some y) :
    ∃ (A : Option Addr) (l : List Int) (c : Nat), v = .slice A l.length c ∧ l.length ≤ c ∧ c ≤ maxLen ∧ Lies W W.heap.size A (ints k l) ∧ ∀ n ∈ l, (Lit.int k n).wf = true := by
  rcases open_ints ht he hc h with ⟨hv, _⟩ | ⟨a, len, cap, zs, hv, _, hlc, hcm, hz, _, hcell, hwf⟩
  · simp at hv
    subst hv
    exact ⟨none, [], 0, rfl, Nat.le_refl _, by unfold maxLen; omega, Lies.empty, fun n hn => by cases hn⟩
  · simp at hv
    subst hv
    rw [if_pos rfl] at hz
    have hlen : (zs.take len).length = len := by rw [List.length_take, hz]; omega
    refine ⟨some a, zs.take len, cap, by rw [hlen], by rw [hlen]; exact hlc, hcm, fun hne => ⟨a, rfl, ?_, fun i u hu => ?_⟩, fun n hn => hwf n (List.mem_of_mem_take hn)⟩
    · have h0 : 0 < len := by
        rcases Nat.eq_zero_or_pos len with h0 | h0
        · subst h0; simp at hne
        · exact h0
      have := hcell 0 (by omega)
      exact (add_block a 0) ▸ World.block_lt_of_cell? W _ this
    · rw [List.getElem?_map] at hu
      obtain ⟨x, hx, rfl⟩ := Option.map_eq_some_iff.1 hu
      rw [List.getElem?_take] at hx
      split at hx
      · have hi : i < zs.length := (List.getElem?_eq_some_iff.1 hx).1
        rw [hcell i hi]
        simp [List.getD, hx]
      · cases hx
/-- an argument that is a struct of three such slices -/
theorem open_lists3 {t e : TypeId} {f0 f1 f2 : Field} {k : IntKind} {W : World} {v : Value} {d : DataW H} {ps : List MemPlace} (hs : P.underlying t = some (.struct #[f0, f1, f2])) (hone : Deep.oneCellFields P #[f0, f1, f2] = true) (hC : P.cellsOf t = 3)
    (h0 : P.underlying f0.type = some (.slice e)) (h1 : P.underlying f1.type = some (.slice e)) (h2 : P.underlying f2.type = some (.slice e)) (he : P.underlying e = some (.int k)) (hc : P.cellsOf e = 1) {r : Reach} {b0 : Nat} (hval : Value.okWide P W r b0 t v)
    (h : DataW.Trod enc P W 0 (fun _ => true) true t v d ps) :
    ∃ (A : Option Addr) (l : List Int) (c : Nat) (A' : Option Addr) (l' : List Int) (c' : Nat) (A2 : Option Addr) (l2 : List Int) (c2 : Nat), v = .agg #[.slice A l.length c, .slice A' l'.length c', .slice A2 l2.length c2] ∧
      (l.length ≤ c ∧ c ≤ maxLen ∧ Lies W W.heap.size A (ints k l)) ∧ (l'.length ≤ c' ∧ c' ≤ maxLen ∧ Lies W W.heap.size A' (ints k l')) ∧ (l2.length ≤ c2 ∧ c2 ≤ maxLen ∧ Lies W W.heap.size A2 (ints k l2)) := by
  obtain ⟨v0, v1, v2, y0, y1, y2, m, rfl, _, _, t0, t1, t2⟩ := Joins.open_agg3 hs hone hC hval h
  obtain ⟨A, l, c, rfl, a1, a2, a3, _⟩ := open_listF h0 he hc t0
  obtain ⟨A', l', c', rfl, b1, b2, b3, _⟩ := open_listF h1 he hc t1
  obtain ⟨A2, l2, c2, rfl, c1, c3, c4, _⟩ := open_listF h2 he hc t2
  exact ⟨A, l, c, A', l', c', A2, l2, c2, rfl, ⟨a1, a2, a3⟩, ⟨b1, b2, b3⟩, ⟨c1, c3, c4⟩⟩
end
end Go.Proofs.Ytoiolgpbecgfkaa
