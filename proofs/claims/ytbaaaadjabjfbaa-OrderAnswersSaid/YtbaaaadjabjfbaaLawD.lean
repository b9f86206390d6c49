/- An argument that is a slice of truth values. -/
import Derived.Test.YtbaaaadjabjfbaaLaw
import Derived.Test.YtbaaaadjabjfbaaOrP
import Derived.Deep.Grids
namespace Go.Proofs.Ytbaaaadjabjfbaa
open Go.ChangeShapes Go.WideShapes Go.ChangeAt Go.RowKit
variable {P : Program} {H : Type} {enc : TypeId × Value → H}
theorem open_flags {t e : TypeId} {W : World} {v : Value} {d : DataW H} {ps : List MemPlace} (ht : P.underlying t = some (.slice e)) (he : P.underlying e = some .bool) (hc : P.cellsOf e = 1) {r : Reach} {b0 : Nat} (hval : Value.okWide P W r b0 t v)
    (h : DataW.Trod enc P W 0 (fun _ => true) true t v d ps) :
    ∃ (A : Option Addr) (l : List Bool) (c : Nat), v = .slice A l.length c ∧ l.length ≤ c ∧ c ≤ maxLen ∧ Lies W W.heap.size A (bits l) := by
  obtain ⟨a0, len0, cap0, rfl⟩ := okWide_slice ht hval
  obtain ⟨fuel, hf⟩ := h
  rcases Go.Deep.open_bools ht he hc hf with ⟨hv, _⟩ | ⟨a, len, cap, Z, hv, _, hlc, hcm, _, hcell⟩
  · simp [Value.cells] at hv
    obtain ⟨rfl, rfl, rfl⟩ := hv
    exact ⟨none, [], 0, rfl, Nat.le_refl _, by unfold maxLen; omega, Lies.empty⟩
  · simp [Value.cells] at hv
    obtain ⟨rfl, rfl, rfl⟩ := hv
    have hlen : ((List.range len0).map Z).length = len0 := by simp
    refine ⟨some a, (List.range len0).map Z, cap0, by rw [hlen], by rw [hlen]; exact hlc, hcm, fun hne => ⟨a, rfl, ?_, fun i u hu => ?_⟩⟩
    · have h0 : 0 < len0 := by
        rcases Nat.eq_zero_or_pos len0 with h0 | h0
        · subst h0; simp at hne
        · exact h0
      have := hcell 0 (by omega)
      exact (add_block a 0) ▸ World.block_lt_of_cell? W _ this
    · rw [List.getElem?_map] at hu
      obtain ⟨x, hx, rfl⟩ := Option.map_eq_some_iff.1 hu
      rw [List.getElem?_map] at hx
      obtain ⟨j, hj, rfl⟩ := Option.map_eq_some_iff.1 hx
      obtain ⟨h1, h2⟩ := List.getElem?_eq_some_iff.1 hj
      rw [List.length_range] at h1
      rw [List.getElem_range] at h2
      subst h2
      exact hcell i (by omega)
end Go.Proofs.Ytbaaaadjabjfbaa
