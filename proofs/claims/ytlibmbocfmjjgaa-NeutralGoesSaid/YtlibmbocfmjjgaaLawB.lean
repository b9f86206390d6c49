/- An argument that is an array of truth values. -/
import Derived.Test.YtlibmbocfmjjgaaLaw
namespace Go.Proofs.Ytlibmbocfmjjgaa
open Go.ChangeShapes Go.WideShapes Go.ChangeAt Go.RowKit
variable {P : Program} {H : Type} {enc : TypeId × Value → H}
theorem open_bools {t e : TypeId} {n : Nat} {W : World} {v : Value} {d : DataW H} {ps : List MemPlace} (ht : P.underlying t = some (.array n e)) (he : P.underlying e = some .bool) (hc : P.cellsOf e = 1) (hct : P.cellsOf t = n) {r : Reach} {b0 : Nat} (hval : Value.okWide P W r b0 t v)
    (h : DataW.Trod enc P W 0 (fun _ => true) true t v d ps) : ∃ l : List Bool, v = .agg (l.map Value.bool).toArray ∧ l.length = n := by
  unfold Value.okWide at hval
  rw [ht] at hval
  obtain ⟨cs, rfl, _, _⟩ := hval
  obtain ⟨fuel, hf⟩ := h
  obtain ⟨xs, m, _, _, hcl, hxl, hall⟩ := DataW.trod_array ht hf
  have hcn : cs.toList.length = n := by rw [← hct, ← hcl]; simp [Value.cells]
  have key : ∀ i (hi : i < n), ∃ z : Bool, cs.toList[i]'(by omega) = .bool z := by
    intro i hi
    have h1 := hall i hi
    rw [hc, Nat.mul_one, List.getElem?_eq_getElem (by omega)] at h1
    obtain ⟨z, h2, _⟩ := DataW.trod_bool he h1
    refine ⟨z, ?_⟩
    have h4 := congrArg (·[0]?) h2
    simp only [Value.cells, List.getElem?_take, List.getElem?_drop] at h4
    simpa [List.getElem?_eq_getElem (show i < cs.toList.length by omega)] using h4
  let bit : Value → Bool := fun v => match v with | .bool z => z | _ => false
  refine ⟨cs.toList.map bit, ?_, by simpa using hcn⟩
  have : cs.toList = (cs.toList.map bit).map Value.bool := by
    apply List.ext_getElem
    · simp
    · intro i h1 h2
      obtain ⟨z, hz⟩ := key i (by omega)
      simp only [List.getElem_map]
      rw [hz]
  rw [← this]
end Go.Proofs.Ytlibmbocfmjjgaa
