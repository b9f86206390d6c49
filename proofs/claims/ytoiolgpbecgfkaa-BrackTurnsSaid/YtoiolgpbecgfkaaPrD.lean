/- The document's own mirrored characters; the fixed fact. -/
import Derived.Test.YtoiolgpbecgfkaaPrC
namespace Go.Proofs.Ytoiolgpbecgfkaa
open Go.RowKit Go.Maps

theorem mir_of (c : Int) : mir c = if (othL mrs c).2.2 then (othL mrs c).1 else c := rfl
/-- a number is what it is mirrored into, or it stands in the table -/
theorem mrs_or (c : Int) : othL mrs c = (0, false, false) ∨ ∃ p ∈ mrs, c = p.1 ∨ c = p.2 := by
  by_cases h : ∀ p ∈ mrs, c ≠ p.1 ∧ c ≠ p.2
  · exact .inl (othL_none _ _ h)
  · refine .inr ?_
    false_or_by_contra
    rename_i hn
    exact h fun p hp => ⟨fun e => hn ⟨p, hp, .inl e⟩, fun e => hn ⟨p, hp, .inr e⟩⟩
theorem all_mrs {Q : Int → Prop} (h0 : ∀ c, othL mrs c = (0, false, false) → Q c) (h1 : ∀ p ∈ mrs, Q p.1 ∧ Q p.2) (c : Int) : Q c := by
  rcases mrs_or c with h | ⟨p, hp, rfl | rfl⟩
  · exact h0 c h
  · exact (h1 p hp).1
  · exact (h1 p hp).2
theorem isM_ne (c : Int) : (mir c != c) = isM c := by
  refine all_mrs (Q := fun c => (mir c != c) = isM c) (fun c h => ?_) (by decide +kernel) c
  rw [mir, isM, othM, h]; simp
end Go.Proofs.Ytoiolgpbecgfkaa
