/- Plain facts on brackets and what is mirrored. -/
import Derived.Test.YtoiolgpbecgfkaaPrD
namespace Go.Proofs.Ytoiolgpbecgfkaa
open Go.RowKit Go.Maps

theorem mir_none {c : Int} (h : othL mrs c = (0, false, false)) : mir c = c := by rw [mir_of, h]; simp
theorem mir_twice (c : Int) : mir (mir c) = c := by
  refine all_mrs (Q := fun c => mir (mir c) = c) (fun c h => ?_) (by decide +kernel) c
  rw [mir_none h, mir_none h]
theorem pln_mir (c : Int) : pln (mir c) = pln c := by
  rw [pln, pln, mir_twice]; omega
theorem pln_twice (c : Int) : pln (pln c) = pln c := by
  have h : pln c = c ∨ pln c = mir c := by unfold pln; omega
  rcases h with h | h
  · rw [h, h]
  · rw [h, pln_mir, h]

theorem brs_or (c : Int) : othL brs c = (0, false, false) ∨ ∃ p ∈ brs, c = p.1 ∨ c = p.2 := by
  by_cases h : ∀ p ∈ brs, c ≠ p.1 ∧ c ≠ p.2
  · exact .inl (othL_none _ _ h)
  · refine .inr ?_
    false_or_by_contra
    rename_i hn
    exact h fun p hp => ⟨fun e => hn ⟨p, hp, .inl e⟩, fun e => hn ⟨p, hp, .inr e⟩⟩
theorem all_brs {Q : Int → Prop} (h0 : ∀ c, othL brs c = (0, false, false) → Q c) (h1 : ∀ p ∈ brs, Q p.1 ∧ Q p.2) (c : Int) : Q c := by
  rcases brs_or c with h | ⟨p, hp, rfl | rfl⟩
  · exact h0 c h
  · exact (h1 p hp).1
  · exact (h1 p hp).2
/-- of a bracket: its other one's other one is it, one of both opens, it is mirrored into it, and it is another bracket -/
theorem oth_facts (c : Int) (h : isB c = true) : (oth (oth c).1).2.2 = true ∧ (oth (oth c).1).1 = c ∧ ((oth c).2.1 != (oth (oth c).1).2.1) = true ∧ mir c = (oth c).1 ∧ sameB c c = true ∧ sameB c (oth c).1 = false := by
  revert h
  refine all_brs (Q := fun c => isB c = true → (oth (oth c).1).2.2 = true ∧ (oth (oth c).1).1 = c ∧ ((oth c).2.1 != (oth (oth c).1).2.1) = true ∧ mir c = (oth c).1 ∧ sameB c c = true ∧ sameB c (oth c).1 = false) (fun c h hb => ?_) (by decide +kernel) c
  rw [isB, oth, h] at hb
  cases hb
theorem isB_asB (c : Int) : isB (asB c) = isB c := by
  by_cases h1 : c = 9001
  · subst h1; decide +kernel
  by_cases h2 : c = 9002
  · subst h2; decide +kernel
  rw [asB, if_neg h1, if_neg h2]
theorem isB_of {a b : Int} (h : asB a = asB b) : isB a = isB b := by rw [← isB_asB a, ← isB_asB b, h]
theorem sameB_both (a b : Int) : (isB a && isB b && (asB a == asB b)) = sameB a b := by
  unfold sameB
  by_cases h : asB a = asB b
  · rw [isB_of h]; simp
  · have : (asB a == asB b) = false := by simp [h]
    rw [this]; simp
theorem sameB_iff {a b : Int} : sameB a b = true ↔ isB a = true ∧ asB a = asB b := by simp [sameB]
theorem sameB_symm (a b : Int) : sameB a b = sameB b a := by
  rw [Bool.eq_iff_iff, sameB_iff, sameB_iff]
  exact ⟨fun ⟨h, e⟩ => ⟨by rw [← isB_of e]; exact h, e.symm⟩, fun ⟨h, e⟩ => ⟨by rw [← isB_of e]; exact h, e.symm⟩⟩
theorem sameB_self (a : Int) : sameB a a = isB a := by simp [sameB]
theorem sameB_trans {a b c : Int} (h : sameB a b = true) (h' : sameB b c = true) : sameB a c = true := by
  rw [sameB_iff] at *
  exact ⟨h.1, h.2.trans h'.2⟩
theorem same_facts : ∀ p ∈ brs, ∀ q ∈ brs, ∀ a ∈ [p.1, p.2], ∀ b ∈ [q.1, q.2], sameB a b = true → (oth a).2.1 = (oth b).2.1 ∧ sameB (oth a).1 (oth b).1 = true := by decide +kernel
theorem same_others {a b : Int} (h : sameB a b = true) : (oth a).2.1 = (oth b).2.1 ∧ sameB (oth a).1 (oth b).1 = true := by
  have ha := (sameB_iff.1 h).1
  have hb : isB b = true := by rw [← isB_of (sameB_iff.1 h).2]; exact ha
  rcases brs_or a with h0 | ⟨p, hp, h0⟩
  · rw [isB, oth, h0] at ha; cases ha
  rcases brs_or b with h1 | ⟨q, hq, h1⟩
  · rw [isB, oth, h1] at hb; cases hb
  exact same_facts p hp q hq a (by simpa using h0) b (by simpa using h1) h
end Go.Proofs.Ytoiolgpbecgfkaa
