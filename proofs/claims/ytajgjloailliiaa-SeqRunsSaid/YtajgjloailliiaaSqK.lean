/- Layer 8: plain facts of runs: each of one level, one behind the other, unlike where they touch. -/
import Derived.Test.YtajgjloailliiaaSqJ
namespace Go.Proofs.Ytajgjloailliiaa
open Go.RowKit

/-- what holds of run i, that begins at a and ends at b, behind the place z (-1: none) -/
structure RunOk (cl lv : List Int) (i : Nat) (a b : Nat) (z : Int) : Prop where
  az : z < a
  ab : a ≤ b
  bn : b < cl.length
  ao : isOut (at0 cl a) = false
  bo : isOut (at0 cl b) = false
  gap : ∀ k : Nat, z < k → k < a → isOut (at0 cl k) = true
  own : ∀ k : Nat, a ≤ k → k ≤ b → isOut (at0 cl k) = false → at0 lv k = at0 lv a ∧ (at0 cl k = 10 → k = b)
  touch : 0 < i → ∃ y : Nat, z = (y : Int) ∧ y < cl.length ∧ (at0 lv y ≠ at0 lv a ∨ at0 cl y = 10)
  first : i = 0 → z = -1
theorem run_ok {cl lv : List Int} (he : cl.length = lv.length) {i : Nat} (hi : i < (listsI cl lv).length) :
    ∃ a b : Nat, headI (listsI cl lv)[i] = a ∧ lastI (listsI cl lv)[i] = b ∧ RunOk cl lv i a b (if h : 0 < i then lastI ((listsI cl lv)[i - 1]'(by omega)) else -1) := by
  obtain ⟨u, h⟩ := split_I he
  obtain ⟨ha, e1⟩ := h.head hi
  obtain ⟨hb, e2⟩ := h.last hi
  have hlt := h.lt (i := i) (j := i + 1) (by omega) (by omega)
  obtain ⟨a1, a2⟩ := seenQ_at cl ha
  obtain ⟨b1, b2⟩ := seenQ_at cl hb
  have hab : (seenQ cl)[u i] ≤ (seenQ cl)[u (i + 1) - 1] := by
    rcases Nat.lt_or_ge (u i) (u (i + 1) - 1) with hh | hh
    · exact Nat.le_of_lt (seenQ_sorted cl hh hb)
    · have : u i = u (i + 1) - 1 := by omega
      simp only [← this]; exact Nat.le_refl _
  have own : ∀ k : Nat, (seenQ cl)[u i] ≤ k → k ≤ (seenQ cl)[u (i + 1) - 1] → isOut (at0 cl k) = false → at0 lv k = at0 lv (seenQ cl)[u i] ∧ (at0 cl k = 10 → k = (seenQ cl)[u (i + 1) - 1]) := by
    intro k hk1 hk2 hko
    obtain ⟨x, hx, rfl⟩ := seenQ_num (by omega) hko
    have x1 := seenQ_le cl ha hx hk1
    have x2 := seenQ_le cl hx hb hk2
    have hl := run_level h hi (x - u i) (by omega) (by omega) ha
    simp only [show u i + (x - u i) = x by omega] at hl
    refine ⟨hl, fun h10 => ?_⟩
    rcases Nat.lt_or_ge x (u (i + 1) - 1) with hh | hh
    · have h2 := h.stale i hi (x + 1) (by omega) (by omega)
      rw [fresh_eq (by omega) (by omega)] at h2
      simp only [Nat.add_sub_cancel, h10, beq_self_eq_true, Bool.or_true] at h2
      cases h2
    · have : x = u (i + 1) - 1 := by omega
      simp only [this]
  refine ⟨_, _, e1, e2, ?_⟩
  by_cases h0 : 0 < i
  · rw [dif_pos h0]
    obtain ⟨hc, e3⟩ := h.last (j := i - 1) (by omega)
    simp only [show i - 1 + 1 = i by omega] at hc e3
    have hup : 0 < u i := by have := h.lt (i := 0) (j := i) h0 (by omega); omega
    rw [e3]
    refine ⟨?_, hab, b1, a2, b2, fun k hk1 hk2 => ?_, own, fun _ => ⟨_, rfl, (seenQ_at cl hc).1, ?_⟩, fun hh => absurd hh (by omega)⟩
    · have := seenQ_sorted cl (i := u i - 1) (j := u i) (by omega) ha; omega
    · cases hko : isOut (at0 cl k) with
      | true => rfl
      | false =>
        obtain ⟨x, hx, rfl⟩ := seenQ_num (by omega) hko
        have x1 := seenQ_lt cl hc hx (by omega)
        have x2 := seenQ_lt cl hx ha (by omega)
        omega
    · have h2 := h.fresh i hi
      rw [fresh_eq hup ha] at h2
      simp only [Bool.or_eq_true, bne_iff_ne, beq_iff_eq] at h2
      rcases h2 with h2 | h2
      · exact .inl (fun e => h2 e.symm)
      · exact .inr h2
  · rw [dif_neg h0]
    have hz : i = 0 := by omega
    subst hz
    refine ⟨by omega, hab, b1, a2, b2, fun k hk1 hk2 => ?_, own, fun hh => absurd hh (by omega), fun _ => rfl⟩
    cases hko : isOut (at0 cl k) with
    | true => rfl
    | false =>
      obtain ⟨x, hx, rfl⟩ := seenQ_num (by omega) hko
      have x2 := seenQ_lt cl hx ha (by omega)
      have := h.zero
      omega
end Go.Proofs.Ytajgjloailliiaa
