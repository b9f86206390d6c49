/- Layer 7: plain facts of what is kept, and what is left out. -/
import Derived.Test.YtdblpcfbhhgfdaaStA
namespace Go.Proofs.Ytdblpcfbhhgfdaa
open Go.RowKit

theorem chars_split (l : List Int) : (charsI l).length + (onlyI l).length = l.length := by
  induction l with
  | nil => rfl
  | cons x l ih =>
    unfold charsI onlyI at *
    cases h : outC x <;> simp [h] <;> omega
theorem chars_chars (l : List Int) : charsI (charsI l) = charsI l := by
  unfold charsI; rw [List.filter_filter]; congr 1; funext c; simp
theorem only_chars (l : List Int) : onlyI (charsI l) = [] := by
  unfold onlyI charsI; rw [List.filter_filter, List.filter_eq_nil_iff]; intro c _; simp
theorem chars_only (l : List Int) : charsI (onlyI l) = [] := by
  unfold onlyI charsI; rw [List.filter_filter, List.filter_eq_nil_iff]; intro c _; simp
theorem chars_append (a b : List Int) : charsI (a ++ b) = charsI a ++ charsI b := by unfold charsI; rw [List.filter_append]
theorem rank_take (l : List Int) (k : Nat) : rankI l (k : Int) = (charsI (l.take k)).length := by unfold rankI; rw [Int.toNat_natCast]
theorem rank_neg (l : List Int) : rankI l (-1) = 0 := rfl
theorem rank_append (a b : List Int) : rankI (a ++ b) (a.length : Int) = (charsI a).length := by
  rw [rank_take, List.take_append_of_le_length (Nat.le_refl _), List.take_length]
theorem kept_facts (l : List Int) : ∀ k, k ≤ l.length → (keptN l k).length = (charsI (l.take k)).length ∧
    ∀ j (h : j < (keptN l k).length), ∃ q : Nat, (keptN l k)[j] = (q : Int) ∧ q < k ∧ (charsI (l.take q)).length = j ∧ (charsI (l.take k))[j]? = l[q]? ∧ ∀ j' (h' : j' < j), (keptN l k)[j'] < (q : Int) := by
  intro k
  induction k with
  | zero => intro _; exact ⟨by simp [keptN, charsI], fun j h => by simp [keptN] at h⟩
  | succ k ih =>
    intro hk
    obtain ⟨h1, h2⟩ := ih (by omega)
    have hs := keptN_succ l k (by omega)
    have hc := chars_succ l k (by omega)
    cases ho : outC (l[k]'(by omega)) with
    | true =>
      rw [ho, if_pos rfl] at hs hc
      refine ⟨by rw [hs, hc]; exact h1, fun j h => ?_⟩
      have h' : j < (keptN l k).length := by rw [← hs]; exact h
      obtain ⟨q, q1, q2, q3, q4, q5⟩ := h2 j h'
      refine ⟨q, ?_, by omega, q3, by rw [hc]; exact q4, fun j' hj => ?_⟩
      · simp only [hs]; exact q1
      · simp only [hs]; exact q5 j' hj
    | false =>
      rw [ho, if_neg (by simp)] at hs hc
      refine ⟨by rw [hs, hc]; simp [h1], fun j h => ?_⟩
      have hl : (keptN l (k + 1)).length = (keptN l k).length + 1 := by rw [hs]; simp
      by_cases hj : j < (keptN l k).length
      · obtain ⟨q, q1, q2, q3, q4, q5⟩ := h2 j hj
        refine ⟨q, ?_, by omega, q3, ?_, fun j' hj' => ?_⟩
        · simp only [hs]; rw [List.getElem_append_left hj]; exact q1
        · rw [hc, List.getElem?_append_left (by omega)]; exact q4
        · simp only [hs]; rw [List.getElem_append_left (by omega)]; exact q5 j' hj'
      · have hje : j = (keptN l k).length := by omega
        subst hje
        refine ⟨k, ?_, by omega, h1.symm, ?_, fun j' hj' => ?_⟩
        · simp only [hs]; rw [List.getElem_append_right (Nat.le_refl _)]; simp
        · rw [hc, List.getElem?_append_right (by omega), h1, Nat.sub_self, List.getElem?_cons_zero, List.getElem?_eq_getElem (by omega)]
        · simp only [hs]; rw [List.getElem_append_left hj']
          obtain ⟨q, q1, q2, _⟩ := h2 j' hj'
          rw [q1]; omega
theorem kept_len (l : List Int) : (keptI l).length = (charsI l).length := by
  have := (kept_facts l l.length (Nat.le_refl _)).1
  rw [List.take_length] at this; exact this
/-- each place that is kept: whose it is, how many are kept ahead, rising -/
theorem kept_at (l : List Int) (j : Nat) (h : j < (keptI l).length) (h' : j < (charsI l).length) : ∃ (q : Nat) (hq : q < l.length), (keptI l)[j] = (q : Int) ∧ l[q] = (charsI l)[j] ∧ rankI l (q : Int) = j ∧ ∀ j' (hj : j' < j), (keptI l)[j'] < (q : Int) := by
  obtain ⟨q, q1, q2, q3, q4, q5⟩ := (kept_facts l l.length (Nat.le_refl _)).2 j h
  rw [List.take_length, List.getElem?_eq_getElem h', List.getElem?_eq_getElem q2] at q4
  exact ⟨q, q2, q1, (Option.some.inj q4).symm, by rw [rank_take]; exact q3, q5⟩
/-- one place on it is one more at most -/
theorem rank_step (l : List Int) (k : Nat) : rankI l (k : Int) ≤ rankI l ((k + 1 : Nat) : Int) ∧ rankI l ((k + 1 : Nat) : Int) ≤ rankI l (k : Int) + 1 := by
  rw [rank_take, rank_take]
  by_cases h : k < l.length
  · rw [chars_succ l k h]
    split
    · omega
    · rw [List.length_append]; simp
  · rw [List.take_of_length_le (by omega), List.take_of_length_le (by omega)]; omega
end Go.Proofs.Ytdblpcfbhhgfdaa
