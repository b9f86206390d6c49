/- Layer 8: plain facts for the laws: how many sequences there are, how long they are. -/
import Derived.Test.YtajgjloailliiaaSqV
namespace Go.Proofs.Ytajgjloailliiaa
open Go.RowKit

theorem seqsN_mem (cl lv m : List Int) (base : Int) (L : List (List Int)) : ∀ k, k ≤ L.length → ∀ s ∈ seqsN cl lv m base L k, ∃ i, i < k ∧ goneN cl m L L.length i = false ∧ s = sqOf cl lv base (chainI cl m L i) := by
  intro k
  induction k with
  | zero => intro _ s hs; simp [seqsN] at hs
  | succ k ih =>
    intro hk s hs
    rw [seqsN] at hs
    cases hg : goneN cl m L L.length k with
    | true =>
      rw [hg, if_pos rfl] at hs
      obtain ⟨i, h1, h2⟩ := ih (by omega) s hs
      exact ⟨i, by omega, h2⟩
    | false =>
      rw [hg, if_neg (by simp)] at hs
      rcases List.mem_append.1 hs with h1 | h1
      · obtain ⟨i, h1, h2⟩ := ih (by omega) s h1
        exact ⟨i, by omega, h2⟩
      · exact ⟨k, by omega, hg, List.mem_singleton.1 h1⟩
theorem seqs_small (cl lv : List Int) (base : Int) : (seqsI cl lv base).length ≤ cl.length ∧ ∀ s ∈ seqsI cl lv base, s.pl.length ≤ cl.length * cl.length := by
  have h1 := listsI_le cl lv
  refine ⟨Nat.le_trans (seqsN_le _ _ _ _ _ _) h1.1, fun s hs => ?_⟩
  obtain ⟨i, hi, _, rfl⟩ := seqsN_mem _ _ _ _ _ _ (Nat.le_refl _) s hs
  have h2 := chainI_len (onward_I cl lv) (B := cl.length) h1.2 ((listsI cl lv).length - i) i hi (Nat.le_refl _)
  exact Nat.le_trans h2 (Nat.mul_le_mul_right _ (by omega))
theorem seqs_small300 {cl lv : List Int} {base : Int} (h : cl.length ≤ 300) : (seqsI cl lv base).length ≤ 1000000 ∧ ∀ s ∈ seqsI cl lv base, s.pl.length ≤ 1000000 := by
  obtain ⟨h1, h2⟩ := seqs_small cl lv base
  refine ⟨by omega, fun s hs => Nat.le_trans (h2 s hs) ?_⟩
  have : cl.length * cl.length ≤ 300 * 300 := Nat.mul_le_mul h h
  omega
theorem seqs_wf {cl lv : List Int} {base : Int} (h : cl.length ≤ 300) : ∀ s ∈ seqsI cl lv base, ∀ x ∈ s.pl, (Lit.int .i64 x).wf = true := by
  intro s hs x hx
  obtain ⟨i, hi, _, rfl⟩ := seqsN_mem _ _ _ _ _ _ (Nat.le_refl _) s hs
  obtain ⟨q, rfl, hq⟩ := chainI_in (onward_I cl lv) (within_I cl lv) _ i hi (Nat.le_refl _) x hx
  exact WalkArith.wf_i64 (by omega)
end Go.Proofs.Ytajgjloailliiaa
