/- Layer 10: pairs in the order of their ends, plainly; sorted, they are the document's. -/
import Derived.Test.YtoiolgpbecgfkaaBrD
namespace Go.Proofs.Ytoiolgpbecgfkaa
open Go.RowKit

/-- pairs as they end -/
def rawS (chars classes : List Int) (st : PS) (i : Nat) : PS :=
  if st.ended then st
  else if (oth (cAt chars i)).2.2 = false ∨ cAt classes i ≠ 13 then st
  else if (oth (cAt chars i)).2.1 then (if st.waits.length = 63 then { st with ended := true } else { st with waits := i :: st.waits })
  else match findW chars (oth (cAt chars i)).1 st.waits with
    | none => st
    | some (w, ws) => { st with out := st.out ++ [((w : Int), (i : Int))], waits := ws }
def rawN (chars classes : List Int) : Nat → PS
  | 0 => ⟨[], [], false⟩
  | k + 1 => rawS chars classes (rawN chars classes k) k
theorem putP_perm (L : List (Int × Int)) (p : Int × Int) : (putP L p).Perm (L ++ [p]) := by
  unfold putP
  rw [List.append_assoc]
  refine (List.perm_append_comm.append_left _).trans ?_
  rw [← List.append_assoc, List.take_append_drop]
theorem raw_like (chars classes : List Int) : ∀ k, (rawN chars classes k).waits = (pairsN chars classes k).waits ∧ (rawN chars classes k).ended = (pairsN chars classes k).ended ∧ (rawN chars classes k).out.Perm (pairsN chars classes k).out := by
  intro k
  induction k with
  | zero => exact ⟨rfl, rfl, List.Perm.refl _⟩
  | succ k ih =>
    rw [rawN, pairsN]
    generalize rawN chars classes k = a at *
    generalize pairsN chars classes k = b at *
    obtain ⟨o1, w1, e1⟩ := a
    obtain ⟨o2, w2, e2⟩ := b
    obtain ⟨rfl, rfl, h3⟩ := ih
    unfold rawS pStep
    dsimp only
    split
    · exact ⟨rfl, rfl, h3⟩
    · split
      · exact ⟨rfl, rfl, h3⟩
      · split
        · split
          · exact ⟨rfl, rfl, h3⟩
          · exact ⟨rfl, rfl, h3⟩
        · cases findW chars (oth (cAt chars k)).1 w1 with
          | none => exact ⟨rfl, rfl, h3⟩
          | some q => exact ⟨rfl, rfl, (h3.append_right _).trans (putP_perm _ _).symm⟩
theorem raw_ended (chars classes : List Int) : ∀ d k, (rawN chars classes k).ended = true → rawN chars classes (k + d) = rawN chars classes k := by
  intro d
  induction d with
  | zero => intro k _; rfl
  | succ d ih =>
    intro k h
    rw [show k + (d + 1) = k + d + 1 by omega, rawN, ih k h, rawS, if_pos h]
/-- one bracket opens each pair -/
theorem rises_of (chars classes : List Int) (k : Nat) : (pairsN chars classes k).out.Pairwise (fun p q => p.1 < q.1) := (pinv chars classes k).order.imp fun h => h.1
theorem same_first {L : List (Int × Int)} (h : L.Pairwise (fun p q => p.1 < q.1)) {a b : Int × Int} (ha : a ∈ L) (hb : b ∈ L) (he : a.1 = b.1) : a = b := by
  obtain ⟨i, hi, rfl⟩ := List.mem_iff_getElem.1 ha
  obtain ⟨j, hj, rfl⟩ := List.mem_iff_getElem.1 hb
  have hp := List.pairwise_iff_getElem.1 h
  rcases Nat.lt_trichotomy i j with hij | hij | hij
  · have := hp i j hi hj hij; omega
  · subst hij; rfl
  · have := hp j i hj hi hij; omega
/-- what is sorted by the first places is the document's -/
theorem sorted_is (chars classes : List Int) (k : Nat) (L : List (Int × Int)) (hp : L.Perm (rawN chars classes k).out) (hs : L.Pairwise (fun p q => p.1 ≤ q.1)) : L = (pairsN chars classes k).out := by
  have h1 := hp.trans (raw_like chars classes k).2.2
  have hr := rises_of chars classes k
  refine List.Perm.eq_of_pairwise (le := fun p q : Int × Int => p.1 ≤ q.1) (fun a b ha hb hab hba => ?_) hs (hr.imp fun h => Int.le_of_lt h) h1
  exact same_first hr (h1.mem_iff.1 ha) hb (by omega)
theorem raw_le (chars classes : List Int) (k : Nat) : (rawN chars classes k).out.length ≤ k ∧ (rawN chars classes k).waits.length ≤ k := by
  obtain ⟨h1, _, h3⟩ := raw_like chars classes k
  have := pairs_le chars classes k
  rw [h1, h3.length_eq]
  exact this
/-- as many wait as may -/
theorem raw_waits (chars classes : List Int) : ∀ k, (rawN chars classes k).waits.length ≤ 63 := by
  intro k
  induction k with
  | zero => exact Nat.zero_le _
  | succ k ih =>
    rw [rawN]
    generalize rawN chars classes k = st at *
    unfold rawS
    split
    · exact ih
    · split
      · exact ih
      · split
        · split
          · exact ih
          · simp only [List.length_cons]; omega
        · split
          · exact ih
          · rename_i w ws hf
            have hw : ∀ W : List Nat, ∀ w ws, findW chars (oth (cAt chars k)).1 W = some (w, ws) → ws.length ≤ W.length := by
              intro W
              induction W with
              | nil => intro w ws h; cases h
              | cons v W ih =>
                intro w ws h
                unfold findW at h
                split at h
                · injection h with h; injection h with h3 h4; subst h4; simp
                · have := ih w ws h; simp; omega
            have := hw _ w ws hf
            show ws.length ≤ 63
            omega
end Go.Proofs.Ytoiolgpbecgfkaa
