/- Layer 8: the document's Lists: each run's places. -/
import Derived.Test.YtajgjloailliiaaSqA
import Derived.Test.YtajgjloailliiaaNest
import Derived.Test.YtajgjloailliiaaHeld
import Derived.Test.YtajgjloailliiaaReg
import Derived.Test.YtajgjloailliiaaSlc
import Derived.Deep.RegionHeld3
namespace Go.Proofs.Ytajgjloailliiaa
open Go.RowKit

/-- the last list has one more -/
def addLast (L : List (List Int)) (p : Int) : List (List Int) := L.set (L.length - 1) (L.getD (L.length - 1) [] ++ [p])
/-- does a run begin at place k of those that are looked at? -/
def freshAt (cl lv s : List Int) (k : Nat) : Bool := k == 0 || (lv.getD (s.getD k 0).toNat 0 != lv.getD (s.getD (k - 1) 0).toNat 0 || cl.getD (s.getD (k - 1) 0).toNat 0 == 10)
def listsN (cl lv s : List Int) : Nat → List (List Int)
  | 0 => []
  | k + 1 => addLast (if freshAt cl lv s k then listsN cl lv s k ++ [[]] else listsN cl lv s k) (s.getD k 0)
def listsI (cl lv : List Int) : List (List Int) := if cl.length = lv.length then listsN cl lv (seenI cl) (seenI cl).length else []
theorem addLast_length (L : List (List Int)) (p : Int) : (addLast L p).length = L.length := by simp [addLast]
theorem listsN_le (cl lv s : List Int) : ∀ k, (listsN cl lv s k).length ≤ k ∧ (0 < k → 0 < (listsN cl lv s k).length) := by
  intro k
  induction k with
  | zero => exact ⟨by simp [listsN], fun h => absurd h (by omega)⟩
  | succ k ih =>
    rw [listsN, addLast_length]
    split
    · simp; omega
    · rename_i h
      refine ⟨by omega, fun _ => ih.2 ?_⟩
      cases k with
      | zero => simp [freshAt] at h
      | succ k => omega
/-- no list is longer than the places that were looked at -/
theorem addLast_mem {L : List (List Int)} {p : Int} {n : Nat} (h : ∀ l ∈ L, l.length ≤ n) : ∀ l ∈ addLast L p, l.length ≤ n + 1 := by
  intro l hl
  unfold addLast at hl
  obtain ⟨i, hi, rfl⟩ := List.mem_iff_getElem.1 hl
  rw [List.length_set] at hi
  by_cases he : L.length - 1 = i
  · subst he
    rw [List.getElem_set_self]
    have h2 : L.getD (L.length - 1) [] = L[L.length - 1] := by simp [hi]
    have := h _ (List.getElem_mem hi)
    rw [h2]; simp; omega
  · rw [List.getElem_set_ne he]
    have := h _ (List.getElem_mem hi)
    omega
theorem listsN_mem (cl lv s : List Int) : ∀ k, ∀ l ∈ listsN cl lv s k, l.length ≤ k := by
  intro k
  induction k with
  | zero => intro l hl; simp [listsN] at hl
  | succ k ih =>
    rw [listsN]
    refine addLast_mem ?_
    split
    · intro l hl
      rcases List.mem_append.1 hl with h | h
      · exact ih l h
      · rw [List.mem_singleton.1 h]; simp
    · exact ih
/-- each place that is looked at is one of the list's -/
theorem seenN_at (l : List Int) : ∀ k j (h : j < (seenN l k).length), ∃ q : Nat, (seenN l k)[j] = (q : Int) ∧ q < k := by
  intro k j h
  have hm : (seenN l k)[j] ∈ seenN l k := List.getElem_mem h
  unfold seenN at hm
  obtain ⟨q, hq, he⟩ := List.mem_map.1 hm
  have := List.mem_range.1 (List.mem_filter.1 hq).1
  exact ⟨q, he.symm, this⟩
end Go.Proofs.Ytajgjloailliiaa
