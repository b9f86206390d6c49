/- Shared texts, shaken for one claim. -/
import Derived.Test.YtadfleopbpomfaaZA3
import Derived.Test.YtadfleopbpomfaaZA14
namespace Go.Proofs.Ytadfleopbpomfaa
open Go.RowKit
def seenQ (l : List Int) : List Nat := (List.range l.length).filter fun i => !isOut (l.getD i 0)
theorem seenI_eq (l : List Int) : seenI l = (seenQ l).map fun (i : Nat) => (i : Int) := rfl
theorem seenI_length (l : List Int) : (seenI l).length = (seenQ l).length := by rw [seenI_eq, List.length_map]
theorem seenI_getD (l : List Int) (i : Nat) : (seenI l).getD i 0 = ((seenQ l).getD i 0 : Nat) := by
 rw [seenI_eq, List.getD_eq_getElem?_getD, List.getElem?_map, List.getD_eq_getElem?_getD]
 cases (seenQ l)[i]? <;> rfl
theorem seenQ_sorted (l : List Int) {i j : Nat} (h : i < j) (hj : j < (seenQ l).length) : (seenQ l)[i] < (seenQ l)[j] :=
 (List.pairwise_iff_getElem.1 (List.Pairwise.filter (fun i => !isOut (l.getD i 0)) List.pairwise_lt_range)) i j (by unfold seenQ at hj; omega) hj h
theorem seenQ_mem (l : List Int) (q : Nat) : q ∈ seenQ l ↔ q < l.length ∧ isOut (at0 l q) = false := by
 unfold seenQ at0
 rw [List.mem_filter, List.mem_range]
 simp
theorem seenQ_at (l : List Int) {i : Nat} (h : i < (seenQ l).length) : (seenQ l)[i] < l.length ∧ isOut (at0 l (seenQ l)[i]) = false := (seenQ_mem l _).1 (List.getElem_mem h)
theorem seenQ_lt (l : List Int) {i j : Nat} (hi : i < (seenQ l).length) (hj : j < (seenQ l).length) (h : (seenQ l)[i] < (seenQ l)[j]) : i < j := by
 apply Classical.byContradiction
 intro hn
 rcases Nat.lt_or_ge j i with h1 | h1
 ·have := seenQ_sorted l h1 hi; omega
 ·have : i = j := by omega
  subst this; omega
structure Split (cl lv s : List Int) (k : Nat) (L : List (List Int)) (u : Nat → Nat) : Prop where
 zero : u 0 = 0
 top : u L.length = k
 len : ∀ j (h : j < L.length), u (j + 1) = u j + L[j].length
 pos : ∀ j (h : j < L.length), 0 < L[j].length
 cell : ∀ j (h : j < L.length) t (_ : t < L[j].length), L[j][t] = s.getD (u j + t) 0
 fresh : ∀ j, j < L.length → freshAt cl lv s (u j) = true
 stale : ∀ j, j < L.length → ∀ x, u j < x → x < u (j + 1) → freshAt cl lv s x = false
theorem Split.le {cl lv s : List Int} {k : Nat} {L : List (List Int)} {u : Nat → Nat} (h : Split cl lv s k L u) : ∀ d j, j + d ≤ L.length → u j ≤ u (j + d) ∧ (0 < d → u j < u (j + d)) := by
 intro d
 induction d with
 | zero => intro j _; exact ⟨Nat.le_refl _, fun h => absurd h (by omega)⟩
 | succ d ih =>
  intro j hj
  have h1 := (ih j (by omega)).1
  have h2 := h.len (j + d) (by omega)
  have h3 := h.pos (j + d) (by omega)
  rw [show j + (d + 1) = j + d + 1 by omega]
  constructor <;> intros <;> omega
theorem Split.lt {cl lv s : List Int} {k : Nat} {L : List (List Int)} {u : Nat → Nat} (h : Split cl lv s k L u) {i j : Nat} (hij : i < j) (hj : j ≤ L.length) : u i < u j := by
 have := (h.le (j - i) i (by omega)).2 (by omega)
 rwa [show i + (j - i) = j by omega] at this
theorem Split.mono {cl lv s : List Int} {k : Nat} {L : List (List Int)} {u : Nat → Nat} (h : Split cl lv s k L u) {i j : Nat} (hij : i ≤ j) (hj : j ≤ L.length) : u i ≤ u j := by
 have := (h.le (j - i) i (by omega)).1
 rwa [show i + (j - i) = j by omega] at this
theorem addLast_push (L : List (List Int)) (p : Int) : addLast (L ++ [[]]) p = L ++ [[p]] := by
 unfold addLast
 simp
theorem addLast_last {L : List (List Int)} {p : Int} (h : 0 < L.length) (j : Nat) (hj : j < (addLast L p).length) (hj' : j < L.length) :
 (addLast L p)[j] = if j + 1 = L.length then L[j] ++ [p] else L[j] := by
 refine Option.some.inj ?_
 rw [← List.getElem?_eq_getElem hj]
 unfold addLast
 rw [List.getElem?_set]
 by_cases he : L.length - 1 = j
 ·rw [if_pos he, if_pos (by omega), if_pos (by omega)]
  subst he
  simp [hj']
 ·rw [if_neg he, if_neg (by omega), List.getElem?_eq_getElem hj']
theorem split_lists (cl lv s : List Int) : ∀ k, ∃ u, Split cl lv s k (listsN cl lv s k) u := by
 intro k
 induction k with
 | zero => exact ⟨fun _ => 0, rfl, rfl, fun j h => by simp [listsN] at h, fun j h => by simp [listsN] at h, fun j h => by simp [listsN] at h, fun j h => by simp [listsN] at h, fun j h => by simp [listsN] at h⟩
 | succ k ih =>
  obtain ⟨u, h⟩ := ih
  have hle := listsN_le cl lv s k
  obtain ⟨L, hL⟩ : ∃ L, listsN cl lv s k = L := ⟨_, rfl⟩
  rw [hL] at h hle
  cases hf : freshAt cl lv s k with
  | true =>
   have hr : listsN cl lv s (k + 1) = L ++ [[s.getD k 0]] := by rw [listsN, hf, if_pos rfl, hL, addLast_push]
   rw [hr]
   refine ⟨fun j => if j ≤ L.length then u j else k + 1, ?_, ?_, ?_, ?_, ?_, ?_, ?_⟩
   ·rw [if_pos (by omega)]; exact h.zero
   ·rw [List.length_append, List.length_singleton, if_neg (by omega)]
   ·intro j hj
    rw [List.length_append, List.length_singleton] at hj
    by_cases h1 : j < L.length
    ·rw [if_pos (by omega), if_pos (by omega), List.getElem_append_left h1]; exact h.len j h1
    ·obtain rfl : j = L.length := by omega
     rw [if_neg (by omega), if_pos (Nat.le_refl _), List.getElem_append_right (Nat.le_refl _), h.top]
     simp
   ·intro j hj
    rw [List.length_append, List.length_singleton] at hj
    by_cases h1 : j < L.length
    ·rw [List.getElem_append_left h1]; exact h.pos j h1
    ·obtain rfl : j = L.length := by omega
     rw [List.getElem_append_right (Nat.le_refl _)]
     simp
   ·intro j hj t ht
    rw [List.length_append, List.length_singleton] at hj
    by_cases h1 : j < L.length
    ·simp only [List.getElem_append_left h1, show j ≤ L.length by omega, if_true] at ht ⊢; exact h.cell j h1 t ht
    ·obtain rfl : j = L.length := by omega
     simp only [List.getElem_append_right (Nat.le_refl _), Nat.sub_self, List.getElem_cons_zero, List.length_singleton] at ht ⊢
     obtain rfl : t = 0 := by omega
     simp [h.top]
   ·intro j hj
    rw [List.length_append, List.length_singleton] at hj
    rw [if_pos (by omega)]
    by_cases h1 : j < L.length
    ·exact h.fresh j h1
    ·obtain rfl : j = L.length := by omega
     rw [h.top]; exact hf
   ·intro j hj x hx hx2
    rw [List.length_append, List.length_singleton] at hj
    rw [if_pos (by omega)] at hx
    by_cases h1 : j < L.length
    ·rw [if_pos (by omega)] at hx2
     exact h.stale j h1 x hx hx2
    ·obtain rfl : j = L.length := by omega
     rw [if_neg (by omega)] at hx2
     rw [h.top] at hx
     omega
  | false =>
   have hk0 : 0 < k := by
    rcases Nat.eq_zero_or_pos k with h0 | h0
    ·subst h0; simp [freshAt] at hf
    ·exact h0
   have hpos := hle.2 hk0
   have hr : listsN cl lv s (k + 1) = addLast L (s.getD k 0) := by rw [listsN, hf, hL]; rfl
   rw [hr]
   have hml : (addLast L (s.getD k 0)).length = L.length := addLast_length _ _
   have hut : u L.length = k := h.top
   refine ⟨fun j => if j < L.length then u j else k + 1, ?_, ?_, ?_, ?_, ?_, ?_, ?_⟩
   ·rw [if_pos hpos]; exact h.zero
   ·rw [hml]; simp
   ·intro j hj
    have hj' : j < L.length := by omega
    rw [addLast_last hpos j hj hj', if_pos hj']
    by_cases h1 : j + 1 = L.length
    ·rw [if_neg (by omega), if_pos h1, List.length_append, List.length_singleton]
     have := h.len j hj'
     rw [h1, hut] at this
     omega
    ·rw [if_pos (by omega), if_neg h1]; exact h.len j hj'
   ·intro j hj
    have hj' : j < L.length := by omega
    rw [addLast_last hpos j hj hj']
    have := h.pos j hj'
    split
    ·rw [List.length_append]; omega
    ·exact this
   ·intro j hj t ht
    have hj' : j < L.length := by omega
    rw [if_pos hj']
    have he := addLast_last (p := s.getD k 0) hpos j hj hj'
    have hln : (addLast L (s.getD k 0))[j].length = if j + 1 = L.length then L[j].length + 1 else L[j].length := by
     rw [he]; split <;> simp
    rw [hln] at ht
    have hg : (addLast L (s.getD k 0))[j][t]? = some (s.getD (u j + t) 0) := by
     rw [he]
     by_cases h1 : j + 1 = L.length
     ·rw [if_pos h1] at ht
      rw [if_pos h1]
      by_cases h2 : t < L[j].length
      ·rw [List.getElem?_append_left h2, List.getElem?_eq_getElem h2, h.cell j hj' t h2]
      ·have h3 : t = L[j].length := by omega
       have h4 := h.len j hj'
       rw [h1, hut] at h4
       rw [List.getElem?_append_right (by omega), h3, Nat.sub_self, ← h4]; rfl
     ·rw [if_neg h1] at ht
      rw [if_neg h1, List.getElem?_eq_getElem ht, h.cell j hj' t ht]
    exact Option.some.inj (by rw [← hg, List.getElem?_eq_getElem (by rw [hln]; exact ht)])
   ·intro j hj
    have hj' : j < L.length := by omega
    rw [if_pos hj']
    exact h.fresh j hj'
   ·intro j hj x hx hx2
    have hj' : j < L.length := by omega
    rw [if_pos hj'] at hx
    by_cases h1 : j + 1 = L.length
    ·rw [if_neg (by omega)] at hx2
     rcases Nat.lt_or_ge x k with h2 | h2
     ·exact h.stale j hj' x hx (by rw [h1, hut]; exact h2)
     ·obtain rfl : x = k := by omega
      exact hf
    ·rw [if_pos (by omega)] at hx2
     exact h.stale j hj' x hx hx2
end Go.Proofs.Ytadfleopbpomfaa
