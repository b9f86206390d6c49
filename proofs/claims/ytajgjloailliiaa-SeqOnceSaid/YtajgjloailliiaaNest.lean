/- Rows of rows ([][]T): an outer row of slices of one's own, whose rows share no block. -/
import Derived.Test.YtajgjloailliiaaWide
import Derived.Test.YtajgjloailliiaaCells
namespace Go.Proofs.Ytajgjloailliiaa
open Go.RowKit

theorem Own.asN {w : World} {B : Nat} {e : TypeId} {v : Value} {xs : List Value} (h : Own w B e v xs) : OwnN w B e 1 v xs.length xs := h
/-- rows of unlike elements share no block -/
theorem Own.unlike {w : World} {B B' : Nat} {e e' : TypeId} {v v' : Value} {xs xs' : List Value} (h : Own w B e v xs) (h' : Own w B' e' v' xs') (he : e ≠ e') : v.ownBlock = none ∨ v.ownBlock ≠ v'.ownBlock :=
  OwnN.unlike h.asN h'.asN he
theorem Own.store {w : World} {B : Nat} {e : TypeId} {g c : Nat} {xs : List Value} (h : Row w B e g c xs) (j : Nat) (u : Value) : Row (w.setCell ⟨g, j, none⟩ u) B e g c (xs.set j u) := h.set j u

/-- v is an outer row (elements of type eo) of the slices es; slice j is a row of its own (elements of type ei) that holds L[j]; no two share a block -/
structure Nest (w : World) (B : Nat) (eo ei : TypeId) (v : Value) (es : List Value) (L : List (List Value)) : Prop where
  outer : Own w B eo v es
  len : es.length = L.length
  inner : ∀ (j : Nat) (h1 : j < es.length) (h2 : j < L.length), Own w B ei es[j] L[j]
  apart : ∀ (i j : Nat) (hi : i < es.length) (hj : j < es.length), i ≠ j → Apart es[i] es[j]
section
variable {w w' w'' : World} {B : Nat} {eo ei : TypeId} {v : Value} {es : List Value} {L : List (List Value)}
theorem Nest.empty (w : World) (B : Nat) (eo ei : TypeId) : Nest w B eo ei (.slice none 0 0) [] [] :=
  ⟨Own.empty _ _ _, rfl, fun j h => by simp at h, fun i j h => by simp at h⟩
theorem Nest.below (h : Nest w B eo ei v es L) {C : Nat} (hb : Below C w w') (hC : w.heap.size ≤ C) : Nest w' B eo ei v es L :=
  ⟨h.outer.below hb hC, h.len, fun j h1 h2 => (h.inner j h1 h2).below hb hC, h.apart⟩
theorem Nest.alloc (h : Nest w B eo ei v es L) (o : Obj) : Nest (w.alloc o) B eo ei v es L := h.below (below_alloc w o) (Nat.le_refl _)
/-- no inner row lies in the outer one's block -/
theorem Nest.far (h : Nest w B eo ei v es L) (he : eo ≠ ei) (j : Nat) (h1 : j < es.length) : es[j].ownBlock = none ∨ es[j].ownBlock ≠ v.ownBlock :=
  (h.inner j h1 (by rw [← h.len]; exact h1)).unlike h.outer he.symm
/-- the outer row has one more, which is nil -/
theorem Nest.pushNil {v' : Value} (h : Nest w B eo ei v es L) (he : eo ≠ ei) (ho : Own w' B eo v' (es ++ [.slice none 0 0])) (hg : w.grownBy w' v.ownBlock) : Nest w' B eo ei v' (es ++ [.slice none 0 0]) (L ++ [[]]) := by
  have hl := h.len
  refine ⟨ho, by simp [hl], fun j h1 h2 => ?_, fun i j hi hj hij => ?_⟩
  · by_cases hj : j < es.length
    · rw [List.getElem_append_left hj, List.getElem_append_left (by omega)]
      exact (h.inner j hj (by omega)).keep hg (h.far he j hj)
    · have : j = es.length := by simp at h1; omega
      subst this
      rw [List.getElem_append_right (Nat.le_refl _), List.getElem_append_right (by omega)]
      simp only [Nat.sub_self, List.getElem_cons_zero, hl]
      exact Own.empty _ _ _
  · by_cases h1 : i < es.length
    · rw [List.getElem_append_left h1]
      by_cases h2 : j < es.length
      · rw [List.getElem_append_left h2]; exact h.apart i j h1 h2 hij
      · rw [List.getElem_append_right (by omega)]
        have : j - es.length = 0 := by simp at hj; omega
        simp only [this, List.getElem_cons_zero]
        exact Apart.nil_right
    · rw [List.getElem_append_right (by omega)]
      have : i - es.length = 0 := by simp at hi; omega
      simp only [this, List.getElem_cons_zero]
      exact Apart.nil_left
/-- inner row j has grown (in place, or into a new block), and is stored anew in the outer one -/
theorem Nest.grow {g c : Nat} {u : Value} {xs : List Value} (h : Nest w B eo ei (.slice (some ⟨g, 0, none⟩) es.length c) es L) (he : eo ≠ ei) {j : Nat} (hj : j < es.length)
    (hu : Own w' B ei u xs) (hg : w.grownBy w' es[j].ownBlock) (hn : u.ownBlock = es[j].ownBlock ∨ ∃ q, u.ownBlock = some q ∧ w.heap.size ≤ q)
    (ho : Own w'' B eo (.slice (some ⟨g, 0, none⟩) (es.set j u).length c) (es.set j u)) (hg2 : w'.grownBy w'' (some g)) :
    Nest w'' B eo ei (.slice (some ⟨g, 0, none⟩) (es.set j u).length c) (es.set j u) (L.set j xs) := by
  have hl := h.len
  have hgin : g < w.heap.size := (h.outer.inside g rfl).2
  have hug : u.ownBlock ≠ some g := by
    rcases hn with hn | ⟨q, hn, hq⟩
    · rw [hn]
      rcases h.far he j hj with h1 | h1
      · rw [h1]; simp
      · exact h1
    · rw [hn]; intro e; injection e with e; omega
  have hfar : ∀ i (hi : i < es.length), i ≠ j → Own w'' B ei es[i] (L[i]'(by omega)) := fun i hi hij => by
    have h1 := (h.inner i hi (by omega)).keep hg (h.apart i j hi hj hij)
    refine h1.keep hg2 ?_
    rcases h.far he i hi with h2 | h2
    · exact .inl h2
    · exact .inr h2
  refine ⟨ho, by simp [hl], fun i h1 h2 => ?_, fun a b ha hb hab => ?_⟩
  · by_cases hij : i = j
    · subst hij
      rw [List.getElem_set_self, List.getElem_set_self]
      exact hu.keep hg2 (.inr hug)
    · rw [List.getElem_set_ne (fun e => hij e.symm), List.getElem_set_ne (fun e => hij e.symm)]
      exact hfar i (by simpa using h1) hij
  · have ha' : a < es.length := by simpa using ha
    have hb' : b < es.length := by simpa using hb
    have key : ∀ i (hi : i < es.length), i ≠ j → Apart u es[i] := fun i hi hij => by
      rcases hn with hn | ⟨q, hn, hq⟩
      · have := h.apart j i hj hi (fun e => hij e.symm)
        unfold Apart at *
        rw [hn]; exact this
      · refine .inr fun e => ?_
        have := ((h.inner i hi (by omega)).inside q (by rw [← e, hn])).2
        omega
    by_cases h1 : a = j
    · subst h1
      rw [List.getElem_set_self, List.getElem_set_ne hab]
      exact key b hb' (fun e => hab e.symm)
    · by_cases h2 : b = j
      · subst h2
        rw [List.getElem_set_self, List.getElem_set_ne (fun e => h1 e.symm)]
        exact (key a ha' h1).symm
      · rw [List.getElem_set_ne (fun e => h1 e.symm), List.getElem_set_ne (fun e => h2 e.symm)]
        exact h.apart a b ha' hb' hab
end
end Go.Proofs.Ytajgjloailliiaa
