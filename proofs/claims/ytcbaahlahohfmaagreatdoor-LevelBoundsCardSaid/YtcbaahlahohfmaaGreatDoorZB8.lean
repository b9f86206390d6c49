/- Shared texts, shaken for one claim. -/
import Derived.Maps.RangeWalk
import Derived.Maps.Ext
import Derived.Test.YtcbaahlahohfmaaGreatDoorZB1
import Derived.Test.YtcbaahlahohfmaaGreatDoorZB2
import Derived.Test.YtcbaahlahohfmaaGreatDoorZB4
import Derived.Test.YtcbaahlahohfmaaGreatDoorZB7
namespace Go.Proofs.YtcbaahlahohfmaaGreatDoor
open Go.RowKit
def seenQ (l : List Int) : List Nat := (List.range l.length).filter fun i => !isOut (l.getD i 0)
theorem seenI_eq (l : List Int) : seenI l = (seenQ l).map fun (i : Nat) => (i : Int) := rfl
theorem seenI_length (l : List Int) : (seenI l).length = (seenQ l).length := by rw [seenI_eq, List.length_map]
theorem seenI_getD (l : List Int) (i : Nat) : (seenI l).getD i 0 = ((seenQ l).getD i 0 : Nat) := by
 rw [seenI_eq, List.getD_eq_getElem?_getD, List.getElem?_map, List.getD_eq_getElem?_getD]
 cases (seenQ l)[i]? <;> rfl
theorem seenQ_sorted (l : List Int) {i j : Nat} (h : i < j) (hj : j < (seenQ l).length) : (seenQ l)[i] < (seenQ l)[j] :=
 (List.pairwise_iff_getElem.1 (List.Pairwise.filter (fun i => !isOut (l.getD i 0)) List.pairwise_lt_range)) i j (by unfold seenQ at hj; omega) hj h
theorem seenQ_mem (l : List Int) (q : Nat) : q ∈ seenQ l ↔ q < l.length ∧ isOut (at0 l q) = false := by
 unfold seenQ at0
 rw [List.mem_filter, List.mem_range]
 simp
theorem seenQ_at (l : List Int) {i : Nat} (h : i < (seenQ l).length) : (seenQ l)[i] < l.length ∧ isOut (at0 l (seenQ l)[i]) = false := (seenQ_mem l _).1 (List.getElem_mem h)
theorem seenQ_inj (l : List Int) {i j : Nat} (hi : i < (seenQ l).length) (hj : j < (seenQ l).length) (h : (seenQ l)[i] = (seenQ l)[j]) : i = j := by
 rcases Nat.lt_trichotomy i j with h1 | h1 | h1
 ·have := seenQ_sorted l h1 hj; omega
 ·exact h1
 ·have := seenQ_sorted l h1 hi; omega
theorem seenQ_lt (l : List Int) {i j : Nat} (hi : i < (seenQ l).length) (hj : j < (seenQ l).length) (h : (seenQ l)[i] < (seenQ l)[j]) : i < j := by
 apply Classical.byContradiction
 intro hn
 rcases Nat.lt_or_ge j i with h1 | h1
 ·have := seenQ_sorted l h1 hi; omega
 ·have : i = j := by omega
  subst this; omega
structure Split (cl lv s : List Int) (k : Nat) (L : List (List Int)) (u : Nat → Nat) : Prop where
 zero : u 0 = 0
 top : u L.length = k
 len : ∀ j (h : j < L.length), u (j + 1) = u j + L[j].length
 pos : ∀ j (h : j < L.length), 0 < L[j].length
 cell : ∀ j (h : j < L.length) t (_ : t < L[j].length), L[j][t] = s.getD (u j + t) 0
 fresh : ∀ j, j < L.length → freshAt cl lv s (u j) = true
 stale : ∀ j, j < L.length → ∀ x, u j < x → x < u (j + 1) → freshAt cl lv s x = false
theorem Split.le {cl lv s : List Int} {k : Nat} {L : List (List Int)} {u : Nat → Nat} (h : Split cl lv s k L u) : ∀ d j, j + d ≤ L.length → u j ≤ u (j + d) ∧ (0 < d → u j < u (j + d)) := by
 intro d
 induction d with
 | zero => intro j _; exact ⟨Nat.le_refl _, fun h => absurd h (by omega)⟩
 | succ d ih =>
  intro j hj
  have h1 := (ih j (by omega)).1
  have h2 := h.len (j + d) (by omega)
  have h3 := h.pos (j + d) (by omega)
  rw [show j + (d + 1) = j + d + 1 by omega]
  constructor <;> intros <;> omega
theorem Split.lt {cl lv s : List Int} {k : Nat} {L : List (List Int)} {u : Nat → Nat} (h : Split cl lv s k L u) {i j : Nat} (hij : i < j) (hj : j ≤ L.length) : u i < u j := by
 have := (h.le (j - i) i (by omega)).2 (by omega)
 rwa [show i + (j - i) = j by omega] at this
theorem Split.mono {cl lv s : List Int} {k : Nat} {L : List (List Int)} {u : Nat → Nat} (h : Split cl lv s k L u) {i j : Nat} (hij : i ≤ j) (hj : j ≤ L.length) : u i ≤ u j := by
 have := (h.le (j - i) i (by omega)).1
 rwa [show i + (j - i) = j by omega] at this
theorem addLast_push (L : List (List Int)) (p : Int) : addLast (L ++ [[]]) p = L ++ [[p]] := by
 unfold addLast
 simp
theorem addLast_last {L : List (List Int)} {p : Int} (h : 0 < L.length) (j : Nat) (hj : j < (addLast L p).length) (hj' : j < L.length) :
 (addLast L p)[j] = if j + 1 = L.length then L[j] ++ [p] else L[j] := by
 refine Option.some.inj ?_
 rw [← List.getElem?_eq_getElem hj]
 unfold addLast
 rw [List.getElem?_set]
 by_cases he : L.length - 1 = j
 ·rw [if_pos he, if_pos (by omega), if_pos (by omega)]
  subst he
  simp [hj']
 ·rw [if_neg he, if_neg (by omega), List.getElem?_eq_getElem hj']
theorem split_lists (cl lv s : List Int) : ∀ k, ∃ u, Split cl lv s k (listsN cl lv s k) u := by
 intro k
 induction k with
 | zero => exact ⟨fun _ => 0, rfl, rfl, fun j h => by simp [listsN] at h, fun j h => by simp [listsN] at h, fun j h => by simp [listsN] at h, fun j h => by simp [listsN] at h, fun j h => by simp [listsN] at h⟩
 | succ k ih =>
  obtain ⟨u, h⟩ := ih
  have hle := listsN_le cl lv s k
  obtain ⟨L, hL⟩ : ∃ L, listsN cl lv s k = L := ⟨_, rfl⟩
  rw [hL] at h hle
  cases hf : freshAt cl lv s k with
  | true =>
   have hr : listsN cl lv s (k + 1) = L ++ [[s.getD k 0]] := by rw [listsN, hf, if_pos rfl, hL, addLast_push]
   rw [hr]
   refine ⟨fun j => if j ≤ L.length then u j else k + 1, ?_, ?_, ?_, ?_, ?_, ?_, ?_⟩
   ·rw [if_pos (by omega)]; exact h.zero
   ·rw [List.length_append, List.length_singleton, if_neg (by omega)]
   ·intro j hj
    rw [List.length_append, List.length_singleton] at hj
    by_cases h1 : j < L.length
    ·rw [if_pos (by omega), if_pos (by omega), List.getElem_append_left h1]; exact h.len j h1
    ·obtain rfl : j = L.length := by omega
     rw [if_neg (by omega), if_pos (Nat.le_refl _), List.getElem_append_right (Nat.le_refl _), h.top]
     simp
   ·intro j hj
    rw [List.length_append, List.length_singleton] at hj
    by_cases h1 : j < L.length
    ·rw [List.getElem_append_left h1]; exact h.pos j h1
    ·obtain rfl : j = L.length := by omega
     rw [List.getElem_append_right (Nat.le_refl _)]
     simp
   ·intro j hj t ht
    rw [List.length_append, List.length_singleton] at hj
    by_cases h1 : j < L.length
    ·simp only [List.getElem_append_left h1, show j ≤ L.length by omega, if_true] at ht ⊢; exact h.cell j h1 t ht
    ·obtain rfl : j = L.length := by omega
     simp only [List.getElem_append_right (Nat.le_refl _), Nat.sub_self, List.getElem_cons_zero, List.length_singleton] at ht ⊢
     obtain rfl : t = 0 := by omega
     simp [h.top]
   ·intro j hj
    rw [List.length_append, List.length_singleton] at hj
    rw [if_pos (by omega)]
    by_cases h1 : j < L.length
    ·exact h.fresh j h1
    ·obtain rfl : j = L.length := by omega
     rw [h.top]; exact hf
   ·intro j hj x hx hx2
    rw [List.length_append, List.length_singleton] at hj
    rw [if_pos (by omega)] at hx
    by_cases h1 : j < L.length
    ·rw [if_pos (by omega)] at hx2
     exact h.stale j h1 x hx hx2
    ·obtain rfl : j = L.length := by omega
     rw [if_neg (by omega)] at hx2
     rw [h.top] at hx
     omega
  | false =>
   have hk0 : 0 < k := by
    rcases Nat.eq_zero_or_pos k with h0 | h0
    ·subst h0; simp [freshAt] at hf
    ·exact h0
   have hpos := hle.2 hk0
   have hr : listsN cl lv s (k + 1) = addLast L (s.getD k 0) := by rw [listsN, hf, hL]; rfl
   rw [hr]
   have hml : (addLast L (s.getD k 0)).length = L.length := addLast_length _ _
   have hut : u L.length = k := h.top
   refine ⟨fun j => if j < L.length then u j else k + 1, ?_, ?_, ?_, ?_, ?_, ?_, ?_⟩
   ·rw [if_pos hpos]; exact h.zero
   ·rw [hml]; simp
   ·intro j hj
    have hj' : j < L.length := by omega
    rw [addLast_last hpos j hj hj', if_pos hj']
    by_cases h1 : j + 1 = L.length
    ·rw [if_neg (by omega), if_pos h1, List.length_append, List.length_singleton]
     have := h.len j hj'
     rw [h1, hut] at this
     omega
    ·rw [if_pos (by omega), if_neg h1]; exact h.len j hj'
   ·intro j hj
    have hj' : j < L.length := by omega
    rw [addLast_last hpos j hj hj']
    have := h.pos j hj'
    split
    ·rw [List.length_append]; omega
    ·exact this
   ·intro j hj t ht
    have hj' : j < L.length := by omega
    rw [if_pos hj']
    have he := addLast_last (p := s.getD k 0) hpos j hj hj'
    have hln : (addLast L (s.getD k 0))[j].length = if j + 1 = L.length then L[j].length + 1 else L[j].length := by
     rw [he]; split <;> simp
    rw [hln] at ht
    have hg : (addLast L (s.getD k 0))[j][t]? = some (s.getD (u j + t) 0) := by
     rw [he]
     by_cases h1 : j + 1 = L.length
     ·rw [if_pos h1] at ht
      rw [if_pos h1]
      by_cases h2 : t < L[j].length
      ·rw [List.getElem?_append_left h2, List.getElem?_eq_getElem h2, h.cell j hj' t h2]
      ·have h3 : t = L[j].length := by omega
       have h4 := h.len j hj'
       rw [h1, hut] at h4
       rw [List.getElem?_append_right (by omega), h3, Nat.sub_self, ← h4]; rfl
     ·rw [if_neg h1] at ht
      rw [if_neg h1, List.getElem?_eq_getElem ht, h.cell j hj' t ht]
    exact Option.some.inj (by rw [← hg, List.getElem?_eq_getElem (by rw [hln]; exact ht)])
   ·intro j hj
    have hj' : j < L.length := by omega
    rw [if_pos hj']
    exact h.fresh j hj'
   ·intro j hj x hx hx2
    have hj' : j < L.length := by omega
    rw [if_pos hj'] at hx
    by_cases h1 : j + 1 = L.length
    ·rw [if_neg (by omega)] at hx2
     rcases Nat.lt_or_ge x k with h2 | h2
     ·exact h.stale j hj' x hx (by rw [h1, hut]; exact h2)
     ·obtain rfl : x = k := by omega
      exact hf
    ·rw [if_pos (by omega)] at hx2
     exact h.stale j hj' x hx hx2
end Go.Proofs.YtcbaahlahohfmaaGreatDoor
namespace Go.Proofs.YtcbaahlahohfmaaGreatDoor
open Go.RowKit
def aheadN (lv s : List Int) (base x : Int) : Nat → Int
 | 0 => base
 | k + 1 => if s.getD k 0 == x && decide (0 < k) then lv.getD (s.getD (k - 1) 0).toNat 0 else aheadN lv s base x k
def behindN (cl lv s : List Int) (base y : Int) : Nat → Int
 | 0 => base
 | k + 1 => if s.getD k 0 == y && (decide (k + 1 < s.length) && (cl.getD y.toNat 0 != 10 && !isOpens (cl.getD y.toNat 0))) then lv.getD (s.getD (k + 1) 0).toNat 0 else behindN cl lv s base y k
def sosI (cl lv pl : List Int) (lev base : Int) : Int := dirL (max lev (aheadN lv (seenI cl) base (headI pl) (seenI cl).length))
def eosI (cl lv pl : List Int) (base : Int) : Int := dirL (max (lv.getD (lastI pl).toNat 0) (behindN cl lv (seenI cl) base (lastI pl) (seenI cl).length))
end Go.Proofs.YtcbaahlahohfmaaGreatDoor
namespace Go.Proofs.YtcbaahlahohfmaaGreatDoor
open Go.RowKit
theorem split_I {cl lv : List Int} (h : cl.length = lv.length) : ∃ u, Split cl lv (seenI cl) (seenQ cl).length (listsI cl lv) u := by
 obtain ⟨u, hu⟩ := split_lists cl lv (seenI cl) (seenI cl).length
 refine ⟨u, ?_⟩
 rw [listsI, if_pos h, ← seenI_length]
 exact hu
theorem lists_none {cl lv : List Int} (h : cl.length ≠ lv.length) : listsI cl lv = [] := by rw [listsI, if_neg h]
section
variable {cl lv : List Int} {L : List (List Int)} {u : Nat → Nat}
theorem Split.inS (h : Split cl lv (seenI cl) (seenQ cl).length L u) {j : Nat} (hj : j < L.length) {t : Nat} (ht : t < L[j].length) : u j + t < (seenQ cl).length := by
 have h1 := h.len j hj
 have h2 := h.mono (i := j + 1) (j := L.length) (by omega) (Nat.le_refl _)
 rw [h.top] at h2
 omega
theorem Split.elem (h : Split cl lv (seenI cl) (seenQ cl).length L u) {j : Nat} (hj : j < L.length) {t : Nat} (ht : t < L[j].length) : L[j][t] = ((seenQ cl)[u j + t]'(h.inS hj ht) : Nat) := by
 rw [h.cell j hj t ht, seenI_getD]
 congr 1
 simp [h.inS hj ht]
theorem Split.head (h : Split cl lv (seenI cl) (seenQ cl).length L u) {j : Nat} (hj : j < L.length) : ∃ hx : u j < (seenQ cl).length, headI L[j] = ((seenQ cl)[u j] : Nat) := by
 have hp := h.pos j hj
 have h1 := h.inS hj hp
 refine ⟨by simpa using h1, ?_⟩
 have h2 := h.elem hj hp
 rw [headI, show L[j].getD 0 0 = L[j][0] by simp [hp], h2]
 simp
theorem Split.last (h : Split cl lv (seenI cl) (seenQ cl).length L u) {j : Nat} (hj : j < L.length) : ∃ hx : u (j + 1) - 1 < (seenQ cl).length, lastI L[j] = ((seenQ cl)[u (j + 1) - 1] : Nat) := by
 have hp := h.pos j hj
 have hl := h.len j hj
 have ht : L[j].length - 1 < L[j].length := by omega
 have h1 := h.inS hj ht
 have he : u j + (L[j].length - 1) = u (j + 1) - 1 := by omega
 have h2 := h.elem hj ht
 simp only [he] at h1 h2
 exact ⟨h1, by rw [lastI, show L[j].getD (L[j].length - 1) 0 = L[j][L[j].length - 1] by simp [List.getElem?_eq_getElem ht], h2]⟩
end
theorem within_I (cl lv : List Int) : Within (listsI cl lv) cl.length := by
 by_cases h : cl.length = lv.length
 ·obtain ⟨u, hu⟩ := split_I h
  intro r hr
  obtain ⟨j, hj, rfl⟩ := List.mem_iff_getElem.1 hr
  refine ⟨List.length_pos_iff.1 (hu.pos j hj), (listsI_le cl lv).2 _ hr, fun x hx => ?_⟩
  obtain ⟨t, ht, rfl⟩ := List.mem_iff_getElem.1 hx
  exact ⟨_, hu.elem hj ht, (seenQ_at cl (hu.inS hj ht)).1⟩
 ·rw [lists_none h]
  intro r hr; simp at hr
theorem mt_length (cl : List Int) : (mt cl).length = cl.length := by simp [mt]
theorem mt_at (cl : List Int) {q : Nat} (h : q < cl.length) : (mt cl).getD q 0 = mf cl q := by
 simp [mt, listOf, h]
theorem at0_getD (l : List Int) (q : Nat) : l.getD q 0 = at0 l q := rfl
theorem firstAt_range (L : List (List Int)) (x : Int) : firstAt L x = -1 ∨ ∃ k : Nat, firstAt L x = k ∧ ∃ h : k < L.length, headI L[k] = x := by
 unfold firstAt
 cases hf : (List.range L.length).find? (fun k => headI (L.getD k []) == x) with
 | none => exact .inl rfl
 | some k =>
  have h1 := List.mem_range.1 (List.mem_of_find?_eq_some hf)
  have h2 := List.find?_some hf
  exact .inr ⟨k, rfl, h1, by simpa [h1] using h2⟩
structure Goes (cl : List Int) (L : List (List Int)) (i k p q : Nat) : Prop where
 il : i < L.length
 kl : k < L.length
 ik : i < k
 last : lastI (L.getD i []) = p
 head : headI (L.getD k []) = q
 pl : p < cl.length
 op : isOpens (at0 cl p) = true
 mate : Mate cl (mrun cl cl.length).1 (mf cl) cl.length p q
theorem next_goes {cl lv : List Int} {u : Nat → Nat} {L : List (List Int)} (h : Split cl lv (seenI cl) (seenQ cl).length L u) {i : Nat} (hi : i < L.length) :
 nextI cl (mt cl) L i = -1 ∨ ∃ k p q : Nat, nextI cl (mt cl) L i = k ∧ Goes cl L i k p q := by
 obtain ⟨hx, hl⟩ := h.last hi
 have hg : L.getD i [] = L[i] := by simp [hi]
 have hp := (seenQ_at cl hx).1
 unfold nextI
 rw [hg, hl, Int.toNat_natCast, at0_getD, mt_at cl hp]
 split
 ·exact .inl rfl
 ·rename_i hn
  rcases firstAt_range L (mf cl (seenQ cl)[u (i + 1) - 1]) with h1 | ⟨k, hk, hkl, he⟩
  ·exact .inl h1
  ·have ho : isOpens (at0 cl (seenQ cl)[u (i + 1) - 1]) = true := by
    cases hh : isOpens (at0 cl (seenQ cl)[u (i + 1) - 1]) with
    | true => rfl
    | false => exact absurd (.inl hh) hn
   have hm : ¬ mf cl (seenQ cl)[u (i + 1) - 1] < 0 := fun hh => hn (.inr hh)
   rcases (minv cl cl.length (Nat.le_refl _)).op _ hp ho with h2 | ⟨b, hb⟩
   ·exact absurd (by rw [show mf cl _ = -1 from h2]; decide) hm
   ·have hfa : mf cl (seenQ cl)[u (i + 1) - 1] = (b : Int) := hb.fa
    obtain ⟨hy, hh⟩ := h.head hkl
    rw [hh, hfa] at he
    have he' : (seenQ cl)[u k] = b := by omega
    have hlt : u (i + 1) - 1 < u k := seenQ_lt cl hx hy (by rw [he']; exact hb.lt)
    have hik : i < k := by
     apply Classical.byContradiction
     intro hc
     have h3 := h.mono (i := k) (j := i) (by omega) (by omega)
     have h4 := h.lt (i := i) (j := i + 1) (by omega) (by omega)
     omega
    refine .inr ⟨k, (seenQ cl)[u (i + 1) - 1], b, hk, hi, hkl, hik, by rw [hg, hl], ?_, hp, ho, hb⟩
    rw [show L.getD k [] = L[k] by simp [hkl], hh, he']
def chainN (cl m : List Int) (L : List (List Int)) : Nat → Int → List Int
 | 0, _ => []
 | f + 1, k => if k < 0 then [] else L.getD k.toNat [] ++ chainN cl m L f (nextI cl m L k.toNat)
def Onward (cl m : List Int) (L : List (List Int)) : Prop := ∀ i, i < L.length → nextI cl m L i = -1 ∨ ∃ k : Nat, nextI cl m L i = k ∧ i < k ∧ k < L.length
theorem onward_I (cl lv : List Int) : Onward cl (mt cl) (listsI cl lv) := by
 intro i hi
 by_cases h : cl.length = lv.length
 ·obtain ⟨u, hu⟩ := split_I h
  rcases next_goes hu hi with h1 | ⟨k, p, q, h1, h2⟩
  ·exact .inl h1
  ·exact .inr ⟨k, h1, h2.ik, h2.kl⟩
 ·rw [lists_none h] at hi; simp at hi
theorem chainN_none (cl m : List Int) (L : List (List Int)) (f : Nat) : chainN cl m L f (-1) = [] := by cases f <;> rfl
theorem chainN_more {cl m : List Int} {L : List (List Int)} (h : Onward cl m L) : ∀ (f g k : Nat), k < L.length → L.length ≤ k + f → L.length ≤ k + g → chainN cl m L f k = chainN cl m L g k := by
 intro f
 induction f with
 | zero => intro g k hk hf; omega
 | succ f ih =>
  intro g k hk hf hg
  cases g with
  | zero => omega
  | succ g =>
   simp only [chainN]
   rw [if_neg (by omega), if_neg (by omega), Int.toNat_natCast]
   rcases h k hk with h1 | ⟨k', h1, h2, h3⟩
   ·rw [h1, chainN_none, chainN_none]
   ·rw [h1, ih g k' h3 (by omega) (by omega)]
def chainI (cl m : List Int) (L : List (List Int)) (k : Nat) : List Int := chainN cl m L L.length k
theorem chainI_step {cl m : List Int} {L : List (List Int)} (h : Onward cl m L) {k : Nat} (hk : k < L.length) :
 (nextI cl m L k = -1 ∧ chainI cl m L k = L.getD k []) ∨ ∃ k' : Nat, nextI cl m L k = k' ∧ k < k' ∧ k' < L.length ∧ chainI cl m L k = L.getD k [] ++ chainI cl m L k' := by
 obtain ⟨n, hn⟩ : ∃ n, L.length = n + 1 := ⟨L.length - 1, by omega⟩
 have hc : chainI cl m L k = L.getD k [] ++ chainN cl m L n (nextI cl m L k) := by
  rw [chainI, hn, chainN, if_neg (by omega), Int.toNat_natCast]
 rcases h k hk with h1 | ⟨k', h1, h2, h3⟩
 ·exact .inl ⟨h1, by rw [hc, h1, chainN_none, List.append_nil]⟩
 ·refine .inr ⟨k', h1, h2, h3, ?_⟩
  rw [hc, h1, chainI, chainN_more h n L.length k' h3 (by omega) (by omega)]
structure Sq where
 pl : List Int
 lev : Int
 sos : Int
 eos : Int
 deriving DecidableEq
def goneN (cl m : List Int) (L : List (List Int)) (k j : Nat) : Bool := (List.range k).any fun i => nextI cl m L i == (j : Int)
theorem goneN_succ (cl m : List Int) (L : List (List Int)) (k j : Nat) : goneN cl m L (k + 1) j = (goneN cl m L k j || nextI cl m L k == (j : Int)) := by
 unfold goneN
 rw [List.range_succ, List.any_append]
 simp
def sqOf (cl lv : List Int) (base : Int) (pl : List Int) : Sq := ⟨pl, lv.getD (headI pl).toNat 0, sosI cl lv pl (lv.getD (headI pl).toNat 0) base, eosI cl lv pl base⟩
def seqsN (cl lv m : List Int) (base : Int) (L : List (List Int)) : Nat → List Sq
 | 0 => []
 | k + 1 => if goneN cl m L L.length k then seqsN cl lv m base L k else seqsN cl lv m base L k ++ [sqOf cl lv base (chainI cl m L k)]
def seqsI (cl lv : List Int) (base : Int) : List Sq := seqsN cl lv (mt cl) base (listsI cl lv) (listsI cl lv).length
theorem seqsN_le (cl lv m : List Int) (base : Int) (L : List (List Int)) : ∀ k, (seqsN cl lv m base L k).length ≤ k := by
 intro k
 induction k with
 | zero => exact Nat.le_refl _
 | succ k ih =>
  rw [seqsN]
  split
  ·omega
  ·rw [List.length_append, List.length_singleton]; omega
end Go.Proofs.YtcbaahlahohfmaaGreatDoor
namespace Go.Proofs.YtcbaahlahohfmaaGreatDoor
open Go.RowKit
theorem fresh_eq {cl lv : List Int} {k : Nat} (h0 : 0 < k) (hk : k < (seenQ cl).length) :
 freshAt cl lv (seenI cl) k = (at0 lv (seenQ cl)[k] != at0 lv ((seenQ cl)[k - 1]'(by omega)) || at0 cl ((seenQ cl)[k - 1]'(by omega)) == 10) := by
 unfold freshAt
 rw [show (k == 0) = false by simp; omega, Bool.false_or, seenI_getD, seenI_getD, Int.toNat_natCast, Int.toNat_natCast]
 simp only [List.getD_eq_getElem?_getD, List.getElem?_eq_getElem hk, List.getElem?_eq_getElem (show k - 1 < (seenQ cl).length by omega), Option.getD_some]
theorem run_level {cl lv : List Int} {L : List (List Int)} {u : Nat → Nat} (h : Split cl lv (seenI cl) (seenQ cl).length L u) {i : Nat} (hi : i < L.length) : ∀ d (_ : u i + d < u (i + 1)) (hs : u i + d < (seenQ cl).length) (hs0 : u i < (seenQ cl).length),
 at0 lv (seenQ cl)[u i + d] = at0 lv (seenQ cl)[u i] := by
 intro d
 induction d with
 | zero => intro _ _ _; rfl
 | succ d ih =>
  intro hx hs hs0
  have h1 := ih (by omega) (by omega) hs0
  have h2 := h.stale i hi (u i + (d + 1)) (by omega) hx
  rw [fresh_eq (by omega) hs] at h2
  simp only [show u i + (d + 1) - 1 = u i + d by omega, Bool.or_eq_false_iff, bne_eq_false_iff_eq] at h2
  rw [h2.1, h1]
def idxN (cl m : List Int) (L : List (List Int)) : Nat → Int → List Nat
 | 0, _ => []
 | f + 1, k => if k < 0 then [] else k.toNat :: idxN cl m L f (nextI cl m L k.toNat)
def idxI (cl m : List Int) (L : List (List Int)) (k : Nat) : List Nat := idxN cl m L L.length k
theorem idxN_chain (cl m : List Int) (L : List (List Int)) : ∀ f k, chainN cl m L f k = (idxN cl m L f k).flatMap fun j => L.getD j [] := by
 intro f
 induction f with
 | zero => intro k; rfl
 | succ f ih =>
  intro k
  simp only [chainN, idxN]
  split
  ·rfl
  ·rw [ih, List.flatMap_cons]
theorem idxN_none (cl m : List Int) (L : List (List Int)) (f : Nat) : idxN cl m L f (-1) = [] := by cases f <;> rfl
theorem idxN_more {cl m : List Int} {L : List (List Int)} (h : Onward cl m L) : ∀ (f g k : Nat), k < L.length → L.length ≤ k + f → L.length ≤ k + g → idxN cl m L f k = idxN cl m L g k := by
 intro f
 induction f with
 | zero => intro g k hk hf; omega
 | succ f ih =>
  intro g k hk hf hg
  cases g with
  | zero => omega
  | succ g =>
   simp only [idxN]
   rw [if_neg (by omega), if_neg (by omega), Int.toNat_natCast]
   rcases h k hk with h1 | ⟨k', h1, h2, h3⟩
   ·rw [h1, idxN_none, idxN_none]
   ·rw [h1, ih g k' h3 (by omega) (by omega)]
theorem idxI_step {cl m : List Int} {L : List (List Int)} (h : Onward cl m L) {k : Nat} (hk : k < L.length) :
 (nextI cl m L k = -1 ∧ idxI cl m L k = [k]) ∨ ∃ k' : Nat, nextI cl m L k = k' ∧ k < k' ∧ k' < L.length ∧ idxI cl m L k = k :: idxI cl m L k' := by
 obtain ⟨n, hn⟩ : ∃ n, L.length = n + 1 := ⟨L.length - 1, by omega⟩
 have hc : idxI cl m L k = k :: idxN cl m L n (nextI cl m L k) := by
  rw [idxI, hn, idxN, if_neg (by omega), Int.toNat_natCast]
 rcases h k hk with h1 | ⟨k', h1, h2, h3⟩
 ·exact .inl ⟨h1, by rw [hc, h1, idxN_none]⟩
 ·refine .inr ⟨k', h1, h2, h3, ?_⟩
  rw [hc, h1, idxI, idxN_more h n L.length k' h3 (by omega) (by omega)]
theorem idx_mem {cl m : List Int} {L : List (List Int)} (h : Onward cl m L) : ∀ d k, k < L.length → L.length - k ≤ d → (idxI cl m L k).Pairwise (· < ·) ∧
 ∀ j ∈ idxI cl m L k, k ≤ j ∧ j < L.length ∧ (j = k ∨ ∃ i, i ∈ idxI cl m L k ∧ nextI cl m L i = (j : Int)) ∧ ∀ i : Nat, nextI cl m L j = (i : Int) → i ∈ idxI cl m L k := by
 intro d
 induction d with
 | zero => intro k hk hd; omega
 | succ d ih =>
  intro k hk hd
  rcases idxI_step h hk with ⟨h1, e⟩ | ⟨k', h1, h2, h3, e⟩
  ·rw [e]
   refine ⟨List.pairwise_singleton _ _, fun j hj => ?_⟩
   rw [List.mem_singleton.1 hj]
   exact ⟨Nat.le_refl _, hk, .inl rfl, fun i hi => by rw [h1] at hi; omega⟩
  ·obtain ⟨p1, p2⟩ := ih k' h3 (by omega)
   rw [e]
   refine ⟨List.pairwise_cons.2 ⟨fun j hj => by have := (p2 j hj).1; omega, p1⟩, fun j hj => ?_⟩
   have hk' : k' ∈ idxI cl m L k' := by
    rcases idxI_step h h3 with ⟨_, e2⟩ | ⟨_, _, _, _, e2⟩ <;> rw [e2] <;> exact List.mem_cons_self
   rcases List.mem_cons.1 hj with rfl | hj
   ·refine ⟨Nat.le_refl _, hk, .inl rfl, fun i hi => List.mem_cons_of_mem _ ?_⟩
    rw [h1] at hi
    have hii : k' = i := by omega
    rw [← hii]; exact hk'
   ·obtain ⟨q1, q2, q3, q4⟩ := p2 j hj
    refine ⟨by omega, q2, .inr ?_, fun i hi => List.mem_cons_of_mem _ (q4 i hi)⟩
    rcases q3 with rfl | ⟨i, hi, hn⟩
    ·exact ⟨k, List.mem_cons_self, h1⟩
    ·exact ⟨i, List.mem_cons_of_mem _ hi, hn⟩
theorem idx_self {cl m : List Int} {L : List (List Int)} (h : Onward cl m L) {k : Nat} (hk : k < L.length) : k ∈ idxI cl m L k := by
 rcases idxI_step h hk with ⟨_, e2⟩ | ⟨_, _, _, _, e2⟩ <;> rw [e2] <;> exact List.mem_cons_self
def Once (cl m : List Int) (L : List (List Int)) : Prop := ∀ i j (k : Nat), i < L.length → j < L.length → nextI cl m L i = k → nextI cl m L j = k → i = j
theorem once_I {cl lv : List Int} {u : Nat → Nat} {L : List (List Int)} (h : Split cl lv (seenI cl) (seenQ cl).length L u) : Once cl (mt cl) L := by
 intro i j k hi hj h1 h2
 rcases next_goes h hi with e | ⟨k1, p1, q1, e1, g1⟩
 ·rw [e] at h1; omega
 rcases next_goes h hj with e | ⟨k2, p2, q2, e2, g2⟩
 ·rw [e] at h2; omega
 obtain rfl : k1 = k := by omega
 obtain rfl : k2 = k1 := by omega
 have hq : (q1 : Int) = q2 := by rw [← g1.head, ← g2.head]
 obtain rfl : q1 = q2 := by omega
 have hp : (p1 : Int) = p2 := by rw [← g1.mate.fb, ← g2.mate.fb]
 have hl : lastI L[i] = lastI L[j] := by
  have a1 := g1.last; have a2 := g2.last
  rw [show L.getD i [] = L[i] by simp [hi]] at a1
  rw [show L.getD j [] = L[j] by simp [hj]] at a2
  rw [a1, a2, hp]
 obtain ⟨x1, y1⟩ := h.last hi
 obtain ⟨x2, y2⟩ := h.last hj
 rw [y1, y2] at hl
 have hx := seenQ_inj cl x1 x2 (by omega)
 have m1 := h.lt (i := i) (j := i + 1) (by omega) (by omega)
 have m2 := h.lt (i := j) (j := j + 1) (by omega) (by omega)
 rcases Nat.lt_trichotomy i j with hh | hh | hh
 ·have := h.lt (i := i + 1) (j := j + 1) (by omega) (by omega); omega
 ·exact hh
 ·have := h.lt (i := j + 1) (j := i + 1) (by omega) (by omega); omega
def startsN (cl m : List Int) (L : List (List Int)) (k : Nat) : List Nat := (List.range k).filter fun i => !goneN cl m L L.length i
theorem gone_iff (cl m : List Int) (L : List (List Int)) (j : Nat) : goneN cl m L L.length j = true ↔ ∃ i, i < L.length ∧ nextI cl m L i = (j : Int) := by
 unfold goneN
 rw [List.any_eq_true]
 constructor
 ·rintro ⟨i, hi, h⟩; exact ⟨i, List.mem_range.1 hi, by simpa using h⟩
 ·rintro ⟨i, hi, h⟩; exact ⟨i, List.mem_range.2 hi, by simpa using h⟩
theorem starts_mem {cl m : List Int} {L : List (List Int)} {k i : Nat} : i ∈ startsN cl m L k ↔ i < k ∧ goneN cl m L L.length i = false := by
 unfold startsN
 rw [List.mem_filter, List.mem_range]
 simp
theorem seqsN_eq (cl lv m : List Int) (base : Int) (L : List (List Int)) : ∀ k, seqsN cl lv m base L k = (startsN cl m L k).map fun i => sqOf cl lv base (chainI cl m L i) := by
 intro k
 induction k with
 | zero => rfl
 | succ k ih =>
  rw [seqsN, startsN, List.range_succ, List.filter_append, List.map_append, ← startsN, ← ih]
  cases hg : goneN cl m L L.length k with
  | true => rw [if_pos rfl]; simp [hg]
  | false => rw [if_neg (by simp)]; simp [hg]
theorem chains_perm {cl m : List Int} {L : List (List Int)} (h : Onward cl m L) (hO : Once cl m L) : ((startsN cl m L L.length).flatMap (idxI cl m L)).Perm (List.range L.length) := by
 have hn : ((startsN cl m L L.length).flatMap (idxI cl m L)).Nodup := by
  unfold List.Nodup
  rw [List.pairwise_flatMap]
  refine ⟨fun i hi => ?_, ?_⟩
  ·have := (idx_mem h (L.length - i) i (starts_mem.1 hi).1 (Nat.le_refl _)).1
   exact this.imp (fun hab => by omega)
  ·have hs : (startsN cl m L L.length).Pairwise (· < ·) := List.Pairwise.filter _ List.pairwise_lt_range
   have key : ∀ j i i', i < L.length → i' < L.length → goneN cl m L L.length i = false → goneN cl m L L.length i' = false → j ∈ idxI cl m L i → j ∈ idxI cl m L i' → i = i' := by
    intro j
    induction j using Nat.strongRecOn with
    | _ j ih =>
     intro i i' hi hi' g g' hj hj'
     obtain ⟨a1, a2, a3, _⟩ := (idx_mem h (L.length - i) i hi (Nat.le_refl _)).2 j hj
     obtain ⟨b1, b2, b3, _⟩ := (idx_mem h (L.length - i') i' hi' (Nat.le_refl _)).2 j hj'
     rcases a3 with rfl | ⟨x, hx, nx⟩
     ·rcases b3 with rfl | ⟨y, hy, ny⟩
      ·rfl
      ·have hyl := ((idx_mem h (L.length - i') i' hi' (Nat.le_refl _)).2 y hy).2.1
       have := (gone_iff cl m L j).2 ⟨y, hyl, ny⟩
       rw [g] at this; cases this
     ·have hxl := ((idx_mem h (L.length - i) i hi (Nat.le_refl _)).2 x hx).2.1
      rcases b3 with rfl | ⟨y, hy, ny⟩
      ·have := (gone_iff cl m L j).2 ⟨x, hxl, nx⟩
       rw [g'] at this; cases this
      ·have hyl := ((idx_mem h (L.length - i') i' hi' (Nat.le_refl _)).2 y hy).2.1
       obtain rfl := hO x y j hxl hyl nx ny
       have hlt : x < j := by
        rcases h x hxl with e | ⟨k', e, e2, _⟩
        ·rw [e] at nx; omega
        ·rw [e] at nx; omega
       exact ih x hlt i i' hi hi' g g' hx hy
   refine List.Pairwise.imp_of_mem ?_ hs
   intro i i' hi hi' hlt x hx y hy hxy
   subst hxy
   obtain ⟨c1, c2⟩ := starts_mem.1 hi
   obtain ⟨d1, d2⟩ := starts_mem.1 hi'
   have := key x i i' c1 d1 c2 d2 hx hy
   omega
 have hm : ∀ j, j ∈ (startsN cl m L L.length).flatMap (idxI cl m L) ↔ j ∈ List.range L.length := by
  intro j
  rw [List.mem_flatMap, List.mem_range]
  constructor
  ·rintro ⟨i, hi, hj⟩
   exact ((idx_mem h (L.length - i) i (starts_mem.1 hi).1 (Nat.le_refl _)).2 j hj).2.1
  ·induction j using Nat.strongRecOn with
   | _ j ih =>
    intro hj
    cases hg : goneN cl m L L.length j with
    | false => exact ⟨j, starts_mem.2 ⟨hj, hg⟩, idx_self h hj⟩
    | true =>
     obtain ⟨x, hxl, nx⟩ := (gone_iff cl m L j).1 hg
     have hlt : x < j := by
      rcases h x hxl with e | ⟨k', e, e2, _⟩
      ·rw [e] at nx; omega
      ·rw [e] at nx; omega
     obtain ⟨i, hi, hx⟩ := ih x hlt hxl
     exact ⟨i, hi, ((idx_mem h (L.length - i) i (starts_mem.1 hi).1 (Nat.le_refl _)).2 x hx).2.2.2 j nx⟩
 rw [List.perm_iff_count]
 intro a
 rw [hn.count, List.nodup_range.count]
 simp only [hm a]
theorem addLast_flatten {L : List (List Int)} {p : Int} (h : 0 < L.length) : (addLast L p).flatten = L.flatten ++ [p] := by
 rcases List.eq_nil_or_concat L with rfl | ⟨l', b, rfl⟩
 ·simp at h
 ·rw [List.concat_eq_append]
  unfold addLast
  simp
theorem lists_flatten (cl lv s : List Int) : ∀ k, k ≤ s.length → (listsN cl lv s k).flatten = s.take k := by
 intro k
 induction k with
 | zero => intro _; simp [listsN]
 | succ k ih =>
  intro hk
  have h1 := ih (by omega)
  have h2 := listsN_le cl lv s k
  have hs : s.take (k + 1) = s.take k ++ [s.getD k 0] := by
   rw [List.take_succ_eq_append_getElem (by omega)]
   simp [show k < s.length by omega]
  rw [listsN, hs]
  cases hf : freshAt cl lv s k with
  | true => rw [if_pos rfl, addLast_push, List.flatten_append, h1]; simp
  | false =>
   rw [if_neg (by simp)]
   have hk0 : 0 < k := by
    rcases Nat.eq_zero_or_pos k with h0 | h0
    ·subst h0; simp [freshAt] at hf
    ·exact h0
   rw [addLast_flatten (h2.2 hk0), h1]
theorem listsI_flatten {cl lv : List Int} (he : cl.length = lv.length) : (listsI cl lv).flatten = seenI cl := by
 rw [listsI, if_pos he, lists_flatten _ _ _ _ (Nat.le_refl _), List.take_length]
theorem range_flatMap (L : List (List Int)) : (List.range L.length).flatMap (fun j => L.getD j []) = L.flatten := by
 rw [List.flatMap_def]
 congr 1
 apply List.ext_getElem
 ·simp
 ·intro i h1 h2
  simp at h1
  simp [h1]
theorem seqs_perm {cl lv : List Int} (he : cl.length = lv.length) (base : Int) : (((seqsI cl lv base).map (·.pl)).flatten).Perm (seenI cl) := by
 obtain ⟨u, hu⟩ := split_I he
 have hp := (chains_perm (onward_I cl lv) (once_I hu)).flatMap_right (fun j => (listsI cl lv).getD j [])
 rw [range_flatMap, listsI_flatten he, List.flatMap_assoc] at hp
 have e : ((seqsI cl lv base).map (·.pl)).flatten = (startsN cl (mt cl) (listsI cl lv) (listsI cl lv).length).flatMap (fun x => (idxI cl (mt cl) (listsI cl lv) x).flatMap fun j => (listsI cl lv).getD j []) := by
  rw [seqsI, seqsN_eq, List.map_map, List.flatMap_def]
  congr 1
  apply List.map_congr_left
  intro i _
  show chainI cl (mt cl) (listsI cl lv) i = _
  rw [chainI, idxN_chain]; rfl
 rw [e]; exact hp
end Go.Proofs.YtcbaahlahohfmaaGreatDoor
namespace Go.Proofs.YtcbaahlahohfmaaGreatDoor
open Go.RowKit
def sdB (k : Int) : Int := if k = 0 then 0 else if k = 1 ∨ k = 3 ∨ k = 6 then 1 else -1
def hasS (s : Int) (l : List Int) (a b : Nat) : Bool := ((l.take b).drop a).any fun c => sdB c == s
theorem hasS_begin (s : Int) (l : List Int) (a : Nat) : hasS s l a a = false := by
 unfold hasS
 rw [List.drop_of_length_le (by simp; omega)]; rfl
theorem hasS_none (s : Int) (l : List Int) {a b : Nat} (h : b ≤ a) : hasS s l a b = false := by
 unfold hasS
 rw [List.drop_of_length_le (by simp; omega)]; rfl
theorem hasS_next (s : Int) (l : List Int) (a b : Nat) (h : a ≤ b) (hb : b < l.length) : hasS s l a (b + 1) = (hasS s l a b || sdB l[b] == s) := by
 unfold hasS
 rw [List.take_succ_eq_append_getElem hb, List.drop_append_of_le_length (by simp; omega), List.any_append]
 simp
def lowB (f : Int) : Nat := (max 0 f).toNat
def highB (l : List Int) (t : Int) : Nat := (min t l.length).toNat
def hasL (l : List Int) (f t : Int) : Bool := hasS 0 l (lowB f) (highB l t)
def hasR (l : List Int) (f t : Int) : Bool := hasS 1 l (lowB f) (highB l t)
end Go.Proofs.YtcbaahlahohfmaaGreatDoor
namespace Go.Proofs.YtcbaahlahohfmaaGreatDoor
open Go.RowKit Go.Maps
theorem keyI : Keyed Tryz.prog 3 := int_keyed Tryz.underlying3
def Reads (D : DataW Unit) (M : Int → Option Int) : Prop :=
 IsMap D ∧ ∀ x, match M x with
  | some y => ∀ z, D.atKey (.int .i64 x) z = .lit (.int .i64 y)
  | none => has D (.int .i64 x) = false
theorem reads_none : Reads (.map []) fun _ => none := ⟨⟨[], rfl⟩, fun _ => rfl⟩
theorem reads_put {D : DataW Unit} {M : Int → Option Int} (h : Reads D M) (k v : Int) : Reads (D.put (.int .i64 k) (.lit (.int .i64 v))) (fun x => if x = k then some v else M x) := by
 refine ⟨h.1.put _ _, fun x => ?_⟩
 have hx := h.2 x
 by_cases e : x = k
 ·subst e
  simp only [if_true]
  exact fun z => atKey_put_same h.1 (k := .int .i64 x) trivial _ z
 ·have ne : (Lit.int .i64 x) ≠ .int .i64 k := fun h => e (by injection h)
  simp only [if_neg e]
  cases hM : M x with
  | none => rw [hM] at hx; exact (has_put_other ne _).trans hx
  | some y => rw [hM] at hx; exact fun z => (atKey_put_other ne _ z).trans (hx z)
theorem Reads.has {D : DataW Unit} {M : Int → Option Int} (h : Reads D M) {x y : Int} (e : M x = some y) : Maps.has D (.int .i64 x) = true := by
 have := h.2 x
 rw [e] at this
 exact has_true_of_atKey this
theorem Reads.eq {D : DataW Unit} {M : Int → Option Int} (h : Reads D M) {x y : Int} (e : ∀ z, D.atKey (.int .i64 x) z = .lit (.int .i64 y)) : M x = some y := by
 have hx := h.2 x
 cases hM : M x with
 | none => rw [hM] at hx; exact absurd ((has_true_of_atKey e).symm.trans hx) (by simp)
 | some c =>
  rw [hM] at hx
  have := (hx .nil).symm.trans (e .nil)
  injection this with this
  injection this with _ this
  rw [this]
def lkp : List (Int × Int) → Int → Option Int
 | [], _ => none
 | (a, b) :: r, x => if x = a then some b else lkp r x
theorem lkp_mem : ∀ {l : List (Int × Int)} {x y : Int}, lkp l x = some y → (x, y) ∈ l
 | (a, b) :: r, x, y, h => by
  unfold lkp at h
  split at h
  ·rename_i e; subst e; injection h with h; subst h; simp
  ·exact List.mem_cons_of_mem _ (lkp_mem h)
def MapAt (w : World) (b n : Nat) (M : Int → Option Int) : Prop := ∃ D : DataW Unit, w.ownsMap Tryz.prog 3 (plainElem Tryz.prog 3) b n D ∧ Reads D M
section
variable {w w' : World} {b n : Nat} {M M' : Int → Option Int}
theorem MapAt.lt (h : MapAt w b n M) : b < w.heap.size := h.elim fun _ h => h.1.lt
theorem MapAt.kept {row : Option Nat} (h : MapAt w b n M) (hg : w.grownBy w' row) (hb : some b ≠ row) : MapAt w' b n M := h.elim fun D h => ⟨D, h.1.kept hg hb, h.2⟩
theorem MapAt.alloc (h : MapAt w b n M) (o : Obj) : MapAt (w.alloc o) b n M := h.elim fun D h => ⟨D, h.1.alloc o, h.2⟩
theorem MapAt.below (h : MapAt w b n M) {B : Nat} (hb : Below B w w') (_hB : b < B) (hB' : w.heap.size ≤ B) : MapAt w' b n M := by
 refine h.kept (row := none) ⟨hb.os, hb.tape, hb.output, hb.size, fun k hk _ => hb.block k (by omega)⟩ (by simp)
theorem mapAt_made (w : World) : MapAt (w.alloc (.map #[] 0)) w.heap.size 0 fun _ => none := ⟨_, World.ownsMap_made _ _ _ _, reads_none⟩
variable {ops : Array Oper} {rest : List Oper} {o : Oper} {a : Act} {Q : Exit → Act → World → Prop}
theorem insert_at (hg : o.guard = none) {t : TypeId} {m x v : Operand} (hop : o.op = Op.insert t m x v) (ht : Tryz.prog.underlying t = some (.map 3 3))
 (hm : a.eval m = .map (some b)) (h : MapAt w b n M) (hn : n < maxLen) {k y : Int} (hx : a.eval x = .int .i64 k) (hv : a.eval v = .int .i64 y) (hk : (Lit.int .i64 k).wf = true) (hy : (Lit.int .i64 y).wf = true)
 (hK : ∀ w', MapAt w' b (n + 1) (fun z => if z = k then some y else M z) → w.grownBy w' (some b) → wpList Tryz.prog ops Q rest (a.put o.dst undef) w') :
 wpList Tryz.prog ops Q (o :: rest) a w := by
 obtain ⟨D, hown, hR⟩ := h
 refine wpList_plain hg fun K' hK' => ?_
 obtain ⟨w', hrun, r1, r2⟩ := hown.update keyI ht hn (keyOf_int_mk Tryz.underlying3 hk) (plainElem_int Tryz.underlying3 hy)
 unfold Oper.wp
 simp [execOp, hop, hm, hx, hv, hrun, Result.andThen]
 exact hK' _ _ (hK w' ⟨_, r1, reads_put hR _ _⟩ r2)
theorem update_at (hg : o.guard = none) {t : TypeId} {m x v : Operand} (hop : o.op = Op.mapUpdate t m x v) (ht : Tryz.prog.underlying t = some (.map 3 3))
 (hm : a.eval m = .map (some b)) (h : MapAt w b n M) (hn : n < maxLen) {k y : Int} (hx : a.eval x = .int .i64 k) (hv : a.eval v = .int .i64 y) (hk : (Lit.int .i64 k).wf = true) (hy : (Lit.int .i64 y).wf = true)
 (hK : ∀ w', MapAt w' b (n + 1) (fun z => if z = k then some y else M z) → w.grownBy w' (some b) → wpList Tryz.prog ops Q rest (a.put o.dst undef) w') :
 wpList Tryz.prog ops Q (o :: rest) a w := by
 obtain ⟨D, hown, hR⟩ := h
 refine wpList_plain hg fun K' hK' => ?_
 obtain ⟨w', hrun, r1, r2⟩ := hown.update keyI ht hn (keyOf_int_mk Tryz.underlying3 hk) (plainElem_int Tryz.underlying3 hy)
 unfold Oper.wp
 simp [execOp, hop, hm, hx, hv, hrun, Result.andThen]
 exact hK' _ _ (hK w' ⟨_, r1, reads_put hR _ _⟩ r2)
def Ranging (w : World) (b r n : Nat) (M : Int → Option Int) (left : Int → Bool) (cnt : Nat) : Prop :=
 ∃ (D : DataW Unit) (lf : Lit → Bool), w.ranges Tryz.prog 3 (plainElem Tryz.prog 3) b r n D lf cnt ∧ Reads D M ∧ ∀ x, left x = lf (.int .i64 x)
theorem Ranging.left_eq {r cnt : Nat} {left : Int → Bool} (h : Ranging w b r n M left cnt) : w.rangeLeft b r = cnt := h.elim fun _ ⟨_, h, _⟩ => h.left_eq
theorem Ranging.kept {r cnt : Nat} {left : Int → Bool} {row : Option Nat} (h : Ranging w b r n M left cnt) (hg : w.grownBy w' row) (hb : some b ≠ row) (hr : some r ≠ row) : Ranging w' b r n M left cnt := by
 obtain ⟨D, lf, h1, h2, h3⟩ := h
 exact ⟨D, lf, h1.kept hg hb hr, h2, h3⟩
theorem Ranging.map {r cnt : Nat} {left : Int → Bool} (h : Ranging w b r n M left cnt) : MapAt w b n M := h.elim fun D ⟨_, h, hR, _⟩ => ⟨D, h.owns, hR⟩
theorem range_at (hg : o.guard = none) {m : Operand} {t : TypeId} (hop : o.op = Op.range t m) (ht : Tryz.prog.underlying t = some (.map 3 3)) (hm : a.eval m = .map (some b)) (h : MapAt w b n M)
 (hK : ∀ w' left cnt, Ranging w' b w.heap.size n M left cnt → (∀ x y, M x = some y → left x = true) → cnt ≤ n → w.grownBy w' none → w'.heap.size = w.heap.size + 1 → wpList Tryz.prog ops Q rest (a.put o.dst (.pointer (some ⟨w.heap.size, 0, none⟩))) w') :
 wpList Tryz.prog ops Q (o :: rest) a w := by
 obtain ⟨D, hown, hR⟩ := h
 refine wpList_range_own w hg m t hop 3 3 keyI ht _ b n D hm hown ?_
 intro w' h1 h2 h3
 exact hK w' (fun x => Maps.has D (.int .i64 x)) _ ⟨D, _, h1, hR, fun _ => rfl⟩ (fun x y e => hR.has e) hown.size_le h2 h3
theorem next_at {r cnt : Nat} {left : Int → Bool} (hg : o.guard = none) {it : Operand} (hop : o.op = Op.next it false) (hit : a.eval it = .pointer (some ⟨r, 0, none⟩)) (h : Ranging w b r n M left cnt)
 (hDone : (∀ x, left x = false) → cnt = 0 → wpList Tryz.prog ops Q rest (a.put o.dst (.tuple #[.bool false])) w)
 (hMore : ∀ (x y : Int) (w' : World) (left' : Int → Bool) (cnt' : Nat), (Lit.int .i64 x).wf = true → (Lit.int .i64 y).wf = true → M x = some y → left x = true → left' x = false → (∀ z, z ≠ x → left' z = left z) → Ranging w' b r n M left' cnt' → cnt' < cnt →
  w.grownBy w' (some r) → w'.heap.size = w.heap.size → (Instr.entry (.pointer (some ⟨r, 0, none⟩))).run Tryz.prog w' = .ok (.tuple #[.int .i64 x, .int .i64 y]) w' → wpList Tryz.prog ops Q rest (a.put o.dst (.tuple #[.bool true, .int .i64 x, .int .i64 y])) w') :
 wpList Tryz.prog ops Q (o :: rest) a w := by
 obtain ⟨D, lf, h1, hR, hl⟩ := h
 refine wpList_next_ranges_ii w hg it hop 3 3 .i64 .i64 keyI Tryz.underlying3 Tryz.underlying3 b r n D lf cnt hit h1 (fun h0 h => hDone (fun x => (hl x).trans (h _)) h0) ?_
 intro x c w' cnt' hwx hwc hlx hat h2 hlt hgr hsz hen
 refine hMore x c w' (fun z => lf (.int .i64 z) && !(Lit.int .i64 z).sameKey (.int .i64 x)) cnt' hwx hwc (hR.eq hat) ((hl x).trans hlx) ?_ ?_ ⟨D, _, h2, hR, fun _ => rfl⟩ hlt hgr hsz hen
 ·rw [WideAt.sameKey_self (a := .int .i64 x) trivial]; simp
 ·intro z hz
  rw [Maps.sameKey_ne (fun e => hz (by injection e)), hl z]
  simp
end
end Go.Proofs.YtcbaahlahohfmaaGreatDoor
