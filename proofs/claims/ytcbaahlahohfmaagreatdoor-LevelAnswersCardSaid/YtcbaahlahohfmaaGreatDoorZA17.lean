/- Shared texts, shaken for one claim. -/
import Derived.Test.YtcbaahlahohfmaaGreatDoorZA1
import Derived.Test.YtcbaahlahohfmaaGreatDoorZA2
import Derived.Test.YtcbaahlahohfmaaGreatDoorZA14
import Derived.Test.YtcbaahlahohfmaaGreatDoorZA15
import Derived.Test.YtcbaahlahohfmaaGreatDoorZA16
namespace Go.Proofs.YtcbaahlahohfmaaGreatDoor
open Go.RowKit
theorem split_I {cl lv : List Int} (h : cl.length = lv.length) : ∃ u, Split cl lv (seenI cl) (seenQ cl).length (listsI cl lv) u := by
 obtain ⟨u, hu⟩ := split_lists cl lv (seenI cl) (seenI cl).length
 refine ⟨u, ?_⟩
 rw [listsI, if_pos h, ← seenI_length]
 exact hu
theorem lists_none {cl lv : List Int} (h : cl.length ≠ lv.length) : listsI cl lv = [] := by rw [listsI, if_neg h]
section
variable {cl lv : List Int} {L : List (List Int)} {u : Nat → Nat}
theorem Split.inS (h : Split cl lv (seenI cl) (seenQ cl).length L u) {j : Nat} (hj : j < L.length) {t : Nat} (ht : t < L[j].length) : u j + t < (seenQ cl).length := by
 have h1 := h.len j hj
 have h2 := h.mono (i := j + 1) (j := L.length) (by omega) (Nat.le_refl _)
 rw [h.top] at h2
 omega
theorem Split.elem (h : Split cl lv (seenI cl) (seenQ cl).length L u) {j : Nat} (hj : j < L.length) {t : Nat} (ht : t < L[j].length) : L[j][t] = ((seenQ cl)[u j + t]'(h.inS hj ht) : Nat) := by
 rw [h.cell j hj t ht, seenI_getD]
 congr 1
 simp [h.inS hj ht]
theorem Split.head (h : Split cl lv (seenI cl) (seenQ cl).length L u) {j : Nat} (hj : j < L.length) : ∃ hx : u j < (seenQ cl).length, headI L[j] = ((seenQ cl)[u j] : Nat) := by
 have hp := h.pos j hj
 have h1 := h.inS hj hp
 refine ⟨by simpa using h1, ?_⟩
 have h2 := h.elem hj hp
 rw [headI, show L[j].getD 0 0 = L[j][0] by simp [hp], h2]
 simp
theorem Split.last (h : Split cl lv (seenI cl) (seenQ cl).length L u) {j : Nat} (hj : j < L.length) : ∃ hx : u (j + 1) - 1 < (seenQ cl).length, lastI L[j] = ((seenQ cl)[u (j + 1) - 1] : Nat) := by
 have hp := h.pos j hj
 have hl := h.len j hj
 have ht : L[j].length - 1 < L[j].length := by omega
 have h1 := h.inS hj ht
 have he : u j + (L[j].length - 1) = u (j + 1) - 1 := by omega
 have h2 := h.elem hj ht
 simp only [he] at h1 h2
 exact ⟨h1, by rw [lastI, show L[j].getD (L[j].length - 1) 0 = L[j][L[j].length - 1] by simp [List.getElem?_eq_getElem ht], h2]⟩
end
theorem within_I (cl lv : List Int) : Within (listsI cl lv) cl.length := by
 by_cases h : cl.length = lv.length
 ·obtain ⟨u, hu⟩ := split_I h
  intro r hr
  obtain ⟨j, hj, rfl⟩ := List.mem_iff_getElem.1 hr
  refine ⟨List.length_pos_iff.1 (hu.pos j hj), (listsI_le cl lv).2 _ hr, fun x hx => ?_⟩
  obtain ⟨t, ht, rfl⟩ := List.mem_iff_getElem.1 hx
  exact ⟨_, hu.elem hj ht, (seenQ_at cl (hu.inS hj ht)).1⟩
 ·rw [lists_none h]
  intro r hr; simp at hr
theorem mt_length (cl : List Int) : (mt cl).length = cl.length := by simp [mt]
theorem mt_at (cl : List Int) {q : Nat} (h : q < cl.length) : (mt cl).getD q 0 = mf cl q := by
 simp [mt, listOf, h]
theorem at0_getD (l : List Int) (q : Nat) : l.getD q 0 = at0 l q := rfl
theorem firstAt_range (L : List (List Int)) (x : Int) : firstAt L x = -1 ∨ ∃ k : Nat, firstAt L x = k ∧ ∃ h : k < L.length, headI L[k] = x := by
 unfold firstAt
 cases hf : (List.range L.length).find? (fun k => headI (L.getD k []) == x) with
 | none => exact .inl rfl
 | some k =>
  have h1 := List.mem_range.1 (List.mem_of_find?_eq_some hf)
  have h2 := List.find?_some hf
  exact .inr ⟨k, rfl, h1, by simpa [h1] using h2⟩
structure Goes (cl : List Int) (L : List (List Int)) (i k p q : Nat) : Prop where
 il : i < L.length
 kl : k < L.length
 ik : i < k
 last : lastI (L.getD i []) = p
 head : headI (L.getD k []) = q
 pl : p < cl.length
 op : isOpens (at0 cl p) = true
 mate : Mate cl (mrun cl cl.length).1 (mf cl) cl.length p q
theorem next_goes {cl lv : List Int} {u : Nat → Nat} {L : List (List Int)} (h : Split cl lv (seenI cl) (seenQ cl).length L u) {i : Nat} (hi : i < L.length) :
 nextI cl (mt cl) L i = -1 ∨ ∃ k p q : Nat, nextI cl (mt cl) L i = k ∧ Goes cl L i k p q := by
 obtain ⟨hx, hl⟩ := h.last hi
 have hg : L.getD i [] = L[i] := by simp [hi]
 have hp := (seenQ_at cl hx).1
 unfold nextI
 rw [hg, hl, Int.toNat_natCast, at0_getD, mt_at cl hp]
 split
 ·exact .inl rfl
 ·rename_i hn
  rcases firstAt_range L (mf cl (seenQ cl)[u (i + 1) - 1]) with h1 | ⟨k, hk, hkl, he⟩
  ·exact .inl h1
  ·have ho : isOpens (at0 cl (seenQ cl)[u (i + 1) - 1]) = true := by
    cases hh : isOpens (at0 cl (seenQ cl)[u (i + 1) - 1]) with
    | true => rfl
    | false => exact absurd (.inl hh) hn
   have hm : ¬ mf cl (seenQ cl)[u (i + 1) - 1] < 0 := fun hh => hn (.inr hh)
   rcases (minv cl cl.length (Nat.le_refl _)).op _ hp ho with h2 | ⟨b, hb⟩
   ·exact absurd (by rw [show mf cl _ = -1 from h2]; decide) hm
   ·have hfa : mf cl (seenQ cl)[u (i + 1) - 1] = (b : Int) := hb.fa
    obtain ⟨hy, hh⟩ := h.head hkl
    rw [hh, hfa] at he
    have he' : (seenQ cl)[u k] = b := by omega
    have hlt : u (i + 1) - 1 < u k := seenQ_lt cl hx hy (by rw [he']; exact hb.lt)
    have hik : i < k := by
     apply Classical.byContradiction
     intro hc
     have h3 := h.mono (i := k) (j := i) (by omega) (by omega)
     have h4 := h.lt (i := i) (j := i + 1) (by omega) (by omega)
     omega
    refine .inr ⟨k, (seenQ cl)[u (i + 1) - 1], b, hk, hi, hkl, hik, by rw [hg, hl], ?_, hp, ho, hb⟩
    rw [show L.getD k [] = L[k] by simp [hkl], hh, he']
def chainN (cl m : List Int) (L : List (List Int)) : Nat → Int → List Int
 | 0, _ => []
 | f + 1, k => if k < 0 then [] else L.getD k.toNat [] ++ chainN cl m L f (nextI cl m L k.toNat)
def Onward (cl m : List Int) (L : List (List Int)) : Prop := ∀ i, i < L.length → nextI cl m L i = -1 ∨ ∃ k : Nat, nextI cl m L i = k ∧ i < k ∧ k < L.length
theorem onward_I (cl lv : List Int) : Onward cl (mt cl) (listsI cl lv) := by
 intro i hi
 by_cases h : cl.length = lv.length
 ·obtain ⟨u, hu⟩ := split_I h
  rcases next_goes hu hi with h1 | ⟨k, p, q, h1, h2⟩
  ·exact .inl h1
  ·exact .inr ⟨k, h1, h2.ik, h2.kl⟩
 ·rw [lists_none h] at hi; simp at hi
theorem chainN_none (cl m : List Int) (L : List (List Int)) (f : Nat) : chainN cl m L f (-1) = [] := by cases f <;> rfl
theorem chainN_more {cl m : List Int} {L : List (List Int)} (h : Onward cl m L) : ∀ (f g k : Nat), k < L.length → L.length ≤ k + f → L.length ≤ k + g → chainN cl m L f k = chainN cl m L g k := by
 intro f
 induction f with
 | zero => intro g k hk hf; omega
 | succ f ih =>
  intro g k hk hf hg
  cases g with
  | zero => omega
  | succ g =>
   simp only [chainN]
   rw [if_neg (by omega), if_neg (by omega), Int.toNat_natCast]
   rcases h k hk with h1 | ⟨k', h1, h2, h3⟩
   ·rw [h1, chainN_none, chainN_none]
   ·rw [h1, ih g k' h3 (by omega) (by omega)]
def chainI (cl m : List Int) (L : List (List Int)) (k : Nat) : List Int := chainN cl m L L.length k
theorem chainI_step {cl m : List Int} {L : List (List Int)} (h : Onward cl m L) {k : Nat} (hk : k < L.length) :
 (nextI cl m L k = -1 ∧ chainI cl m L k = L.getD k []) ∨ ∃ k' : Nat, nextI cl m L k = k' ∧ k < k' ∧ k' < L.length ∧ chainI cl m L k = L.getD k [] ++ chainI cl m L k' := by
 obtain ⟨n, hn⟩ : ∃ n, L.length = n + 1 := ⟨L.length - 1, by omega⟩
 have hc : chainI cl m L k = L.getD k [] ++ chainN cl m L n (nextI cl m L k) := by
  rw [chainI, hn, chainN, if_neg (by omega), Int.toNat_natCast]
 rcases h k hk with h1 | ⟨k', h1, h2, h3⟩
 ·exact .inl ⟨h1, by rw [hc, h1, chainN_none, List.append_nil]⟩
 ·refine .inr ⟨k', h1, h2, h3, ?_⟩
  rw [hc, h1, chainI, chainN_more h n L.length k' h3 (by omega) (by omega)]
theorem chainI_len {cl m : List Int} {L : List (List Int)} (h : Onward cl m L) {B : Nat} (hB : ∀ r ∈ L, r.length ≤ B) : ∀ d k, k < L.length → L.length - k ≤ d → (chainI cl m L k).length ≤ d * B := by
 intro d
 induction d with
 | zero => intro k hk hd; omega
 | succ d ih =>
  intro k hk hd
  have h1 : (L.getD k []).length ≤ B := by
   rw [show L.getD k [] = L[k] by simp [hk]]; exact hB _ (List.getElem_mem hk)
  have h2 : (d + 1) * B = d * B + B := by rw [Nat.add_mul, Nat.one_mul]
  rcases chainI_step h hk with ⟨_, e⟩ | ⟨k', _, hlt, hkl, e⟩
  ·rw [e]; omega
  ·rw [e, List.length_append]
   have := ih k' hkl (by omega)
   omega
structure Sq where
 pl : List Int
 lev : Int
 sos : Int
 eos : Int
 deriving DecidableEq
def goneN (cl m : List Int) (L : List (List Int)) (k j : Nat) : Bool := (List.range k).any fun i => nextI cl m L i == (j : Int)
theorem goneN_succ (cl m : List Int) (L : List (List Int)) (k j : Nat) : goneN cl m L (k + 1) j = (goneN cl m L k j || nextI cl m L k == (j : Int)) := by
 unfold goneN
 rw [List.range_succ, List.any_append]
 simp
def sqOf (cl lv : List Int) (base : Int) (pl : List Int) : Sq := ⟨pl, lv.getD (headI pl).toNat 0, sosI cl lv pl (lv.getD (headI pl).toNat 0) base, eosI cl lv pl base⟩
def seqsN (cl lv m : List Int) (base : Int) (L : List (List Int)) : Nat → List Sq
 | 0 => []
 | k + 1 => if goneN cl m L L.length k then seqsN cl lv m base L k else seqsN cl lv m base L k ++ [sqOf cl lv base (chainI cl m L k)]
def seqsI (cl lv : List Int) (base : Int) : List Sq := seqsN cl lv (mt cl) base (listsI cl lv) (listsI cl lv).length
theorem seqsN_le (cl lv m : List Int) (base : Int) (L : List (List Int)) : ∀ k, (seqsN cl lv m base L k).length ≤ k := by
 intro k
 induction k with
 | zero => exact Nat.le_refl _
 | succ k ih =>
  rw [seqsN]
  split
  ·omega
  ·rw [List.length_append, List.length_singleton]; omega
end Go.Proofs.YtcbaahlahohfmaaGreatDoor
namespace Go.Proofs.YtcbaahlahohfmaaGreatDoor
open Go.RowKit
theorem fresh_eq {cl lv : List Int} {k : Nat} (h0 : 0 < k) (hk : k < (seenQ cl).length) :
 freshAt cl lv (seenI cl) k = (at0 lv (seenQ cl)[k] != at0 lv ((seenQ cl)[k - 1]'(by omega)) || at0 cl ((seenQ cl)[k - 1]'(by omega)) == 10) := by
 unfold freshAt
 rw [show (k == 0) = false by simp; omega, Bool.false_or, seenI_getD, seenI_getD, Int.toNat_natCast, Int.toNat_natCast]
 simp only [List.getD_eq_getElem?_getD, List.getElem?_eq_getElem hk, List.getElem?_eq_getElem (show k - 1 < (seenQ cl).length by omega), Option.getD_some]
theorem run_level {cl lv : List Int} {L : List (List Int)} {u : Nat → Nat} (h : Split cl lv (seenI cl) (seenQ cl).length L u) {i : Nat} (hi : i < L.length) : ∀ d (_ : u i + d < u (i + 1)) (hs : u i + d < (seenQ cl).length) (hs0 : u i < (seenQ cl).length),
 at0 lv (seenQ cl)[u i + d] = at0 lv (seenQ cl)[u i] := by
 intro d
 induction d with
 | zero => intro _ _ _; rfl
 | succ d ih =>
  intro hx hs hs0
  have h1 := ih (by omega) (by omega) hs0
  have h2 := h.stale i hi (u i + (d + 1)) (by omega) hx
  rw [fresh_eq (by omega) hs] at h2
  simp only [show u i + (d + 1) - 1 = u i + d by omega, Bool.or_eq_false_iff, bne_eq_false_iff_eq] at h2
  rw [h2.1, h1]
def idxN (cl m : List Int) (L : List (List Int)) : Nat → Int → List Nat
 | 0, _ => []
 | f + 1, k => if k < 0 then [] else k.toNat :: idxN cl m L f (nextI cl m L k.toNat)
def idxI (cl m : List Int) (L : List (List Int)) (k : Nat) : List Nat := idxN cl m L L.length k
theorem idxN_chain (cl m : List Int) (L : List (List Int)) : ∀ f k, chainN cl m L f k = (idxN cl m L f k).flatMap fun j => L.getD j [] := by
 intro f
 induction f with
 | zero => intro k; rfl
 | succ f ih =>
  intro k
  simp only [chainN, idxN]
  split
  ·rfl
  ·rw [ih, List.flatMap_cons]
theorem idxN_none (cl m : List Int) (L : List (List Int)) (f : Nat) : idxN cl m L f (-1) = [] := by cases f <;> rfl
theorem idxN_more {cl m : List Int} {L : List (List Int)} (h : Onward cl m L) : ∀ (f g k : Nat), k < L.length → L.length ≤ k + f → L.length ≤ k + g → idxN cl m L f k = idxN cl m L g k := by
 intro f
 induction f with
 | zero => intro g k hk hf; omega
 | succ f ih =>
  intro g k hk hf hg
  cases g with
  | zero => omega
  | succ g =>
   simp only [idxN]
   rw [if_neg (by omega), if_neg (by omega), Int.toNat_natCast]
   rcases h k hk with h1 | ⟨k', h1, h2, h3⟩
   ·rw [h1, idxN_none, idxN_none]
   ·rw [h1, ih g k' h3 (by omega) (by omega)]
theorem idxI_step {cl m : List Int} {L : List (List Int)} (h : Onward cl m L) {k : Nat} (hk : k < L.length) :
 (nextI cl m L k = -1 ∧ idxI cl m L k = [k]) ∨ ∃ k' : Nat, nextI cl m L k = k' ∧ k < k' ∧ k' < L.length ∧ idxI cl m L k = k :: idxI cl m L k' := by
 obtain ⟨n, hn⟩ : ∃ n, L.length = n + 1 := ⟨L.length - 1, by omega⟩
 have hc : idxI cl m L k = k :: idxN cl m L n (nextI cl m L k) := by
  rw [idxI, hn, idxN, if_neg (by omega), Int.toNat_natCast]
 rcases h k hk with h1 | ⟨k', h1, h2, h3⟩
 ·exact .inl ⟨h1, by rw [hc, h1, idxN_none]⟩
 ·refine .inr ⟨k', h1, h2, h3, ?_⟩
  rw [hc, h1, idxI, idxN_more h n L.length k' h3 (by omega) (by omega)]
theorem idx_mem {cl m : List Int} {L : List (List Int)} (h : Onward cl m L) : ∀ d k, k < L.length → L.length - k ≤ d → (idxI cl m L k).Pairwise (· < ·) ∧
 ∀ j ∈ idxI cl m L k, k ≤ j ∧ j < L.length ∧ (j = k ∨ ∃ i, i ∈ idxI cl m L k ∧ nextI cl m L i = (j : Int)) ∧ ∀ i : Nat, nextI cl m L j = (i : Int) → i ∈ idxI cl m L k := by
 intro d
 induction d with
 | zero => intro k hk hd; omega
 | succ d ih =>
  intro k hk hd
  rcases idxI_step h hk with ⟨h1, e⟩ | ⟨k', h1, h2, h3, e⟩
  ·rw [e]
   refine ⟨List.pairwise_singleton _ _, fun j hj => ?_⟩
   rw [List.mem_singleton.1 hj]
   exact ⟨Nat.le_refl _, hk, .inl rfl, fun i hi => by rw [h1] at hi; omega⟩
  ·obtain ⟨p1, p2⟩ := ih k' h3 (by omega)
   rw [e]
   refine ⟨List.pairwise_cons.2 ⟨fun j hj => by have := (p2 j hj).1; omega, p1⟩, fun j hj => ?_⟩
   have hk' : k' ∈ idxI cl m L k' := by
    rcases idxI_step h h3 with ⟨_, e2⟩ | ⟨_, _, _, _, e2⟩ <;> rw [e2] <;> exact List.mem_cons_self
   rcases List.mem_cons.1 hj with rfl | hj
   ·refine ⟨Nat.le_refl _, hk, .inl rfl, fun i hi => List.mem_cons_of_mem _ ?_⟩
    rw [h1] at hi
    have hii : k' = i := by omega
    rw [← hii]; exact hk'
   ·obtain ⟨q1, q2, q3, q4⟩ := p2 j hj
    refine ⟨by omega, q2, .inr ?_, fun i hi => List.mem_cons_of_mem _ (q4 i hi)⟩
    rcases q3 with rfl | ⟨i, hi, hn⟩
    ·exact ⟨k, List.mem_cons_self, h1⟩
    ·exact ⟨i, List.mem_cons_of_mem _ hi, hn⟩
theorem idx_self {cl m : List Int} {L : List (List Int)} (h : Onward cl m L) {k : Nat} (hk : k < L.length) : k ∈ idxI cl m L k := by
 rcases idxI_step h hk with ⟨_, e2⟩ | ⟨_, _, _, _, e2⟩ <;> rw [e2] <;> exact List.mem_cons_self
def Once (cl m : List Int) (L : List (List Int)) : Prop := ∀ i j (k : Nat), i < L.length → j < L.length → nextI cl m L i = k → nextI cl m L j = k → i = j
theorem once_I {cl lv : List Int} {u : Nat → Nat} {L : List (List Int)} (h : Split cl lv (seenI cl) (seenQ cl).length L u) : Once cl (mt cl) L := by
 intro i j k hi hj h1 h2
 rcases next_goes h hi with e | ⟨k1, p1, q1, e1, g1⟩
 ·rw [e] at h1; omega
 rcases next_goes h hj with e | ⟨k2, p2, q2, e2, g2⟩
 ·rw [e] at h2; omega
 obtain rfl : k1 = k := by omega
 obtain rfl : k2 = k1 := by omega
 have hq : (q1 : Int) = q2 := by rw [← g1.head, ← g2.head]
 obtain rfl : q1 = q2 := by omega
 have hp : (p1 : Int) = p2 := by rw [← g1.mate.fb, ← g2.mate.fb]
 have hl : lastI L[i] = lastI L[j] := by
  have a1 := g1.last; have a2 := g2.last
  rw [show L.getD i [] = L[i] by simp [hi]] at a1
  rw [show L.getD j [] = L[j] by simp [hj]] at a2
  rw [a1, a2, hp]
 obtain ⟨x1, y1⟩ := h.last hi
 obtain ⟨x2, y2⟩ := h.last hj
 rw [y1, y2] at hl
 have hx := seenQ_inj cl x1 x2 (by omega)
 have m1 := h.lt (i := i) (j := i + 1) (by omega) (by omega)
 have m2 := h.lt (i := j) (j := j + 1) (by omega) (by omega)
 rcases Nat.lt_trichotomy i j with hh | hh | hh
 ·have := h.lt (i := i + 1) (j := j + 1) (by omega) (by omega); omega
 ·exact hh
 ·have := h.lt (i := j + 1) (j := i + 1) (by omega) (by omega); omega
def startsN (cl m : List Int) (L : List (List Int)) (k : Nat) : List Nat := (List.range k).filter fun i => !goneN cl m L L.length i
theorem gone_iff (cl m : List Int) (L : List (List Int)) (j : Nat) : goneN cl m L L.length j = true ↔ ∃ i, i < L.length ∧ nextI cl m L i = (j : Int) := by
 unfold goneN
 rw [List.any_eq_true]
 constructor
 ·rintro ⟨i, hi, h⟩; exact ⟨i, List.mem_range.1 hi, by simpa using h⟩
 ·rintro ⟨i, hi, h⟩; exact ⟨i, List.mem_range.2 hi, by simpa using h⟩
theorem starts_mem {cl m : List Int} {L : List (List Int)} {k i : Nat} : i ∈ startsN cl m L k ↔ i < k ∧ goneN cl m L L.length i = false := by
 unfold startsN
 rw [List.mem_filter, List.mem_range]
 simp
theorem seqsN_eq (cl lv m : List Int) (base : Int) (L : List (List Int)) : ∀ k, seqsN cl lv m base L k = (startsN cl m L k).map fun i => sqOf cl lv base (chainI cl m L i) := by
 intro k
 induction k with
 | zero => rfl
 | succ k ih =>
  rw [seqsN, startsN, List.range_succ, List.filter_append, List.map_append, ← startsN, ← ih]
  cases hg : goneN cl m L L.length k with
  | true => rw [if_pos rfl]; simp [hg]
  | false => rw [if_neg (by simp)]; simp [hg]
theorem chains_perm {cl m : List Int} {L : List (List Int)} (h : Onward cl m L) (hO : Once cl m L) : ((startsN cl m L L.length).flatMap (idxI cl m L)).Perm (List.range L.length) := by
 have hn : ((startsN cl m L L.length).flatMap (idxI cl m L)).Nodup := by
  unfold List.Nodup
  rw [List.pairwise_flatMap]
  refine ⟨fun i hi => ?_, ?_⟩
  ·have := (idx_mem h (L.length - i) i (starts_mem.1 hi).1 (Nat.le_refl _)).1
   exact this.imp (fun hab => by omega)
  ·have hs : (startsN cl m L L.length).Pairwise (· < ·) := List.Pairwise.filter _ List.pairwise_lt_range
   have key : ∀ j i i', i < L.length → i' < L.length → goneN cl m L L.length i = false → goneN cl m L L.length i' = false → j ∈ idxI cl m L i → j ∈ idxI cl m L i' → i = i' := by
    intro j
    induction j using Nat.strongRecOn with
    | _ j ih =>
     intro i i' hi hi' g g' hj hj'
     obtain ⟨a1, a2, a3, _⟩ := (idx_mem h (L.length - i) i hi (Nat.le_refl _)).2 j hj
     obtain ⟨b1, b2, b3, _⟩ := (idx_mem h (L.length - i') i' hi' (Nat.le_refl _)).2 j hj'
     rcases a3 with rfl | ⟨x, hx, nx⟩
     ·rcases b3 with rfl | ⟨y, hy, ny⟩
      ·rfl
      ·have hyl := ((idx_mem h (L.length - i') i' hi' (Nat.le_refl _)).2 y hy).2.1
       have := (gone_iff cl m L j).2 ⟨y, hyl, ny⟩
       rw [g] at this; cases this
     ·have hxl := ((idx_mem h (L.length - i) i hi (Nat.le_refl _)).2 x hx).2.1
      rcases b3 with rfl | ⟨y, hy, ny⟩
      ·have := (gone_iff cl m L j).2 ⟨x, hxl, nx⟩
       rw [g'] at this; cases this
      ·have hyl := ((idx_mem h (L.length - i') i' hi' (Nat.le_refl _)).2 y hy).2.1
       obtain rfl := hO x y j hxl hyl nx ny
       have hlt : x < j := by
        rcases h x hxl with e | ⟨k', e, e2, _⟩
        ·rw [e] at nx; omega
        ·rw [e] at nx; omega
       exact ih x hlt i i' hi hi' g g' hx hy
   refine List.Pairwise.imp_of_mem ?_ hs
   intro i i' hi hi' hlt x hx y hy hxy
   subst hxy
   obtain ⟨c1, c2⟩ := starts_mem.1 hi
   obtain ⟨d1, d2⟩ := starts_mem.1 hi'
   have := key x i i' c1 d1 c2 d2 hx hy
   omega
 have hm : ∀ j, j ∈ (startsN cl m L L.length).flatMap (idxI cl m L) ↔ j ∈ List.range L.length := by
  intro j
  rw [List.mem_flatMap, List.mem_range]
  constructor
  ·rintro ⟨i, hi, hj⟩
   exact ((idx_mem h (L.length - i) i (starts_mem.1 hi).1 (Nat.le_refl _)).2 j hj).2.1
  ·induction j using Nat.strongRecOn with
   | _ j ih =>
    intro hj
    cases hg : goneN cl m L L.length j with
    | false => exact ⟨j, starts_mem.2 ⟨hj, hg⟩, idx_self h hj⟩
    | true =>
     obtain ⟨x, hxl, nx⟩ := (gone_iff cl m L j).1 hg
     have hlt : x < j := by
      rcases h x hxl with e | ⟨k', e, e2, _⟩
      ·rw [e] at nx; omega
      ·rw [e] at nx; omega
     obtain ⟨i, hi, hx⟩ := ih x hlt hxl
     exact ⟨i, hi, ((idx_mem h (L.length - i) i (starts_mem.1 hi).1 (Nat.le_refl _)).2 x hx).2.2.2 j nx⟩
 rw [List.perm_iff_count]
 intro a
 rw [hn.count, List.nodup_range.count]
 simp only [hm a]
theorem addLast_flatten {L : List (List Int)} {p : Int} (h : 0 < L.length) : (addLast L p).flatten = L.flatten ++ [p] := by
 rcases List.eq_nil_or_concat L with rfl | ⟨l', b, rfl⟩
 ·simp at h
 ·rw [List.concat_eq_append]
  unfold addLast
  simp
theorem lists_flatten (cl lv s : List Int) : ∀ k, k ≤ s.length → (listsN cl lv s k).flatten = s.take k := by
 intro k
 induction k with
 | zero => intro _; simp [listsN]
 | succ k ih =>
  intro hk
  have h1 := ih (by omega)
  have h2 := listsN_le cl lv s k
  have hs : s.take (k + 1) = s.take k ++ [s.getD k 0] := by
   rw [List.take_succ_eq_append_getElem (by omega)]
   simp [show k < s.length by omega]
  rw [listsN, hs]
  cases hf : freshAt cl lv s k with
  | true => rw [if_pos rfl, addLast_push, List.flatten_append, h1]; simp
  | false =>
   rw [if_neg (by simp)]
   have hk0 : 0 < k := by
    rcases Nat.eq_zero_or_pos k with h0 | h0
    ·subst h0; simp [freshAt] at hf
    ·exact h0
   rw [addLast_flatten (h2.2 hk0), h1]
theorem listsI_flatten {cl lv : List Int} (he : cl.length = lv.length) : (listsI cl lv).flatten = seenI cl := by
 rw [listsI, if_pos he, lists_flatten _ _ _ _ (Nat.le_refl _), List.take_length]
theorem range_flatMap (L : List (List Int)) : (List.range L.length).flatMap (fun j => L.getD j []) = L.flatten := by
 rw [List.flatMap_def]
 congr 1
 apply List.ext_getElem
 ·simp
 ·intro i h1 h2
  simp at h1
  simp [h1]
theorem seqs_perm {cl lv : List Int} (he : cl.length = lv.length) (base : Int) : (((seqsI cl lv base).map (·.pl)).flatten).Perm (seenI cl) := by
 obtain ⟨u, hu⟩ := split_I he
 have hp := (chains_perm (onward_I cl lv) (once_I hu)).flatMap_right (fun j => (listsI cl lv).getD j [])
 rw [range_flatMap, listsI_flatten he, List.flatMap_assoc] at hp
 have e : ((seqsI cl lv base).map (·.pl)).flatten = (startsN cl (mt cl) (listsI cl lv) (listsI cl lv).length).flatMap (fun x => (idxI cl (mt cl) (listsI cl lv) x).flatMap fun j => (listsI cl lv).getD j []) := by
  rw [seqsI, seqsN_eq, List.map_map, List.flatMap_def]
  congr 1
  apply List.map_congr_left
  intro i _
  show chainI cl (mt cl) (listsI cl lv) i = _
  rw [chainI, idxN_chain]; rfl
 rw [e]; exact hp
end Go.Proofs.YtcbaahlahohfmaaGreatDoor
namespace Go.Proofs.YtcbaahlahohfmaaGreatDoor
open Go.RowKit
def sdB (k : Int) : Int := if k = 0 then 0 else if k = 1 ∨ k = 3 ∨ k = 6 then 1 else -1
theorem rside10_any (k : Int) (w : World) : Calls Tryz.prog 71 #[.int .i64 k] w fun e w' => e = .returned (.int .i64 (sdB k)) ∧ w = w' := by
 obtain ⟨z, hz⟩ : ∃ z, sdB k = z := ⟨_, rfl⟩
 have HZ := Lib.hid hz
 rw [hz]
 clear hz
 rcases e0 : (k == 0) with _ | _
 ·rcases e1 : (k == 1) with _ | _
  ·rcases e3 : (k == 3) with _ | _
   ·rcases e6 : (k == 6) with _ | _
    ·have HF : Hid (z = -1) := Lib.hid (by rw [← HZ.out, sdB, if_neg (by simpa using e0), if_neg (by simp at e1 e3 e6; omega)])
     go_enter Tryz.func71, Tryz.ntmps71
     go_wp2
     go_ret
     exact ⟨ret_int HF.out.symm, rfl⟩
    ·have HF : Hid (z = 1) := Lib.hid (by rw [← HZ.out, sdB, if_neg (by simpa using e0), if_pos (by simp at e1 e3 e6; omega)])
     go_enter Tryz.func71, Tryz.ntmps71
     go_wp2
     go_ret
     exact ⟨ret_int HF.out.symm, rfl⟩
   ·have HF : Hid (z = 1) := Lib.hid (by rw [← HZ.out, sdB, if_neg (by simpa using e0), if_pos (by simp at e1 e3; omega)])
    go_enter Tryz.func71, Tryz.ntmps71
    go_wp2
    go_ret
    exact ⟨ret_int HF.out.symm, rfl⟩
  ·have HF : Hid (z = 1) := Lib.hid (by rw [← HZ.out, sdB, if_neg (by simpa using e0), if_pos (by simp at e1; omega)])
   go_enter Tryz.func71, Tryz.ntmps71
   go_wp2
   go_ret
   exact ⟨ret_int HF.out.symm, rfl⟩
 ·have HF : Hid (z = 0) := Lib.hid (by rw [← HZ.out, sdB, if_pos (by simpa using e0)])
  go_enter Tryz.func71, Tryz.ntmps71
  go_wp2
  go_ret
  exact ⟨ret_int HF.out.symm, rfl⟩
def hasS (s : Int) (l : List Int) (a b : Nat) : Bool := ((l.take b).drop a).any fun c => sdB c == s
theorem hasS_begin (s : Int) (l : List Int) (a : Nat) : hasS s l a a = false := by
 unfold hasS
 rw [List.drop_of_length_le (by simp; omega)]; rfl
theorem hasS_none (s : Int) (l : List Int) {a b : Nat} (h : b ≤ a) : hasS s l a b = false := by
 unfold hasS
 rw [List.drop_of_length_le (by simp; omega)]; rfl
theorem hasS_next (s : Int) (l : List Int) (a b : Nat) (h : a ≤ b) (hb : b < l.length) : hasS s l a (b + 1) = (hasS s l a b || sdB l[b] == s) := by
 unfold hasS
 rw [List.take_succ_eq_append_getElem hb, List.drop_append_of_le_length (by simp; omega), List.any_append]
 simp
def lowB (f : Int) : Nat := (max 0 f).toNat
def highB (l : List Int) (t : Int) : Nat := (min t l.length).toNat
def hasL (l : List Int) (f t : Int) : Bool := hasS 0 l (lowB f) (highB l t)
def hasR (l : List Int) (f t : Int) : Bool := hasS 1 l (lowB f) (highB l t)
set_option maxHeartbeats 4000000 in
theorem rsides10_any (A : Option Addr) (l : List Int) (c : Nat) (f t : Int) (w : World) (h : Lies w w.heap.size A (ints .i64 l)) (hl : l.length ≤ 1000000) (hf : -9223372036854775808 ≤ f ∧ f ≤ 9223372036854775807) :
 Calls Tryz.prog 70 #[.slice A l.length c, .int .i64 f, .int .i64 t] w fun e w' => e = .returned (.tuple #[.bool (hasL l f t), .bool (hasR l f t)]) ∧ w = w' := by
 have H := Lib.hid h
 obtain ⟨z0, hz0⟩ : ∃ z, hasL l f t = z := ⟨_, rfl⟩
 obtain ⟨z1, hz1⟩ : ∃ z, hasR l f t = z := ⟨_, rfl⟩
 have Z0 := Lib.hid hz0
 have Z1 := Lib.hid hz1
 rw [hz0, hz1]
 obtain ⟨a, ha⟩ : ∃ a, lowB f = a := ⟨_, rfl⟩
 have HA := Lib.hid ha
 have haf : (a : Int) = max 0 f := by rw [← ha, lowB]; omega
 clear h hz0 hz1 ha
 rcases Decidable.em (0 < f) with h1 | h1
 ·rcases Decidable.em ((l.length : Int) < t) with h2 | h2
  ·have TT := trivial
   go_enter Tryz.func70, Tryz.ntmps70
   go_wp2_with fail
   go_loopw [10, 8, 9] (fun iv lv rv wr => ∃ i : Nat, (a = i ∨ i ≤ highB l t) ∧ a ≤ i ∧ iv = .int .i64 i ∧ lv = .bool (hasS 0 l a i) ∧ rv = .bool (hasS 1 l a i) ∧ wr = w) (fun iv _ _ _ => l.length - (intOf iv).toNat)
   case atStart => exact ⟨a, .inl rfl, Nat.le_refl _, by rw [show (a : Int) = f by omega], by rw [hasS_begin], by rw [hasS_begin], rfl⟩
   case round =>
    obtain ⟨i, hi, hia, rfl, rfl, rfl, rfl⟩ := hrel
    obtain ⟨lb, hlb⟩ : ∃ z, hasS 0 l a i = z := ⟨_, rfl⟩
    obtain ⟨rb, hrb⟩ : ∃ z, hasS 1 l a i = z := ⟨_, rfl⟩
    rw [hlb, hrb]
    have HLB := Lib.hid hlb
    have HRB := Lib.hid hrb
    clear hlb hrb
    by_cases hlt : (i : Int) < (l.length : Int)
    ·have hil : i < l.length := by omega
     obtain ⟨p, hp, _, hc⟩ := H.out.int hil
     subst hp
     obtain ⟨x, hx⟩ : ∃ x, l[i] = x := ⟨_, rfl⟩
     rw [hx] at hc
     have HX := Lib.hid hx
     have HL := Lib.hid (hasS_next 0 l a i hia hil)
     have HR := Lib.hid (hasS_next 1 l a i hia hil)
     have b0 : (0 : Int) ≤ (i : Int) := by omega
     have b1 : (i : Int) < (l.length : Int) := by omega
     have hdd : decide ((i : Int) < (l.length : Int)) = true := by simpa using hlt
     clear hx
     rcases lb with _ | _
     ·rcases rb with _ | _
      ·have TT := trivial
       go_wp2_with fail
       refine (rside10_any x _).mono ?_
       rintro e wq ⟨rfl, rfl⟩
       go_wp2_with fail
       refine (rside10_any x _).mono ?_
       rintro e wq ⟨rfl, rfl⟩
       go_wp2_with fail
       go_roundw
       case rel => exact ⟨i + 1, by first | exact .inr (by unfold highB; omega) | omega, by omega, by go_num, by rw [HL.out, HLB.out, HX.out]; first | rfl | simp, by rw [HR.out, HRB.out, HX.out]; first | rfl | simp, by first | rfl | trivial⟩
       case measure => simp [intOf]; omega
      ·have TT := trivial
       go_wp2_with fail
       refine (rside10_any x _).mono ?_
       rintro e wq ⟨rfl, rfl⟩
       go_wp2_with fail
       go_roundw
       case rel => exact ⟨i + 1, by first | exact .inr (by unfold highB; omega) | omega, by omega, by go_num, by rw [HL.out, HLB.out, HX.out]; first | rfl | simp, by rw [HR.out, HRB.out, HX.out]; first | rfl | simp, by first | rfl | trivial⟩
       case measure => simp [intOf]; omega
     ·rcases rb with _ | _
      ·have TT := trivial
       go_wp2_with fail
       refine (rside10_any x _).mono ?_
       rintro e wq ⟨rfl, rfl⟩
       go_wp2_with fail
       go_roundw
       case rel => exact ⟨i + 1, by first | exact .inr (by unfold highB; omega) | omega, by omega, by go_num, by rw [HL.out, HLB.out, HX.out]; first | rfl | simp, by rw [HR.out, HRB.out, HX.out]; first | rfl | simp, by first | rfl | trivial⟩
       case measure => simp [intOf]; omega
      ·have TT := trivial
       go_wp2_with fail
       go_roundw
       case rel => exact ⟨i + 1, by first | exact .inr (by unfold highB; omega) | omega, by omega, by go_num, by rw [HL.out, HLB.out, HX.out]; first | rfl | simp, by rw [HR.out, HRB.out, HX.out]; first | rfl | simp, by first | rfl | trivial⟩
       case measure => simp [intOf]; omega
    ·have hdd : decide ((i : Int) < (l.length : Int)) = false := by simpa using hlt
     have HEND : Hid (lb = z0 ∧ rb = z1) := Lib.hid (by
      rw [← HLB.out, ← HRB.out, ← Z0.out, ← Z1.out, hasL, hasR]
      by_cases hab : a ≤ highB l t
      ·have : i = highB l t := by unfold highB at *; omega
       rw [this, HA.out]; exact ⟨rfl, rfl⟩
      ·rw [hasS_none 0 l (by omega), hasS_none 1 l (by omega), hasS_none 0 l (by rw [HA.out]; omega), hasS_none 1 l (by rw [HA.out]; omega)]; exact ⟨rfl, rfl⟩)
     go_wp2_with fail
     go_ret2
     exact ⟨by rw [HEND.out.1, HEND.out.2]; rfl, rfl⟩
  ·have TT := trivial
   go_enter Tryz.func70, Tryz.ntmps70
   go_wp2_with fail
   go_loopw [10, 8, 9] (fun iv lv rv wr => ∃ i : Nat, (a = i ∨ i ≤ highB l t) ∧ a ≤ i ∧ iv = .int .i64 i ∧ lv = .bool (hasS 0 l a i) ∧ rv = .bool (hasS 1 l a i) ∧ wr = w) (fun iv _ _ _ => l.length - (intOf iv).toNat)
   case atStart => exact ⟨a, .inl rfl, Nat.le_refl _, by rw [show (a : Int) = f by omega], by rw [hasS_begin], by rw [hasS_begin], rfl⟩
   case round =>
    obtain ⟨i, hi, hia, rfl, rfl, rfl, rfl⟩ := hrel
    obtain ⟨lb, hlb⟩ : ∃ z, hasS 0 l a i = z := ⟨_, rfl⟩
    obtain ⟨rb, hrb⟩ : ∃ z, hasS 1 l a i = z := ⟨_, rfl⟩
    rw [hlb, hrb]
    have HLB := Lib.hid hlb
    have HRB := Lib.hid hrb
    clear hlb hrb
    by_cases hlt : (i : Int) < t
    ·have hil : i < l.length := by omega
     obtain ⟨p, hp, _, hc⟩ := H.out.int hil
     subst hp
     obtain ⟨x, hx⟩ : ∃ x, l[i] = x := ⟨_, rfl⟩
     rw [hx] at hc
     have HX := Lib.hid hx
     have HL := Lib.hid (hasS_next 0 l a i hia hil)
     have HR := Lib.hid (hasS_next 1 l a i hia hil)
     have b0 : (0 : Int) ≤ (i : Int) := by omega
     have b1 : (i : Int) < (l.length : Int) := by omega
     have hdd : decide ((i : Int) < t) = true := by simpa using hlt
     clear hx
     rcases lb with _ | _
     ·rcases rb with _ | _
      ·have TT := trivial
       go_wp2_with fail
       refine (rside10_any x _).mono ?_
       rintro e wq ⟨rfl, rfl⟩
       go_wp2_with fail
       refine (rside10_any x _).mono ?_
       rintro e wq ⟨rfl, rfl⟩
       go_wp2_with fail
       go_roundw
       case rel => exact ⟨i + 1, by first | exact .inr (by unfold highB; omega) | omega, by omega, by go_num, by rw [HL.out, HLB.out, HX.out]; first | rfl | simp, by rw [HR.out, HRB.out, HX.out]; first | rfl | simp, by first | rfl | trivial⟩
       case measure => simp [intOf]; omega
      ·have TT := trivial
       go_wp2_with fail
       refine (rside10_any x _).mono ?_
       rintro e wq ⟨rfl, rfl⟩
       go_wp2_with fail
       go_roundw
       case rel => exact ⟨i + 1, by first | exact .inr (by unfold highB; omega) | omega, by omega, by go_num, by rw [HL.out, HLB.out, HX.out]; first | rfl | simp, by rw [HR.out, HRB.out, HX.out]; first | rfl | simp, by first | rfl | trivial⟩
       case measure => simp [intOf]; omega
     ·rcases rb with _ | _
      ·have TT := trivial
       go_wp2_with fail
       refine (rside10_any x _).mono ?_
       rintro e wq ⟨rfl, rfl⟩
       go_wp2_with fail
       go_roundw
       case rel => exact ⟨i + 1, by first | exact .inr (by unfold highB; omega) | omega, by omega, by go_num, by rw [HL.out, HLB.out, HX.out]; first | rfl | simp, by rw [HR.out, HRB.out, HX.out]; first | rfl | simp, by first | rfl | trivial⟩
       case measure => simp [intOf]; omega
      ·have TT := trivial
       go_wp2_with fail
       go_roundw
       case rel => exact ⟨i + 1, by first | exact .inr (by unfold highB; omega) | omega, by omega, by go_num, by rw [HL.out, HLB.out, HX.out]; first | rfl | simp, by rw [HR.out, HRB.out, HX.out]; first | rfl | simp, by first | rfl | trivial⟩
       case measure => simp [intOf]; omega
    ·have hdd : decide ((i : Int) < t) = false := by simpa using hlt
     have HEND : Hid (lb = z0 ∧ rb = z1) := Lib.hid (by
      rw [← HLB.out, ← HRB.out, ← Z0.out, ← Z1.out, hasL, hasR]
      by_cases hab : a ≤ highB l t
      ·have : i = highB l t := by unfold highB at *; omega
       rw [this, HA.out]; exact ⟨rfl, rfl⟩
      ·rw [hasS_none 0 l (by omega), hasS_none 1 l (by omega), hasS_none 0 l (by rw [HA.out]; omega), hasS_none 1 l (by rw [HA.out]; omega)]; exact ⟨rfl, rfl⟩)
     go_wp2_with fail
     go_ret2
     exact ⟨by rw [HEND.out.1, HEND.out.2]; rfl, rfl⟩
 ·rcases Decidable.em ((l.length : Int) < t) with h2 | h2
  ·have TT := trivial
   go_enter Tryz.func70, Tryz.ntmps70
   go_wp2_with fail
   go_loopw [10, 8, 9] (fun iv lv rv wr => ∃ i : Nat, (a = i ∨ i ≤ highB l t) ∧ a ≤ i ∧ iv = .int .i64 i ∧ lv = .bool (hasS 0 l a i) ∧ rv = .bool (hasS 1 l a i) ∧ wr = w) (fun iv _ _ _ => l.length - (intOf iv).toNat)
   case atStart => exact ⟨a, .inl rfl, Nat.le_refl _, by rw [show (a : Int) = 0 by omega], by rw [hasS_begin], by rw [hasS_begin], rfl⟩
   case round =>
    obtain ⟨i, hi, hia, rfl, rfl, rfl, rfl⟩ := hrel
    obtain ⟨lb, hlb⟩ : ∃ z, hasS 0 l a i = z := ⟨_, rfl⟩
    obtain ⟨rb, hrb⟩ : ∃ z, hasS 1 l a i = z := ⟨_, rfl⟩
    rw [hlb, hrb]
    have HLB := Lib.hid hlb
    have HRB := Lib.hid hrb
    clear hlb hrb
    by_cases hlt : (i : Int) < (l.length : Int)
    ·have hil : i < l.length := by omega
     obtain ⟨p, hp, _, hc⟩ := H.out.int hil
     subst hp
     obtain ⟨x, hx⟩ : ∃ x, l[i] = x := ⟨_, rfl⟩
     rw [hx] at hc
     have HX := Lib.hid hx
     have HL := Lib.hid (hasS_next 0 l a i hia hil)
     have HR := Lib.hid (hasS_next 1 l a i hia hil)
     have b0 : (0 : Int) ≤ (i : Int) := by omega
     have b1 : (i : Int) < (l.length : Int) := by omega
     have hdd : decide ((i : Int) < (l.length : Int)) = true := by simpa using hlt
     clear hx
     rcases lb with _ | _
     ·rcases rb with _ | _
      ·have TT := trivial
       go_wp2_with fail
       refine (rside10_any x _).mono ?_
       rintro e wq ⟨rfl, rfl⟩
       go_wp2_with fail
       refine (rside10_any x _).mono ?_
       rintro e wq ⟨rfl, rfl⟩
       go_wp2_with fail
       go_roundw
       case rel => exact ⟨i + 1, by first | exact .inr (by unfold highB; omega) | omega, by omega, by go_num, by rw [HL.out, HLB.out, HX.out]; first | rfl | simp, by rw [HR.out, HRB.out, HX.out]; first | rfl | simp, by first | rfl | trivial⟩
       case measure => simp [intOf]; omega
      ·have TT := trivial
       go_wp2_with fail
       refine (rside10_any x _).mono ?_
       rintro e wq ⟨rfl, rfl⟩
       go_wp2_with fail
       go_roundw
       case rel => exact ⟨i + 1, by first | exact .inr (by unfold highB; omega) | omega, by omega, by go_num, by rw [HL.out, HLB.out, HX.out]; first | rfl | simp, by rw [HR.out, HRB.out, HX.out]; first | rfl | simp, by first | rfl | trivial⟩
       case measure => simp [intOf]; omega
     ·rcases rb with _ | _
      ·have TT := trivial
       go_wp2_with fail
       refine (rside10_any x _).mono ?_
       rintro e wq ⟨rfl, rfl⟩
       go_wp2_with fail
       go_roundw
       case rel => exact ⟨i + 1, by first | exact .inr (by unfold highB; omega) | omega, by omega, by go_num, by rw [HL.out, HLB.out, HX.out]; first | rfl | simp, by rw [HR.out, HRB.out, HX.out]; first | rfl | simp, by first | rfl | trivial⟩
       case measure => simp [intOf]; omega
      ·have TT := trivial
       go_wp2_with fail
       go_roundw
       case rel => exact ⟨i + 1, by first | exact .inr (by unfold highB; omega) | omega, by omega, by go_num, by rw [HL.out, HLB.out, HX.out]; first | rfl | simp, by rw [HR.out, HRB.out, HX.out]; first | rfl | simp, by first | rfl | trivial⟩
       case measure => simp [intOf]; omega
    ·have hdd : decide ((i : Int) < (l.length : Int)) = false := by simpa using hlt
     have HEND : Hid (lb = z0 ∧ rb = z1) := Lib.hid (by
      rw [← HLB.out, ← HRB.out, ← Z0.out, ← Z1.out, hasL, hasR]
      by_cases hab : a ≤ highB l t
      ·have : i = highB l t := by unfold highB at *; omega
       rw [this, HA.out]; exact ⟨rfl, rfl⟩
      ·rw [hasS_none 0 l (by omega), hasS_none 1 l (by omega), hasS_none 0 l (by rw [HA.out]; omega), hasS_none 1 l (by rw [HA.out]; omega)]; exact ⟨rfl, rfl⟩)
     go_wp2_with fail
     go_ret2
     exact ⟨by rw [HEND.out.1, HEND.out.2]; rfl, rfl⟩
  ·have TT := trivial
   go_enter Tryz.func70, Tryz.ntmps70
   go_wp2_with fail
   go_loopw [10, 8, 9] (fun iv lv rv wr => ∃ i : Nat, (a = i ∨ i ≤ highB l t) ∧ a ≤ i ∧ iv = .int .i64 i ∧ lv = .bool (hasS 0 l a i) ∧ rv = .bool (hasS 1 l a i) ∧ wr = w) (fun iv _ _ _ => l.length - (intOf iv).toNat)
   case atStart => exact ⟨a, .inl rfl, Nat.le_refl _, by rw [show (a : Int) = 0 by omega], by rw [hasS_begin], by rw [hasS_begin], rfl⟩
   case round =>
    obtain ⟨i, hi, hia, rfl, rfl, rfl, rfl⟩ := hrel
    obtain ⟨lb, hlb⟩ : ∃ z, hasS 0 l a i = z := ⟨_, rfl⟩
    obtain ⟨rb, hrb⟩ : ∃ z, hasS 1 l a i = z := ⟨_, rfl⟩
    rw [hlb, hrb]
    have HLB := Lib.hid hlb
    have HRB := Lib.hid hrb
    clear hlb hrb
    by_cases hlt : (i : Int) < t
    ·have hil : i < l.length := by omega
     obtain ⟨p, hp, _, hc⟩ := H.out.int hil
     subst hp
     obtain ⟨x, hx⟩ : ∃ x, l[i] = x := ⟨_, rfl⟩
     rw [hx] at hc
     have HX := Lib.hid hx
     have HL := Lib.hid (hasS_next 0 l a i hia hil)
     have HR := Lib.hid (hasS_next 1 l a i hia hil)
     have b0 : (0 : Int) ≤ (i : Int) := by omega
     have b1 : (i : Int) < (l.length : Int) := by omega
     have hdd : decide ((i : Int) < t) = true := by simpa using hlt
     clear hx
     rcases lb with _ | _
     ·rcases rb with _ | _
      ·have TT := trivial
       go_wp2_with fail
       refine (rside10_any x _).mono ?_
       rintro e wq ⟨rfl, rfl⟩
       go_wp2_with fail
       refine (rside10_any x _).mono ?_
       rintro e wq ⟨rfl, rfl⟩
       go_wp2_with fail
       go_roundw
       case rel => exact ⟨i + 1, by first | exact .inr (by unfold highB; omega) | omega, by omega, by go_num, by rw [HL.out, HLB.out, HX.out]; first | rfl | simp, by rw [HR.out, HRB.out, HX.out]; first | rfl | simp, by first | rfl | trivial⟩
       case measure => simp [intOf]; omega
      ·have TT := trivial
       go_wp2_with fail
       refine (rside10_any x _).mono ?_
       rintro e wq ⟨rfl, rfl⟩
       go_wp2_with fail
       go_roundw
       case rel => exact ⟨i + 1, by first | exact .inr (by unfold highB; omega) | omega, by omega, by go_num, by rw [HL.out, HLB.out, HX.out]; first | rfl | simp, by rw [HR.out, HRB.out, HX.out]; first | rfl | simp, by first | rfl | trivial⟩
       case measure => simp [intOf]; omega
     ·rcases rb with _ | _
      ·have TT := trivial
       go_wp2_with fail
       refine (rside10_any x _).mono ?_
       rintro e wq ⟨rfl, rfl⟩
       go_wp2_with fail
       go_roundw
       case rel => exact ⟨i + 1, by first | exact .inr (by unfold highB; omega) | omega, by omega, by go_num, by rw [HL.out, HLB.out, HX.out]; first | rfl | simp, by rw [HR.out, HRB.out, HX.out]; first | rfl | simp, by first | rfl | trivial⟩
       case measure => simp [intOf]; omega
      ·have TT := trivial
       go_wp2_with fail
       go_roundw
       case rel => exact ⟨i + 1, by first | exact .inr (by unfold highB; omega) | omega, by omega, by go_num, by rw [HL.out, HLB.out, HX.out]; first | rfl | simp, by rw [HR.out, HRB.out, HX.out]; first | rfl | simp, by first | rfl | trivial⟩
       case measure => simp [intOf]; omega
    ·have hdd : decide ((i : Int) < t) = false := by simpa using hlt
     have HEND : Hid (lb = z0 ∧ rb = z1) := Lib.hid (by
      rw [← HLB.out, ← HRB.out, ← Z0.out, ← Z1.out, hasL, hasR]
      by_cases hab : a ≤ highB l t
      ·have : i = highB l t := by unfold highB at *; omega
       rw [this, HA.out]; exact ⟨rfl, rfl⟩
      ·rw [hasS_none 0 l (by omega), hasS_none 1 l (by omega), hasS_none 0 l (by rw [HA.out]; omega), hasS_none 1 l (by rw [HA.out]; omega)]; exact ⟨rfl, rfl⟩)
     go_wp2_with fail
     go_ret2
     exact ⟨by rw [HEND.out.1, HEND.out.2]; rfl, rfl⟩
end Go.Proofs.YtcbaahlahohfmaaGreatDoor
