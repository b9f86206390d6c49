/- Shared texts, shaken for one claim. -/
import Derived.Test.YtadfleopbpomfaaZA1
import Derived.Test.YtadfleopbpomfaaZA2
namespace Go.Proofs.Ytadfleopbpomfaa
open Go.RowKit Reckon
abbrev at0 (l : List Int) (j : Nat) : Int := l.getD j 0
theorem at0_eq {l : List Int} {j : Nat} (h : j < l.length) : at0 l j = l[j] := by simp [at0, h]
inductive Look where
 | run (d : Nat)
 | done (r : Option Nat)
 deriving DecidableEq
def lookStep (d k : Nat) (x : Int) : Look :=
 if x = 10 then .done none
 else if isOpens x then .run (d + 1)
 else if x = 22 then (if d ≤ 1 then .done (some k) else .run (d - 1))
 else .run d
def look : List Int → Nat → Nat → Look
 | [], d, _ => .run d
 | x :: xs, d, k => match lookStep d k x with
  | .run d' => look xs d' (k + 1)
  | .done r => .done r
def Look.int : Look → Int
 | .done (some k) => k
 | _ => -1
def endOf (l : List Int) (i : Nat) : Int := (look (l.drop (i + 1)) 1 (i + 1)).int
theorem look_snoc (xs : List Int) (x : Int) : ∀ d k, look (xs ++ [x]) d k = match look xs d k with
 | .run d' => lookStep d' (k + xs.length) x
 | .done r => .done r := by
 induction xs with
 | nil => intro d k; simp only [List.nil_append, look, List.length_nil, Nat.add_zero]; cases lookStep d k x <;> rfl
 | cons y ys ih =>
  intro d k
  simp only [List.cons_append, look]
  cases h : lookStep d k y with
  | done r => rfl
  | run d' => simp only [ih, List.length_cons]; rw [show k + 1 + ys.length = k + (ys.length + 1) by omega]
def lk (l : List Int) (p i : Nat) : Look := look ((l.take i).drop (p + 1)) 1 (p + 1)
theorem lk_begin (l : List Int) (i : Nat) : lk l i (i + 1) = .run 1 := by
 unfold lk
 rw [List.drop_of_length_le (by simp; omega)]
 rfl
theorem lk_next (l : List Int) (p i : Nat) (hp : p < i) (hi : i < l.length) : lk l p (i + 1) = match lk l p i with
 | .run d' => lookStep d' i (at0 l i)
 | .done r => .done r := by
 unfold lk
 rw [List.take_succ_eq_append_getElem hi, List.drop_append_of_le_length (by simp; omega), look_snoc]
 have : p + 1 + ((l.take i).drop (p + 1)).length = i := by simp; omega
 rw [this, at0_eq hi]
theorem lk_end (l : List Int) (p : Nat) : (lk l p l.length).int = endOf l p := by
 unfold lk endOf; rw [List.take_length]
def upd (f : Nat → Int) (i : Nat) (v : Int) : Nat → Int := fun j => if j = i then v else f j
def mStep (s : List Nat × (Nat → Int)) (i : Nat) (x : Int) : List Nat × (Nat → Int) :=
 if x = 10 then ([], upd s.2 i (-1))
 else if isOpens x then (i :: s.1, upd s.2 i (-1))
 else if x = 22 then match s.1 with
  | [] => ([], upd s.2 i (-1))
  | p :: st => (st, upd (upd (upd s.2 i (-1)) i p) p i)
 else (s.1, upd s.2 i (-1))
def mrun (l : List Int) : Nat → List Nat × (Nat → Int)
 | 0 => ([], fun _ => 0)
 | i + 1 => mStep (mrun l i) i (at0 l i)
def listOf (n : Nat) (f : Nat → Int) : List Int := (List.range n).map f
@[simp] theorem listOf_length (n : Nat) (f : Nat → Int) : (listOf n f).length = n := by simp [listOf]
theorem listOf_set (n : Nat) (f : Nat → Int) (i : Nat) (v : Int) : (listOf n f).set i v = listOf n (upd f i v) := by
 apply List.ext_getElem
 ·simp
 ·intro j h1 h2
  simp only [List.getElem_set, listOf, List.getElem_map, List.getElem_range, upd]
  by_cases h : i = j
  ·simp [h]
  ·simp [h, Ne.symm h]
def mt (l : List Int) : List Int := listOf l.length (mrun l l.length).2
structure Mate (l : List Int) (st : List Nat) (f : Nat → Int) (i a b : Nat) : Prop where
 lt : a < b
 bi : b < i
 fa : f a = b
 fb : f b = a
 is : at0 l b = 22
 within : ∀ j, a < j → j < b → at0 l j ≠ 10 ∧ j ∉ st ∧ (f j = -1 ∨ ∃ m : Nat, f j = m ∧ a < m ∧ m < b)
structure MInv (l : List Int) (i : Nat) (st : List Nat) (f : Nat → Int) : Prop where
 dec : st.Pairwise (· > ·)
 open_ : ∀ p ∈ st, p < i ∧ isOpens (at0 l p) = true ∧ f p = -1 ∧ ∀ j, p < j → j < i → at0 l j ≠ 10
 op : ∀ a, a < i → isOpens (at0 l a) = true → f a = -1 ∨ ∃ b, Mate l st f i a b
 cl : ∀ q, q < i → isOpens (at0 l q) = false → f q = -1 ∨ ∃ a : Nat, f q = a ∧ a < q ∧ isOpens (at0 l a) = true ∧ f a = q
 lk : ∀ p, p < i → isOpens (at0 l p) = true → (∀ d, lk l p i = .run d → 1 ≤ d ∧ st[d - 1]? = some p) ∧ (∀ r, lk l p i = .done r → p ∉ st ∧ f p = (Look.done r).int)
theorem minv_other {l : List Int} {i : Nat} {st : List Nat} {f : Nat → Int} (h : MInv l i st f) (hi : i < l.length) (h1 : at0 l i ≠ 10) (h2 : isOpens (at0 l i) = false) (h3 : at0 l i ≠ 22 ∨ st = []) :
 MInv l (i + 1) st (upd f i (-1)) := by
 have hst : i ∉ st := fun hm => by have := (h.open_ i hm).1; omega
 refine ⟨h.dec, ?_, ?_, ?_, ?_⟩
 ·intro p hp
  obtain ⟨a, b, c, d⟩ := h.open_ p hp
  refine ⟨by omega, b, by simp [upd, c], fun j hj hj' => ?_⟩
  by_cases e : j = i
  ·rw [e]; exact h1
  ·exact d j hj (by omega)
 ·intro a ha ho
  by_cases e : a = i
  ·subst e; simp [upd]
  ·rcases h.op a (by omega) ho with hh | ⟨b, hb⟩
   ·left; simp [upd, e, hh]
   ·right
    have := hb.bi
    have hbl := hb.lt
    refine ⟨b, hb.lt, by omega, ?_, ?_, hb.is, fun j hj hj' => ?_⟩
    ·simp [upd, e, hb.fa]
    ·simp [upd, hb.fb]; omega
    ·obtain ⟨x, y, z⟩ := hb.within j hj hj'
     exact ⟨x, y, by rw [upd, if_neg (by omega)]; exact z⟩
 ·intro q hq ho
  by_cases e : q = i
  ·subst e; left; simp [upd]
  ·rcases h.cl q (by omega) ho with hh | ⟨a, ha, hb, hc, hd⟩
   ·left; simp [upd, e, hh]
   ·right; exact ⟨a, by simp [upd, e, ha], hb, hc, by rw [upd, if_neg (by omega)]; exact hd⟩
 ·intro p hp ho
  have e : p ≠ i := fun e => by rw [e, h2] at ho; cases ho
  obtain ⟨x, y⟩ := h.lk p (by omega) ho
  rw [lk_next l p i (by omega) hi]
  cases hl : lk l p i with
  | done r =>
   refine ⟨fun d hd => (by cases hd), fun r' hr' => ?_⟩
   cases hr'
   obtain ⟨y1, y2⟩ := y r hl
   exact ⟨y1, by rw [upd, if_neg e]; exact y2⟩
  | run d =>
   obtain ⟨x1, x2⟩ := x d hl
   rcases h3 with h3 | h3
   ·simp only [lookStep, if_neg h1, h2, if_neg h3, Bool.false_eq_true, if_false]
    exact ⟨fun d' hd' => by cases hd'; exact ⟨x1, x2⟩, fun r hr => by cases hr⟩
   ·subst h3; simp at x2
theorem minv_end {l : List Int} {i : Nat} {st : List Nat} {f : Nat → Int} (h : MInv l i st f) (hi : i < l.length) (h1 : at0 l i = 10) : MInv l (i + 1) [] (upd f i (-1)) := by
 have h2 : isOpens (at0 l i) = false := by rw [h1]; decide
 refine ⟨List.Pairwise.nil, fun p hp => (by cases hp), ?_, ?_, ?_⟩
 ·intro a ha ho
  by_cases e : a = i
  ·subst e; simp [upd]
  ·rcases h.op a (by omega) ho with hh | ⟨b, hb⟩
   ·left; simp [upd, e, hh]
   ·right
    have := hb.bi
    have hbl := hb.lt
    refine ⟨b, hb.lt, by omega, by simp [upd, e, hb.fa], by simp [upd, hb.fb]; omega, hb.is, fun j hj hj' => ?_⟩
    obtain ⟨x, y, z⟩ := hb.within j hj hj'
    exact ⟨x, by simp, by rw [upd, if_neg (by omega)]; exact z⟩
 ·intro q hq ho
  by_cases e : q = i
  ·subst e; left; simp [upd]
  ·rcases h.cl q (by omega) ho with hh | ⟨a, ha, hb, hc, hd⟩
   ·left; simp [upd, e, hh]
   ·right; exact ⟨a, by simp [upd, e, ha], hb, hc, by rw [upd, if_neg (by omega)]; exact hd⟩
 ·intro p hp ho
  have e : p ≠ i := fun e => by rw [e, h2] at ho; cases ho
  obtain ⟨x, y⟩ := h.lk p (by omega) ho
  rw [lk_next l p i (by omega) hi]
  cases hl : lk l p i with
  | done r =>
   refine ⟨fun d hd => (by cases hd), fun r' hr' => ?_⟩
   cases hr'
   exact ⟨by simp, by rw [upd, if_neg e]; exact (y r hl).2⟩
  | run d =>
   simp only [lookStep, if_pos h1]
   obtain ⟨x1, x2⟩ := x d hl
   refine ⟨fun d' hd' => (by cases hd'), fun r hr => ?_⟩
   cases hr
   exact ⟨by simp, by rw [upd, if_neg e]; exact (h.open_ p (List.mem_of_getElem? x2)).2.2.1⟩
theorem minv_open {l : List Int} {i : Nat} {st : List Nat} {f : Nat → Int} (h : MInv l i st f) (hi : i < l.length) (h1 : at0 l i ≠ 10) (h2 : isOpens (at0 l i) = true) : MInv l (i + 1) (i :: st) (upd f i (-1)) := by
 refine ⟨List.Pairwise.cons (fun p hp => (h.open_ p hp).1) h.dec, ?_, ?_, ?_, ?_⟩
 ·intro p hp
  rcases List.mem_cons.1 hp with rfl | hp
  ·exact ⟨by omega, h2, by simp [upd], fun j _ _ => by omega⟩
  ·obtain ⟨a, b, c, d⟩ := h.open_ p hp
   refine ⟨by omega, b, by simp [upd, c], fun j hj hj' => ?_⟩
   by_cases e : j = i
   ·rw [e]; exact h1
   ·exact d j hj (by omega)
 ·intro a ha ho
  by_cases e : a = i
  ·subst e; simp [upd]
  ·rcases h.op a (by omega) ho with hh | ⟨b, hb⟩
   ·left; simp [upd, e, hh]
   ·right
    have := hb.bi
    have hbl := hb.lt
    refine ⟨b, hb.lt, by omega, by simp [upd, e, hb.fa], by simp [upd, hb.fb]; omega, hb.is, fun j hj hj' => ?_⟩
    obtain ⟨x, y, z⟩ := hb.within j hj hj'
    exact ⟨x, by simp [y]; omega, by rw [upd, if_neg (by omega)]; exact z⟩
 ·intro q hq ho
  by_cases e : q = i
  ·subst e; left; simp [upd]
  ·rcases h.cl q (by omega) ho with hh | ⟨a, ha, hb, hc, hd⟩
   ·left; simp [upd, e, hh]
   ·right; exact ⟨a, by simp [upd, e, ha], hb, hc, by rw [upd, if_neg (by omega)]; exact hd⟩
 ·intro p hp ho
  by_cases e : p = i
  ·subst e
   rw [lk_begin]
   exact ⟨fun d hd => by cases hd; simp, fun r hr => by cases hr⟩
  ·obtain ⟨x, y⟩ := h.lk p (by omega) ho
   rw [lk_next l p i (by omega) hi]
   cases hl : lk l p i with
   | done r =>
    refine ⟨fun d hd => (by cases hd), fun r' hr' => ?_⟩
    cases hr'
    exact ⟨by simp [e, (y r hl).1], by rw [upd, if_neg e]; exact (y r hl).2⟩
   | run d =>
    simp only [lookStep, if_neg h1, h2, if_true]
    obtain ⟨x1, x2⟩ := x d hl
    refine ⟨fun d' hd' => ?_, fun r hr => by cases hr⟩
    cases hd'
    refine ⟨by omega, ?_⟩
    rw [show d + 1 - 1 = (d - 1) + 1 by omega, List.getElem?_cons_succ]
    exact x2
theorem minv_close {l : List Int} {i : Nat} {p : Nat} {st : List Nat} {f : Nat → Int} (h : MInv l i (p :: st) f) (hi : i < l.length) (h3 : at0 l i = 22) : MInv l (i + 1) st (upd (upd (upd f i (-1)) i p) p i) := by
 have h1 : at0 l i ≠ 10 := by rw [h3]; decide
 have h2 : isOpens (at0 l i) = false := by rw [h3]; decide
 obtain ⟨hd1, hd2⟩ := List.pairwise_cons.1 h.dec
 obtain ⟨hp1, hp2, hp3, hp4⟩ := h.open_ p (by simp)
 have hpst : p ∉ st := fun hm => by have := hd1 p hm; omega
 have hv : ∀ j, upd (upd (upd f i (-1)) i p) p i j = if j = p then (i : Int) else if j = i then (p : Int) else f j := by
  intro j; simp only [upd]; split <;> (try split) <;> rfl
 refine ⟨hd2, ?_, ?_, ?_, ?_⟩
 ·intro q hq
  obtain ⟨a, b, c, d⟩ := h.open_ q (by simp [hq])
  refine ⟨by omega, b, ?_, fun j hj hj' => ?_⟩
  ·rw [hv, if_neg (show q ≠ p from fun e => hpst (e ▸ hq)), if_neg (by omega)]; exact c
  ·by_cases e : j = i
   ·rw [e]; exact h1
   ·exact d j hj (by omega)
 ·intro a ha ho
  by_cases e : a = p
  ·subst e
   right
   refine ⟨i, hp1, by omega, by rw [hv, if_pos rfl], by rw [hv, if_neg (by omega), if_pos rfl], h3, fun j hj hj' => ?_⟩
   refine ⟨hp4 j hj hj', fun hm => by have := hd1 j hm; omega, ?_⟩
   rw [hv, if_neg (by omega), if_neg (by omega)]
   cases hjo : isOpens (at0 l j) with
   | true =>
    rcases h.op j hj' hjo with hh | ⟨b, hb⟩
    ·exact .inl hh
    ·exact .inr ⟨b, hb.fa, by have := hb.lt; omega, hb.bi⟩
   | false =>
    rcases h.cl j hj' hjo with hh | ⟨m, hm1, hm2, hm3, hm4⟩
    ·exact .inl hh
    ·refine .inr ⟨m, hm1, ?_, by omega⟩
     rcases h.op m (by omega) hm3 with hh | ⟨b, hb⟩
     ·rw [hm4] at hh; omega
     ·have hbj : b = j := by have := hb.fa; rw [hm4] at this; omega
      subst hbj
      have hne : a ≠ m := fun e => by subst e; rw [hp3] at hm4; omega
      rcases Nat.lt_or_ge a m with hlt | hge
      ·exact hlt
      ·exact absurd (by simp) (hb.within a (by omega) hj).2.1
  ·have e' : a ≠ i := fun e => by rw [e, h2] at ho; cases ho
   rcases h.op a (by omega) ho with hh | ⟨b, hb⟩
   ·left; rw [hv, if_neg e, if_neg e']; exact hh
   ·right
    have hbi := hb.bi
    have hbl := hb.lt
    have hbp : b ≠ p := fun e => by have := hb.fb; rw [e, hp3] at this; omega
    refine ⟨b, hb.lt, by omega, by rw [hv, if_neg e, if_neg e']; exact hb.fa, by rw [hv, if_neg hbp, if_neg (by omega)]; exact hb.fb, hb.is, fun j hj hj' => ?_⟩
    obtain ⟨x, y, z⟩ := hb.within j hj hj'
    simp only [List.mem_cons, not_or] at y
    exact ⟨x, y.2, by rw [hv, if_neg y.1, if_neg (by omega)]; exact z⟩
 ·intro q hq ho
  have e : q ≠ p := fun e => by rw [e, hp2] at ho; cases ho
  by_cases e' : q = i
  ·right; exact ⟨p, by rw [hv, if_neg e, if_pos e'], by omega, hp2, by rw [hv, if_pos rfl, e']⟩
  ·rcases h.cl q (by omega) ho with hh | ⟨a, ha, hb, hc, hd⟩
   ·left; rw [hv, if_neg e, if_neg e']; exact hh
   ·right
    have hap : a ≠ p := fun e => by rw [e, hp3] at hd; omega
    exact ⟨a, by rw [hv, if_neg e, if_neg e']; exact ha, hb, hc, by rw [hv, if_neg hap, if_neg (by omega)]; exact hd⟩
 ·intro q hq ho
  have e : q ≠ i := fun e => by rw [e, h2] at ho; cases ho
  obtain ⟨x, y⟩ := h.lk q (by omega) ho
  rw [lk_next l q i (by omega) hi]
  cases hl : lk l q i with
  | done r =>
   refine ⟨fun d hd => (by cases hd), fun r' hr' => ?_⟩
   cases hr'
   obtain ⟨y1, y2⟩ := y r hl
   simp only [List.mem_cons, not_or] at y1
   exact ⟨y1.2, by rw [hv, if_neg y1.1, if_neg e]; exact y2⟩
  | run d =>
   obtain ⟨x1, x2⟩ := x d hl
   simp only [lookStep, h3, if_false, if_true, show ¬ ((22 : Int) = 10) by decide]
   by_cases hd1' : d ≤ 1
   ·rw [if_pos hd1']
    refine ⟨fun d' hd' => (by cases hd'), fun r hr => ?_⟩
    cases hr
    rw [show d - 1 = 0 by omega] at x2
    simp at x2
    subst x2
    exact ⟨hpst, by rw [hv, if_pos rfl]; rfl⟩
   ·rw [if_neg hd1']
    refine ⟨fun d' hd' => ?_, fun r hr => by cases hr⟩
    cases hd'
    refine ⟨by omega, ?_⟩
    rw [show d - 1 = (d - 1 - 1) + 1 by omega, List.getElem?_cons_succ] at x2
    exact x2
theorem minv (l : List Int) : ∀ i, i ≤ l.length → MInv l i (mrun l i).1 (mrun l i).2 := by
 intro i
 induction i with
 | zero => intro _; exact ⟨List.Pairwise.nil, fun p hp => (by cases hp), fun a h => by omega, fun a h => by omega, fun a h => by omega⟩
 | succ i ih =>
  intro hi
  have h := ih (by omega)
  have hi' : i < l.length := by omega
  simp only [mrun, mStep]
  split
  ·rename_i h1; exact minv_end h hi' h1
  ·rename_i h1
   split
   ·rename_i h2; exact minv_open h hi' h1 h2
   ·rename_i h2
    have h2' : isOpens (at0 l i) = false := by simpa using h2
    split
    ·rename_i h3
     split
     ·rename_i hs; have := minv_other h hi' h1 h2' (.inr hs); rw [hs] at this; exact this
     ·rename_i p st hs; rw [hs] at h; exact minv_close h hi' h3
    ·rename_i h3; exact minv_other h hi' h1 h2' (.inl h3)
abbrev mf (l : List Int) : Nat → Int := (mrun l l.length).2
theorem mf_end (l : List Int) (p : Nat) (hp : p < l.length) (ho : isOpens (at0 l p) = true) : mf l p = endOf l p := by
 have h := minv l l.length (Nat.le_refl _)
 obtain ⟨x, y⟩ := h.lk p hp ho
 rw [← lk_end]
 cases hl : lk l p l.length with
 | done r => exact (y r hl).2
 | run d => exact (h.open_ p (List.mem_of_getElem? (x d hl).2)).2.2.1
def rrun (l : List Int) : Nat → (Nat → Int)
 | 0 => fun _ => -1
 | i + 1 => if isOpens (at0 l i) then (if 0 ≤ endOf l i then upd (upd (rrun l i) i (endOf l i)) (endOf l i).toNat i else upd (rrun l i) i (endOf l i)) else rrun l i
theorem rrun_is (l : List Int) : ∀ i, i ≤ l.length → ∀ q, q < l.length →
 rrun l i q = if isOpens (at0 l q) then (if q < i then mf l q else -1) else (if 0 ≤ mf l q ∧ (mf l q).toNat < i then mf l q else -1) := by
 have h := minv l l.length (Nat.le_refl _)
 intro i
 induction i with
 | zero => intro _ q _; simp [rrun]
 | succ i ih =>
  intro hi q hq
  have ih' := ih (by omega) q hq
  cases ho : isOpens (at0 l i) with
  | false =>
   simp only [rrun, ho, Bool.false_eq_true, if_false]
   rw [ih']
   cases hq' : isOpens (at0 l q) with
   | true =>
    have : q ≠ i := fun e => by rw [e, ho] at hq'; cases hq'
    simp only [if_true]
    by_cases hlt : q < i
    ·rw [if_pos hlt, if_pos (by omega)]
    ·rw [if_neg hlt, if_neg (by omega)]
   | false =>
    simp only [Bool.false_eq_true, if_false]
    by_cases hc : 0 ≤ mf l q ∧ (mf l q).toNat < i
    ·rw [if_pos hc, if_pos ⟨hc.1, by omega⟩]
    ·rw [if_neg hc]
     by_cases hc' : 0 ≤ mf l q ∧ (mf l q).toNat < i + 1
     ·rcases h.cl q hq hq' with hh | ⟨a, ha, _, hc2, _⟩
      ·have h5 : mf l q = -1 := hh
       omega
      ·have : a = i := by
        have h5 : mf l q = a := ha
        omega
       rw [this, ho] at hc2; cases hc2
     ·rw [if_neg hc']
  | true =>
   simp only [rrun, ho, if_true]
   rw [← mf_end l i (by omega) ho]
   rcases h.op i (by omega) ho with hh | ⟨b, hb⟩
   ·have hh' : mf l i = -1 := hh
    rw [if_neg (by omega)]
    simp only [upd]
    by_cases e : q = i
    ·subst e; rw [if_pos rfl, ho]; simp
    ·rw [if_neg e, ih']
     cases hq' : isOpens (at0 l q) with
     | true =>
      simp only [if_true]
      by_cases hlt : q < i
      ·rw [if_pos hlt, if_pos (by omega)]
      ·rw [if_neg hlt, if_neg (by omega)]
     | false =>
      simp only [Bool.false_eq_true, if_false]
      by_cases hc : 0 ≤ mf l q ∧ (mf l q).toNat < i
      ·rw [if_pos hc, if_pos ⟨hc.1, by omega⟩]
      ·rw [if_neg hc]
       by_cases hc' : 0 ≤ mf l q ∧ (mf l q).toNat < i + 1
       ·rcases h.cl q hq hq' with h4 | ⟨a, ha, _, _, hd⟩
        ·have h5 : mf l q = -1 := h4; omega
        ·have h5 : mf l q = a := ha
         have : a = i := by omega
         rw [this] at hd
         have h6 : mf l i = q := hd
         omega
       ·rw [if_neg hc']
   ·have hb1 : mf l i = b := hb.fa
    have hb2 : mf l b = i := hb.fb
    have hlt := hb.lt
    have hbo : isOpens (at0 l b) = false := by rw [hb.is]; decide
    rw [if_pos (by omega), show (mf l i).toNat = b by omega]
    simp only [upd]
    by_cases e : q = b
    ·subst e; rw [if_pos rfl, hbo]; simp [hb2]
    ·rw [if_neg e]
     by_cases e' : q = i
     ·subst e'; rw [if_pos rfl, ho]; simp
     ·rw [if_neg e', ih']
      cases hq' : isOpens (at0 l q) with
      | true =>
       simp only [if_true]
       by_cases hlt : q < i
       ·rw [if_pos hlt, if_pos (by omega)]
       ·rw [if_neg hlt, if_neg (by omega)]
      | false =>
       simp only [Bool.false_eq_true, if_false]
       by_cases hc : 0 ≤ mf l q ∧ (mf l q).toNat < i
       ·rw [if_pos hc, if_pos ⟨hc.1, by omega⟩]
       ·rw [if_neg hc]
        by_cases hc' : 0 ≤ mf l q ∧ (mf l q).toNat < i + 1
        ·rcases h.cl q hq hq' with h4 | ⟨a, ha, _, _, hd⟩
         ·have h5 : mf l q = -1 := h4; omega
         ·have h5 : mf l q = a := ha
          have : a = i := by omega
          rw [this] at hd
          have h6 : mf l i = q := hd
          omega
        ·rw [if_neg hc']
theorem rrun_mt (l : List Int) : listOf l.length (rrun l l.length) = mt l := by
 have h := minv l l.length (Nat.le_refl _)
 apply List.map_congr_left
 intro q hq
 have hq' : q < l.length := by simpa using hq
 rw [rrun_is l l.length (Nat.le_refl _) q hq']
 cases ho : isOpens (at0 l q) with
 | true => simp [hq']
 | false =>
  simp only [Bool.false_eq_true, if_false]
  rcases h.cl q hq' ho with hh | ⟨a, ha, hb, _⟩
  ·rw [if_neg (by have h5 : mf l q = -1 := hh; omega)]; exact hh.symm
  ·rw [if_pos (by have h5 : mf l q = a := ha; omega)]
def side (k : Int) : Int := if k < 0 ∨ 22 < k ∨ k = 0 then 0 else if k = 1 ∨ k = 2 then 1 else -1
def firstP : List Int → Nat → Int
 | [], _ => -1
 | x :: xs, o => if x = 10 then -1 else if isOpens x then firstP xs (o + 1) else if x = 22 then firstP xs (o - 1) else if o = 0 ∧ 0 ≤ side x then side x else firstP xs o
theorem side_range (k : Int) : side k = -1 ∨ side k = 0 ∨ side k = 1 := by unfold side; split <;> (try split) <;> simp
theorem firstP_range (xs : List Int) : ∀ o, firstP xs o = -1 ∨ firstP xs o = 0 ∨ firstP xs o = 1 := by
 induction xs with
 | nil => intro o; simp [firstP]
 | cons x xs ih =>
  intro o
  simp only [firstP]
  repeat' split
  all_goals first | exact ih _ | exact side_range _ | simp
theorem firstP_jump (ys : List Int) : ∀ (d k t : Nat), 1 ≤ d → match look ys d k with
 | .done (some e) => k ≤ e ∧ e < k + ys.length ∧ firstP (ys.take t) d = if e < k + t then firstP ((ys.drop (e + 1 - k)).take (t - (e + 1 - k))) 0 else -1
 | _ => firstP (ys.take t) d = -1 := by
 induction ys with
 | nil => intro d k t _; simp [look, firstP]
 | cons x xs ih =>
  intro d k t hd
  cases t with
  | zero =>
   have := ih
   simp only [List.take_zero, firstP, Nat.add_zero]
   cases hl : look (x :: xs) d k with
   | run d' => trivial
   | done r =>
    cases r with
    | none => trivial
    | some e =>
     refine ⟨?_, ?_, ?_⟩
     all_goals
      simp only [look] at hl
      cases hs : lookStep d k x with
      | done r =>
       rw [hs] at hl
       have hr : r = some e := by cases hl; rfl
       subst hr
       unfold lookStep at hs
       (repeat' split at hs) <;> simp at hs
       first | omega | (subst hs; simp)
      | run d1 =>
       rw [hs] at hl
       simp only at hl
       have hd1 : 1 ≤ d1 := by
        unfold lookStep at hs
        (repeat' split at hs) <;> simp at hs <;> omega
       have := ih d1 (k + 1) 0 hd1
       rw [hl] at this
       simp only at this
       first | (simp only [List.length_cons]; omega) | (rw [if_neg (by omega)]) | omega
  | succ t =>
   simp only [List.take_succ_cons, firstP, look, lookStep]
   by_cases h1 : x = 10
   ·simp only [if_pos h1]
   ·simp only [if_neg h1]
    cases h2 : isOpens x with
    | true =>
     simp only [if_true]
     have := ih (d + 1) (k + 1) t (by omega)
     cases hl : look xs (d + 1) (k + 1) with
     | run d' => rw [hl] at this; exact this
     | done r =>
      rw [hl] at this
      cases r with
      | none => exact this
      | some e =>
       obtain ⟨a, b, c⟩ := this
       refine ⟨by omega, by simp only [List.length_cons]; omega, ?_⟩
       rw [show e + 1 - k = (e + 1 - (k + 1)) + 1 by omega, List.drop_succ_cons, show t + 1 - (e + 1 - (k + 1) + 1) = t - (e + 1 - (k + 1)) by omega, show k + (t + 1) = k + 1 + t by omega]
       exact c
    | false =>
     simp only [Bool.false_eq_true, if_false]
     by_cases h3 : x = 22
     ·simp only [if_pos h3]
      by_cases h4 : d ≤ 1
      ·simp only [if_pos h4]
       refine ⟨Nat.le_refl _, by simp, ?_⟩
       rw [if_pos (by omega), show k + 1 - k = 1 by omega, List.drop_succ_cons, List.drop_zero, show d - 1 = 0 by omega, show t + 1 - 1 = t by omega]
      ·simp only [if_neg h4]
       have := ih (d - 1) (k + 1) t (by omega)
       cases hl : look xs (d - 1) (k + 1) with
       | run d' => rw [hl] at this; exact this
       | done r =>
        rw [hl] at this
        cases r with
        | none => exact this
        | some e =>
         obtain ⟨a, b, c⟩ := this
         refine ⟨by omega, by simp only [List.length_cons]; omega, ?_⟩
         rw [show e + 1 - k = (e + 1 - (k + 1)) + 1 by omega, List.drop_succ_cons, show t + 1 - (e + 1 - (k + 1) + 1) = t - (e + 1 - (k + 1)) by omega, show k + (t + 1) = k + 1 + t by omega]
         exact c
     ·simp only [if_neg h3]
      rw [if_neg (by omega)]
      have := ih d (k + 1) t hd
      cases hl : look xs d (k + 1) with
      | run d' => rw [hl] at this; exact this
      | done r =>
       rw [hl] at this
       cases r with
       | none => exact this
       | some e =>
        obtain ⟨a, b, c⟩ := this
        refine ⟨by omega, by simp only [List.length_cons]; omega, ?_⟩
        rw [show e + 1 - k = (e + 1 - (k + 1)) + 1 by omega, List.drop_succ_cons, show t + 1 - (e + 1 - (k + 1) + 1) = t - (e + 1 - (k + 1)) by omega, show k + (t + 1) = k + 1 + t by omega]
        exact c
def stopAt : List Int → Nat → Nat → Nat
 | [], _, k => k
 | x :: xs, d, k => if x = 10 then k else if isOpens x then stopAt xs (d + 1) (k + 1) else if x = 22 then (if d ≤ 1 then k else stopAt xs (d - 1) (k + 1)) else stopAt xs d (k + 1)
theorem stopAt_ge (xs : List Int) : ∀ d k, k ≤ stopAt xs d k ∧ stopAt xs d k ≤ k + xs.length := by
 induction xs with
 | nil => intro d k; simp [stopAt]
 | cons x xs ih =>
  intro d k
  simp only [stopAt, List.length_cons]
  have h1 := ih (d + 1) (k + 1)
  have h2 := ih (d - 1) (k + 1)
  have h3 := ih d (k + 1)
  repeat' split
  all_goals omega
theorem stopAt_some (xs : List Int) : ∀ d k e, look xs d k = .done (some e) → stopAt xs d k = e := by
 induction xs with
 | nil => intro d k e h; simp [look] at h
 | cons x xs ih =>
  intro d k e h
  simp only [look, lookStep] at h
  simp only [stopAt]
  by_cases h1 : x = 10
  ·simp [h1] at h
  ·simp only [if_neg h1] at h ⊢
   cases h2 : isOpens x with
   | true => simp only [h2, if_true] at h ⊢; exact ih _ _ _ h
   | false =>
    simp only [h2, Bool.false_eq_true, if_false] at h ⊢
    by_cases h3 : x = 22
    ·simp only [if_pos h3] at h ⊢
     by_cases h4 : d ≤ 1
     ·simp only [if_pos h4] at h ⊢; cases h; rfl
     ·simp only [if_neg h4] at h ⊢; exact ih _ _ _ h
    ·simp only [if_neg h3] at h ⊢; exact ih _ _ _ h
theorem stopAt_none (xs : List Int) : ∀ d k, (∀ e, look xs d k ≠ .done (some e)) → ∀ o, firstP (xs.take (stopAt xs d k - k)) o = firstP xs o := by
 induction xs with
 | nil => intro d k _ o; simp [stopAt]
 | cons x xs ih =>
  intro d k h o
  have step : ∀ d' , (∀ e, look xs d' (k + 1) ≠ .done (some e)) → ∀ o, firstP ((x :: xs).take (stopAt xs d' (k + 1) - k)) o = firstP (x :: xs) o := by
   intro d' hd' o
   have := (stopAt_ge xs d' (k + 1)).1
   rw [show stopAt xs d' (k + 1) - k = (stopAt xs d' (k + 1) - (k + 1)) + 1 by omega, List.take_succ_cons]
   simp only [firstP, ih d' (k + 1) hd']
  simp only [look, lookStep] at h
  simp only [stopAt]
  by_cases h1 : x = 10
  ·simp [h1, firstP]
  ·simp only [if_neg h1] at h ⊢
   cases h2 : isOpens x with
   | true => simp only [h2, if_true] at h ⊢; exact step _ h o
   | false =>
    simp only [h2, Bool.false_eq_true, if_false] at h ⊢
    by_cases h3 : x = 22
    ·simp only [if_pos h3] at h ⊢
     by_cases h4 : d ≤ 1
     ·simp [if_pos h4] at h
     ·simp only [if_neg h4] at h ⊢; exact step _ h o
    ·simp only [if_neg h3] at h ⊢; exact step _ h o
def level (l : List Int) (dir : Int) : Int := if dir = 1 then 0 else if dir = 2 then 1 else max (firstP l 0) 0
def partI (l : List Int) (from_ til : Int) : List Int := (l.drop (max from_ 0).toNat).take ((min til l.length).toNat - (max from_ 0).toNat)
def isolate (l : List Int) (i : Int) : Int :=
 if i < 0 ∨ (l.length : Int) ≤ i then -1
 else if at0 l i.toNat = 19 then 0 else if at0 l i.toNat = 20 then 1
 else if at0 l i.toNat = 21 then max (firstP ((l.drop (i.toNat + 1)).take (stopAt (l.drop (i.toNat + 1)) 1 (i.toNat + 1) - (i.toNat + 1))) 0) 0 else -1
theorem isolate_end (l : List Int) (i : Nat) : firstP ((l.drop (i + 1)).take (stopAt (l.drop (i + 1)) 1 (i + 1) - (i + 1))) 0 =
 firstP ((l.drop (i + 1)).take ((if 0 ≤ endOf l i then (endOf l i).toNat else l.length) - (i + 1))) 0 := by
 unfold endOf
 cases h : look (l.drop (i + 1)) 1 (i + 1) with
 | run d =>
  rw [stopAt_none _ _ _ (by rw [h]; intro e he; cases he)]
  simp [Look.int, List.take_of_length_le]
 | done r =>
  cases r with
  | none =>
   rw [stopAt_none _ _ _ (by rw [h]; intro e he; cases he)]
   simp [Look.int, List.take_of_length_le]
  | some e => rw [stopAt_some _ _ _ _ h]; simp [Look.int]
end Go.Proofs.Ytadfleopbpomfaa
namespace Go.Proofs.Ytadfleopbpomfaa
open Go.RowKit
def risesFrom : Int → List Int → Bool
 | _, [] => true
 | a, x :: l => decide (a < x) && risesFrom x l
def lastB (l : List Int) (a : Int) : Int := l.getLastD a
def rightI (l : List Int) (n : Int) : Bool := risesFrom 0 l && (lastB l 0 == n)
theorem rises_snoc (l : List Int) (x : Int) : ∀ a, risesFrom a (l ++ [x]) = (risesFrom a l && decide (lastB l a < x)) := by
 induction l with
 | nil => intro a; simp [risesFrom, lastB]
 | cons y l ih =>
  intro a
  rw [List.cons_append, risesFrom, risesFrom, ih, Bool.and_assoc]
  have : lastB (y :: l) a = lastB l y := by unfold lastB; cases l <;> rfl
  rw [this]
theorem lastB_snoc (l : List Int) (x a : Int) : lastB (l ++ [x]) a = x := by simp [lastB]
def beginI (l : List Int) (k : Nat) : Int := if k = 0 then 0 else l.getD (k - 1) 0
def linesI (l : List Int) : List (Int × Int) := (List.range l.length).map fun k => (beginI l k, l.getD k 0)
theorem linesI_length (l : List Int) : (linesI l).length = l.length := by simp [linesI]
def lineOf (l : List Int) (i : Int) : Int := if i < 0 then -1 else match (List.range l.length).find? (fun k => decide (i < l.getD k 0)) with
 | some k => (k : Int)
 | none => -1
def wrapN (n w : Int) (k : Nat) : List Int := ((List.range k).map fun (i : Nat) => ((i : Int) + 1)).filter fun x => x == n || x % w == 0
def wrapI (n w : Int) : List Int := if n < 1 ∨ w < 1 ∨ 4000 < n then [] else wrapN n w n.toNat
theorem wrapN_succ (n w : Int) (k : Nat) : wrapN n w (k + 1) = if ((k : Int) + 1 == n || ((k : Int) + 1) % w == 0) then wrapN n w k ++ [(k : Int) + 1] else wrapN n w k := by
 unfold wrapN
 rw [List.range_succ, List.map_append, List.filter_append]
 cases h : ((k : Int) + 1 == n || ((k : Int) + 1) % w == 0) <;> simp [h]
def lightK (k : Int) : Bool := k == 12 || isOpens k || k == 22 || isOut k
theorem rises_get : ∀ (l : List Int) (a : Int), risesFrom a l = true → ∀ k, k < l.length → (if k = 0 then a else l.getD (k - 1) 0) < l.getD k 0
 | [], _, _, k, hk => by simp at hk
 | x :: l, a, h, 0, _ => by
  rw [risesFrom, Bool.and_eq_true] at h
  simpa using h.1
 | x :: l, a, h, k + 1, hk => by
  rw [risesFrom, Bool.and_eq_true] at h
  have := rises_get l x h.2 k (by simpa using hk)
  rw [if_neg (by omega), Nat.add_sub_cancel, List.getD_cons_succ]
  cases k with
  | zero => simpa using this
  | succ k => rw [if_neg (by omega)] at this; simpa using this
theorem begin_lt {l : List Int} (h : risesFrom 0 l = true) {k : Nat} (hk : k < l.length) : beginI l k < l.getD k 0 := rises_get l 0 h k hk
theorem begin_succ (l : List Int) (k : Nat) : beginI l (k + 1) = l.getD k 0 := by rw [beginI, if_neg (by omega), Nat.add_sub_cancel]
theorem breaks_lt {l : List Int} (h : risesFrom 0 l = true) : ∀ (d i : Nat), i + 1 + d < l.length → l.getD i 0 < l.getD (i + 1 + d) 0
 | 0, i, hi => by
  have := begin_lt h hi
  rwa [begin_succ] at this
 | d + 1, i, hi => by
  have h1 := breaks_lt h d i (by omega)
  have h2 := begin_lt h (k := i + 1 + (d + 1)) hi
  rw [show i + 1 + (d + 1) = (i + 1 + d) + 1 by omega, begin_succ] at h2
  rw [show i + 1 + (d + 1) = (i + 1 + d) + 1 by omega]
  omega
theorem last_get {l : List Int} : lastB l 0 = l.getD (l.length - 1) 0 := by
 unfold lastB
 rw [List.getLastD_eq_getLast?, List.getLast?_eq_getElem?, List.getD_eq_getElem?_getD]
theorem rises_take : ∀ (l : List Int) (a : Int) (k : Nat), risesFrom a l = true → risesFrom a (l.take k) = true
 | [], _, _, _ => by rw [List.take_nil]; rfl
 | _ :: _, _, 0, _ => rfl
 | x :: l, a, k + 1, h => by
  rw [risesFrom, Bool.and_eq_true] at h
  rw [List.take_succ_cons, risesFrom, Bool.and_eq_true]
  exact ⟨h.1, rises_take l x k h.2⟩
theorem rises_next (l : List Int) {k : Nat} (hk : k < l.length) : risesFrom 0 (l.take (k + 1)) = (risesFrom 0 (l.take k) && decide (lastB (l.take k) 0 < l[k])) := by rw [take_snoc l k hk, rises_snoc]
theorem last_next (l : List Int) {k : Nat} (hk : k < l.length) : lastB (l.take (k + 1)) 0 = l[k] := by rw [take_snoc l k hk, lastB_snoc]
theorem lines_next (l : List Int) {k : Nat} (hk : k < l.length) : (linesI l).take (k + 1) = (linesI l).take k ++ [(beginI l k, l[k])] := by
 have h : k < (linesI l).length := by rw [linesI_length]; exact hk
 rw [List.take_succ_eq_append_getElem h]
 congr 2
 simp only [linesI, List.getElem_map, List.getElem_range, getD_at hk]
end Go.Proofs.Ytadfleopbpomfaa
namespace Go.Proofs.Ytadfleopbpomfaa
open Go.RowKit
theorem Own.same {w w' : World} {B : Nat} {e : TypeId} {v : Value} {xs : List Value} (h : Own w B e v xs) (hh : w'.heap = w.heap) : Own w' B e v xs := by
 refine ⟨h.1, ?_⟩
 rcases h.2 with h2 | ⟨g, cap, cur, hv, hg, h3, r⟩
 ·exact .inl h2
 ·exact .inr ⟨g, cap, cur, hv, hg, by rw [hh]; exact h3, r⟩
theorem Lies.sameHeap {w w' : World} {B : Nat} {A : Option Addr} {xs : List Value} (h : Lies w B A xs) (hh : w'.heap = w.heap) : Lies w' B A xs :=
 h.same fun q _ => World.cell?_of_block (by rw [hh])
theorem below_same {B : Nat} {a w w' : World} (h : Below B a w) (hh : w'.heap = w.heap) (h1 : w'.os = w.os) (h2 : w'.tape = w.tape) (h3 : w'.output = w.output) : Below B a w' :=
 ⟨h1.trans h.os, h2.trans h.tape, h3.trans h.output, by rw [hh]; exact h.size, fun k hk => by rw [hh]; exact h.block k hk⟩
theorem below_then_drew {B : Nat} {a w : World} (h : Below B a.drew w) : Below B a w := ⟨h.os, h.tape, h.output, h.size, h.block⟩
theorem boxed {w w' : World} {e : TypeId} {cs : Array Value} {i : Nat} {u : Value} (hb : Below (w.alloc (.cells cs e)).heap.size (w.alloc (.cells cs e)) w') (hi : cs.toList[i]? = some u) : w'.cell? ⟨w.heap.size, i, none⟩ = some u := by
 rw [hb.cell (by simp)]
 simpa using hi
end Go.Proofs.Ytadfleopbpomfaa
