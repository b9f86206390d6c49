/- Shared texts, shaken for one claim. -/
import Derived.Deep.OwnRows
import Derived.Laws.OwnMore
import Derived.Deep.LoopGhost
import Derived.Test.YtcbaahlahohfmaaGreatDoorZB1
import Derived.Test.YtcbaahlahohfmaaGreatDoorZB2
import Derived.Test.YtcbaahlahohfmaaGreatDoorZB3
namespace Go.Proofs.YtcbaahlahohfmaaGreatDoor
open Go.RowKit Reckon
abbrev at0 (l : List Int) (j : Nat) : Int := l.getD j 0
theorem at0_eq {l : List Int} {j : Nat} (h : j < l.length) : at0 l j = l[j] := by simp [at0, h]
inductive Look where
 | run (d : Nat)
 | done (r : Option Nat)
 deriving DecidableEq
def lookStep (d k : Nat) (x : Int) : Look :=
 if x = 10 then .done none
 else if isOpens x then .run (d + 1)
 else if x = 22 then (if d ≤ 1 then .done (some k) else .run (d - 1))
 else .run d
def look : List Int → Nat → Nat → Look
 | [], d, _ => .run d
 | x :: xs, d, k => match lookStep d k x with
  | .run d' => look xs d' (k + 1)
  | .done r => .done r
def Look.int : Look → Int
 | .done (some k) => k
 | _ => -1
theorem look_snoc (xs : List Int) (x : Int) : ∀ d k, look (xs ++ [x]) d k = match look xs d k with
 | .run d' => lookStep d' (k + xs.length) x
 | .done r => .done r := by
 induction xs with
 | nil => intro d k; simp only [List.nil_append, look, List.length_nil, Nat.add_zero]; cases lookStep d k x <;> rfl
 | cons y ys ih =>
  intro d k
  simp only [List.cons_append, look]
  cases h : lookStep d k y with
  | done r => rfl
  | run d' => simp only [ih, List.length_cons]; rw [show k + 1 + ys.length = k + (ys.length + 1) by omega]
def lk (l : List Int) (p i : Nat) : Look := look ((l.take i).drop (p + 1)) 1 (p + 1)
theorem lk_begin (l : List Int) (i : Nat) : lk l i (i + 1) = .run 1 := by
 unfold lk
 rw [List.drop_of_length_le (by simp; omega)]
 rfl
theorem lk_next (l : List Int) (p i : Nat) (hp : p < i) (hi : i < l.length) : lk l p (i + 1) = match lk l p i with
 | .run d' => lookStep d' i (at0 l i)
 | .done r => .done r := by
 unfold lk
 rw [List.take_succ_eq_append_getElem hi, List.drop_append_of_le_length (by simp; omega), look_snoc]
 have : p + 1 + ((l.take i).drop (p + 1)).length = i := by simp; omega
 rw [this, at0_eq hi]
def upd (f : Nat → Int) (i : Nat) (v : Int) : Nat → Int := fun j => if j = i then v else f j
def mStep (s : List Nat × (Nat → Int)) (i : Nat) (x : Int) : List Nat × (Nat → Int) :=
 if x = 10 then ([], upd s.2 i (-1))
 else if isOpens x then (i :: s.1, upd s.2 i (-1))
 else if x = 22 then match s.1 with
  | [] => ([], upd s.2 i (-1))
  | p :: st => (st, upd (upd (upd s.2 i (-1)) i p) p i)
 else (s.1, upd s.2 i (-1))
def mrun (l : List Int) : Nat → List Nat × (Nat → Int)
 | 0 => ([], fun _ => 0)
 | i + 1 => mStep (mrun l i) i (at0 l i)
def listOf (n : Nat) (f : Nat → Int) : List Int := (List.range n).map f
@[simp] theorem listOf_length (n : Nat) (f : Nat → Int) : (listOf n f).length = n := by simp [listOf]
theorem listOf_set (n : Nat) (f : Nat → Int) (i : Nat) (v : Int) : (listOf n f).set i v = listOf n (upd f i v) := by
 apply List.ext_getElem
 ·simp
 ·intro j h1 h2
  simp only [List.getElem_set, listOf, List.getElem_map, List.getElem_range, upd]
  by_cases h : i = j
  ·simp [h]
  ·simp [h, Ne.symm h]
theorem listOf_get {n : Nat} {f : Nat → Int} {i : Nat} (h : i < (listOf n f).length) : (listOf n f)[i] = f i := by simp [listOf]
def mt (l : List Int) : List Int := listOf l.length (mrun l l.length).2
structure Mate (l : List Int) (st : List Nat) (f : Nat → Int) (i a b : Nat) : Prop where
 lt : a < b
 bi : b < i
 fa : f a = b
 fb : f b = a
 is : at0 l b = 22
 within : ∀ j, a < j → j < b → at0 l j ≠ 10 ∧ j ∉ st ∧ (f j = -1 ∨ ∃ m : Nat, f j = m ∧ a < m ∧ m < b)
structure MInv (l : List Int) (i : Nat) (st : List Nat) (f : Nat → Int) : Prop where
 dec : st.Pairwise (· > ·)
 open_ : ∀ p ∈ st, p < i ∧ isOpens (at0 l p) = true ∧ f p = -1 ∧ ∀ j, p < j → j < i → at0 l j ≠ 10
 op : ∀ a, a < i → isOpens (at0 l a) = true → f a = -1 ∨ ∃ b, Mate l st f i a b
 cl : ∀ q, q < i → isOpens (at0 l q) = false → f q = -1 ∨ ∃ a : Nat, f q = a ∧ a < q ∧ isOpens (at0 l a) = true ∧ f a = q
 lk : ∀ p, p < i → isOpens (at0 l p) = true → (∀ d, lk l p i = .run d → 1 ≤ d ∧ st[d - 1]? = some p) ∧ (∀ r, lk l p i = .done r → p ∉ st ∧ f p = (Look.done r).int)
theorem minv_other {l : List Int} {i : Nat} {st : List Nat} {f : Nat → Int} (h : MInv l i st f) (hi : i < l.length) (h1 : at0 l i ≠ 10) (h2 : isOpens (at0 l i) = false) (h3 : at0 l i ≠ 22 ∨ st = []) :
 MInv l (i + 1) st (upd f i (-1)) := by
 have hst : i ∉ st := fun hm => by have := (h.open_ i hm).1; omega
 refine ⟨h.dec, ?_, ?_, ?_, ?_⟩
 ·intro p hp
  obtain ⟨a, b, c, d⟩ := h.open_ p hp
  refine ⟨by omega, b, by simp [upd, c], fun j hj hj' => ?_⟩
  by_cases e : j = i
  ·rw [e]; exact h1
  ·exact d j hj (by omega)
 ·intro a ha ho
  by_cases e : a = i
  ·subst e; simp [upd]
  ·rcases h.op a (by omega) ho with hh | ⟨b, hb⟩
   ·left; simp [upd, e, hh]
   ·right
    have := hb.bi
    have hbl := hb.lt
    refine ⟨b, hb.lt, by omega, ?_, ?_, hb.is, fun j hj hj' => ?_⟩
    ·simp [upd, e, hb.fa]
    ·simp [upd, hb.fb]; omega
    ·obtain ⟨x, y, z⟩ := hb.within j hj hj'
     exact ⟨x, y, by rw [upd, if_neg (by omega)]; exact z⟩
 ·intro q hq ho
  by_cases e : q = i
  ·subst e; left; simp [upd]
  ·rcases h.cl q (by omega) ho with hh | ⟨a, ha, hb, hc, hd⟩
   ·left; simp [upd, e, hh]
   ·right; exact ⟨a, by simp [upd, e, ha], hb, hc, by rw [upd, if_neg (by omega)]; exact hd⟩
 ·intro p hp ho
  have e : p ≠ i := fun e => by rw [e, h2] at ho; cases ho
  obtain ⟨x, y⟩ := h.lk p (by omega) ho
  rw [lk_next l p i (by omega) hi]
  cases hl : lk l p i with
  | done r =>
   refine ⟨fun d hd => (by cases hd), fun r' hr' => ?_⟩
   cases hr'
   obtain ⟨y1, y2⟩ := y r hl
   exact ⟨y1, by rw [upd, if_neg e]; exact y2⟩
  | run d =>
   obtain ⟨x1, x2⟩ := x d hl
   rcases h3 with h3 | h3
   ·simp only [lookStep, if_neg h1, h2, if_neg h3, Bool.false_eq_true, if_false]
    exact ⟨fun d' hd' => by cases hd'; exact ⟨x1, x2⟩, fun r hr => by cases hr⟩
   ·subst h3; simp at x2
theorem minv_end {l : List Int} {i : Nat} {st : List Nat} {f : Nat → Int} (h : MInv l i st f) (hi : i < l.length) (h1 : at0 l i = 10) : MInv l (i + 1) [] (upd f i (-1)) := by
 have h2 : isOpens (at0 l i) = false := by rw [h1]; decide
 refine ⟨List.Pairwise.nil, fun p hp => (by cases hp), ?_, ?_, ?_⟩
 ·intro a ha ho
  by_cases e : a = i
  ·subst e; simp [upd]
  ·rcases h.op a (by omega) ho with hh | ⟨b, hb⟩
   ·left; simp [upd, e, hh]
   ·right
    have := hb.bi
    have hbl := hb.lt
    refine ⟨b, hb.lt, by omega, by simp [upd, e, hb.fa], by simp [upd, hb.fb]; omega, hb.is, fun j hj hj' => ?_⟩
    obtain ⟨x, y, z⟩ := hb.within j hj hj'
    exact ⟨x, by simp, by rw [upd, if_neg (by omega)]; exact z⟩
 ·intro q hq ho
  by_cases e : q = i
  ·subst e; left; simp [upd]
  ·rcases h.cl q (by omega) ho with hh | ⟨a, ha, hb, hc, hd⟩
   ·left; simp [upd, e, hh]
   ·right; exact ⟨a, by simp [upd, e, ha], hb, hc, by rw [upd, if_neg (by omega)]; exact hd⟩
 ·intro p hp ho
  have e : p ≠ i := fun e => by rw [e, h2] at ho; cases ho
  obtain ⟨x, y⟩ := h.lk p (by omega) ho
  rw [lk_next l p i (by omega) hi]
  cases hl : lk l p i with
  | done r =>
   refine ⟨fun d hd => (by cases hd), fun r' hr' => ?_⟩
   cases hr'
   exact ⟨by simp, by rw [upd, if_neg e]; exact (y r hl).2⟩
  | run d =>
   simp only [lookStep, if_pos h1]
   obtain ⟨x1, x2⟩ := x d hl
   refine ⟨fun d' hd' => (by cases hd'), fun r hr => ?_⟩
   cases hr
   exact ⟨by simp, by rw [upd, if_neg e]; exact (h.open_ p (List.mem_of_getElem? x2)).2.2.1⟩
theorem minv_open {l : List Int} {i : Nat} {st : List Nat} {f : Nat → Int} (h : MInv l i st f) (hi : i < l.length) (h1 : at0 l i ≠ 10) (h2 : isOpens (at0 l i) = true) : MInv l (i + 1) (i :: st) (upd f i (-1)) := by
 refine ⟨List.Pairwise.cons (fun p hp => (h.open_ p hp).1) h.dec, ?_, ?_, ?_, ?_⟩
 ·intro p hp
  rcases List.mem_cons.1 hp with rfl | hp
  ·exact ⟨by omega, h2, by simp [upd], fun j _ _ => by omega⟩
  ·obtain ⟨a, b, c, d⟩ := h.open_ p hp
   refine ⟨by omega, b, by simp [upd, c], fun j hj hj' => ?_⟩
   by_cases e : j = i
   ·rw [e]; exact h1
   ·exact d j hj (by omega)
 ·intro a ha ho
  by_cases e : a = i
  ·subst e; simp [upd]
  ·rcases h.op a (by omega) ho with hh | ⟨b, hb⟩
   ·left; simp [upd, e, hh]
   ·right
    have := hb.bi
    have hbl := hb.lt
    refine ⟨b, hb.lt, by omega, by simp [upd, e, hb.fa], by simp [upd, hb.fb]; omega, hb.is, fun j hj hj' => ?_⟩
    obtain ⟨x, y, z⟩ := hb.within j hj hj'
    exact ⟨x, by simp [y]; omega, by rw [upd, if_neg (by omega)]; exact z⟩
 ·intro q hq ho
  by_cases e : q = i
  ·subst e; left; simp [upd]
  ·rcases h.cl q (by omega) ho with hh | ⟨a, ha, hb, hc, hd⟩
   ·left; simp [upd, e, hh]
   ·right; exact ⟨a, by simp [upd, e, ha], hb, hc, by rw [upd, if_neg (by omega)]; exact hd⟩
 ·intro p hp ho
  by_cases e : p = i
  ·subst e
   rw [lk_begin]
   exact ⟨fun d hd => by cases hd; simp, fun r hr => by cases hr⟩
  ·obtain ⟨x, y⟩ := h.lk p (by omega) ho
   rw [lk_next l p i (by omega) hi]
   cases hl : lk l p i with
   | done r =>
    refine ⟨fun d hd => (by cases hd), fun r' hr' => ?_⟩
    cases hr'
    exact ⟨by simp [e, (y r hl).1], by rw [upd, if_neg e]; exact (y r hl).2⟩
   | run d =>
    simp only [lookStep, if_neg h1, h2, if_true]
    obtain ⟨x1, x2⟩ := x d hl
    refine ⟨fun d' hd' => ?_, fun r hr => by cases hr⟩
    cases hd'
    refine ⟨by omega, ?_⟩
    rw [show d + 1 - 1 = (d - 1) + 1 by omega, List.getElem?_cons_succ]
    exact x2
theorem minv_close {l : List Int} {i : Nat} {p : Nat} {st : List Nat} {f : Nat → Int} (h : MInv l i (p :: st) f) (hi : i < l.length) (h3 : at0 l i = 22) : MInv l (i + 1) st (upd (upd (upd f i (-1)) i p) p i) := by
 have h1 : at0 l i ≠ 10 := by rw [h3]; decide
 have h2 : isOpens (at0 l i) = false := by rw [h3]; decide
 obtain ⟨hd1, hd2⟩ := List.pairwise_cons.1 h.dec
 obtain ⟨hp1, hp2, hp3, hp4⟩ := h.open_ p (by simp)
 have hpst : p ∉ st := fun hm => by have := hd1 p hm; omega
 have hv : ∀ j, upd (upd (upd f i (-1)) i p) p i j = if j = p then (i : Int) else if j = i then (p : Int) else f j := by
  intro j; simp only [upd]; split <;> (try split) <;> rfl
 refine ⟨hd2, ?_, ?_, ?_, ?_⟩
 ·intro q hq
  obtain ⟨a, b, c, d⟩ := h.open_ q (by simp [hq])
  refine ⟨by omega, b, ?_, fun j hj hj' => ?_⟩
  ·rw [hv, if_neg (show q ≠ p from fun e => hpst (e ▸ hq)), if_neg (by omega)]; exact c
  ·by_cases e : j = i
   ·rw [e]; exact h1
   ·exact d j hj (by omega)
 ·intro a ha ho
  by_cases e : a = p
  ·subst e
   right
   refine ⟨i, hp1, by omega, by rw [hv, if_pos rfl], by rw [hv, if_neg (by omega), if_pos rfl], h3, fun j hj hj' => ?_⟩
   refine ⟨hp4 j hj hj', fun hm => by have := hd1 j hm; omega, ?_⟩
   rw [hv, if_neg (by omega), if_neg (by omega)]
   cases hjo : isOpens (at0 l j) with
   | true =>
    rcases h.op j hj' hjo with hh | ⟨b, hb⟩
    ·exact .inl hh
    ·exact .inr ⟨b, hb.fa, by have := hb.lt; omega, hb.bi⟩
   | false =>
    rcases h.cl j hj' hjo with hh | ⟨m, hm1, hm2, hm3, hm4⟩
    ·exact .inl hh
    ·refine .inr ⟨m, hm1, ?_, by omega⟩
     rcases h.op m (by omega) hm3 with hh | ⟨b, hb⟩
     ·rw [hm4] at hh; omega
     ·have hbj : b = j := by have := hb.fa; rw [hm4] at this; omega
      subst hbj
      have hne : a ≠ m := fun e => by subst e; rw [hp3] at hm4; omega
      rcases Nat.lt_or_ge a m with hlt | hge
      ·exact hlt
      ·exact absurd (by simp) (hb.within a (by omega) hj).2.1
  ·have e' : a ≠ i := fun e => by rw [e, h2] at ho; cases ho
   rcases h.op a (by omega) ho with hh | ⟨b, hb⟩
   ·left; rw [hv, if_neg e, if_neg e']; exact hh
   ·right
    have hbi := hb.bi
    have hbl := hb.lt
    have hbp : b ≠ p := fun e => by have := hb.fb; rw [e, hp3] at this; omega
    refine ⟨b, hb.lt, by omega, by rw [hv, if_neg e, if_neg e']; exact hb.fa, by rw [hv, if_neg hbp, if_neg (by omega)]; exact hb.fb, hb.is, fun j hj hj' => ?_⟩
    obtain ⟨x, y, z⟩ := hb.within j hj hj'
    simp only [List.mem_cons, not_or] at y
    exact ⟨x, y.2, by rw [hv, if_neg y.1, if_neg (by omega)]; exact z⟩
 ·intro q hq ho
  have e : q ≠ p := fun e => by rw [e, hp2] at ho; cases ho
  by_cases e' : q = i
  ·right; exact ⟨p, by rw [hv, if_neg e, if_pos e'], by omega, hp2, by rw [hv, if_pos rfl, e']⟩
  ·rcases h.cl q (by omega) ho with hh | ⟨a, ha, hb, hc, hd⟩
   ·left; rw [hv, if_neg e, if_neg e']; exact hh
   ·right
    have hap : a ≠ p := fun e => by rw [e, hp3] at hd; omega
    exact ⟨a, by rw [hv, if_neg e, if_neg e']; exact ha, hb, hc, by rw [hv, if_neg hap, if_neg (by omega)]; exact hd⟩
 ·intro q hq ho
  have e : q ≠ i := fun e => by rw [e, h2] at ho; cases ho
  obtain ⟨x, y⟩ := h.lk q (by omega) ho
  rw [lk_next l q i (by omega) hi]
  cases hl : lk l q i with
  | done r =>
   refine ⟨fun d hd => (by cases hd), fun r' hr' => ?_⟩
   cases hr'
   obtain ⟨y1, y2⟩ := y r hl
   simp only [List.mem_cons, not_or] at y1
   exact ⟨y1.2, by rw [hv, if_neg y1.1, if_neg e]; exact y2⟩
  | run d =>
   obtain ⟨x1, x2⟩ := x d hl
   simp only [lookStep, h3, if_false, if_true, show ¬ ((22 : Int) = 10) by decide]
   by_cases hd1' : d ≤ 1
   ·rw [if_pos hd1']
    refine ⟨fun d' hd' => (by cases hd'), fun r hr => ?_⟩
    cases hr
    rw [show d - 1 = 0 by omega] at x2
    simp at x2
    subst x2
    exact ⟨hpst, by rw [hv, if_pos rfl]; rfl⟩
   ·rw [if_neg hd1']
    refine ⟨fun d' hd' => ?_, fun r hr => by cases hr⟩
    cases hd'
    refine ⟨by omega, ?_⟩
    rw [show d - 1 = (d - 1 - 1) + 1 by omega, List.getElem?_cons_succ] at x2
    exact x2
theorem minv (l : List Int) : ∀ i, i ≤ l.length → MInv l i (mrun l i).1 (mrun l i).2 := by
 intro i
 induction i with
 | zero => intro _; exact ⟨List.Pairwise.nil, fun p hp => (by cases hp), fun a h => by omega, fun a h => by omega, fun a h => by omega⟩
 | succ i ih =>
  intro hi
  have h := ih (by omega)
  have hi' : i < l.length := by omega
  simp only [mrun, mStep]
  split
  ·rename_i h1; exact minv_end h hi' h1
  ·rename_i h1
   split
   ·rename_i h2; exact minv_open h hi' h1 h2
   ·rename_i h2
    have h2' : isOpens (at0 l i) = false := by simpa using h2
    split
    ·rename_i h3
     split
     ·rename_i hs; have := minv_other h hi' h1 h2' (.inr hs); rw [hs] at this; exact this
     ·rename_i p st hs; rw [hs] at h; exact minv_close h hi' h3
    ·rename_i h3; exact minv_other h hi' h1 h2' (.inl h3)
abbrev mf (l : List Int) : Nat → Int := (mrun l l.length).2
def side (k : Int) : Int := if k < 0 ∨ 22 < k ∨ k = 0 then 0 else if k = 1 ∨ k = 2 then 1 else -1
def firstP : List Int → Nat → Int
 | [], _ => -1
 | x :: xs, o => if x = 10 then -1 else if isOpens x then firstP xs (o + 1) else if x = 22 then firstP xs (o - 1) else if o = 0 ∧ 0 ≤ side x then side x else firstP xs o
theorem side_range (k : Int) : side k = -1 ∨ side k = 0 ∨ side k = 1 := by unfold side; split <;> (try split) <;> simp
theorem firstP_range (xs : List Int) : ∀ o, firstP xs o = -1 ∨ firstP xs o = 0 ∨ firstP xs o = 1 := by
 induction xs with
 | nil => intro o; simp [firstP]
 | cons x xs ih =>
  intro o
  simp only [firstP]
  repeat' split
  all_goals first | exact ih _ | exact side_range _ | simp
def stopAt : List Int → Nat → Nat → Nat
 | [], _, k => k
 | x :: xs, d, k => if x = 10 then k else if isOpens x then stopAt xs (d + 1) (k + 1) else if x = 22 then (if d ≤ 1 then k else stopAt xs (d - 1) (k + 1)) else stopAt xs d (k + 1)
theorem stopAt_ge (xs : List Int) : ∀ d k, k ≤ stopAt xs d k ∧ stopAt xs d k ≤ k + xs.length := by
 induction xs with
 | nil => intro d k; simp [stopAt]
 | cons x xs ih =>
  intro d k
  simp only [stopAt, List.length_cons]
  have h1 := ih (d + 1) (k + 1)
  have h2 := ih (d - 1) (k + 1)
  have h3 := ih d (k + 1)
  repeat' split
  all_goals omega
def level (l : List Int) (dir : Int) : Int := if dir = 1 then 0 else if dir = 2 then 1 else max (firstP l 0) 0
def partI (l : List Int) (from_ til : Int) : List Int := (l.drop (max from_ 0).toNat).take ((min til l.length).toNat - (max from_ 0).toNat)
def isolate (l : List Int) (i : Int) : Int :=
 if i < 0 ∨ (l.length : Int) ≤ i then -1
 else if at0 l i.toNat = 19 then 0 else if at0 l i.toNat = 20 then 1
 else if at0 l i.toNat = 21 then max (firstP ((l.drop (i.toNat + 1)).take (stopAt (l.drop (i.toNat + 1)) 1 (i.toNat + 1) - (i.toNat + 1))) 0) 0 else -1
end Go.Proofs.YtcbaahlahohfmaaGreatDoor
namespace Go.Proofs.YtcbaahlahohfmaaGreatDoor
open Go.RowKit
theorem fill_step {c : Array Value} {xs : List Value} {z v : Value} {n k : Nat} (h : c.toList = xs ++ List.replicate (n - k) z) (hk : xs.length = k) (hn : k < n) :
 (c.setIfInBounds k v).toList = (xs ++ [v]) ++ List.replicate (n - (k + 1)) z := by
 rw [Array.toList_setIfInBounds, h, List.set_append_right _ _ (by omega), hk, Nat.sub_self, show n - k = (n - (k + 1)) + 1 by omega, List.replicate_succ, List.set_cons_zero, List.append_assoc]
 rfl
theorem fill_start (z : Value) (n : Nat) : (madeCells #[z] n).toList = [] ++ List.replicate (n - 0) z := by
 rw [toList_madeCells_one]; simp
theorem fill_list {xs : List Value} {z v : Value} {n k : Nat} (hk : xs.length = k) (hn : k < n) : (xs ++ List.replicate (n - k) z).set k v = (xs ++ [v]) ++ List.replicate (n - (k + 1)) z := by
 rw [List.set_append_right _ _ (by omega), hk, Nat.sub_self, show n - k = (n - (k + 1)) + 1 by omega, List.replicate_succ, List.set_cons_zero, List.append_assoc]
 rfl
def Row (w : World) (B : Nat) (e : TypeId) (g c : Nat) (xs : List Value) : Prop := Own w B e (.slice (some ⟨g, 0, none⟩) xs.length c) xs
section
variable {w w' : World} {B : Nat} {e : TypeId} {g c : Nat} {xs : List Value}
theorem Row.own (h : Row w B e g c xs) {n : Nat} (hn : n = xs.length) : Own w B e (.slice (some ⟨g, 0, none⟩) n c) xs := hn ▸ h
theorem Row.cell (h : Row w B e g c xs) {j : Nat} (hj : j < xs.length) : w.cell? ⟨g, j, none⟩ = some xs[j] := by
 have := World.ownsRow.cellAt (h : w.ownsRow B e 1 _ _ xs) j (by omega)
 rw [this, List.getElem?_eq_getElem hj]
theorem Row.free (h : Row w B e g c xs) (j : Nat) : w.frozen? ⟨g, j, none⟩ = false := World.ownsRow.frozenAt (h : w.ownsRow B e 1 _ _ xs) j
theorem Row.set (h : Row w B e g c xs) (j : Nat) (u : Value) : Row (w.setCell ⟨g, j, none⟩ u) B e g c (xs.set j u) := by
 have := (World.ownsRow.stored (h : w.ownsRow B e 1 _ _ xs) j u).1
 unfold Row Own
 rw [List.length_set]
 exact this
theorem Row.inside (h : Row w B e g c xs) : B ≤ g ∧ g < w.heap.size := Own.inside h g rfl
theorem Row.below (h : Row w B e g c xs) {C : Nat} (hb : Below C w w') (hC : w.heap.size ≤ C) : Row w' B e g c xs := Own.below h hb hC
theorem Row.alloc (h : Row w B e g c xs) (o : Obj) : Row (w.alloc o) B e g c xs := Own.alloc h o
theorem Row.setG (h : Row w B e g c xs) (j : Nat) (u : Value) : w.grownBy (w.setCell ⟨g, j, none⟩ u) (some g) := (World.ownsRow.stored (h : w.ownsRow B e 1 _ _ xs) j u).2
theorem Row.setB {w0 : World} (hb : Below B w0 w) (h : Row w B e g c xs) (j : Nat) (u : Value) : Below B w0 (w.setCell ⟨g, j, none⟩ u) := hb.setCell h.inside.1 u
variable {P : Program} {ops : Array Oper} {rest : List Oper} {o : Oper} {a : Act} {Q : Exit → Act → World → Prop}
theorem make_row {t e : TypeId} {z : Value} {bytes : Nat} (T : SliceOf P t e z bytes) (w0 W : World) (B : Nat) (x y : Operand) (kl kc : IntKind) (n : Nat)
 (hgd : o.guard = none) (ho : o.op = .makeSlice t x y) (hx : a.eval x = .int kl (n : Int)) (hy : a.eval y = .int kc (n : Int)) (hz : z.cells = #[z]) (hb : Below B w0 W) (hB : B ≤ W.heap.size) (hn : bytes * n ≤ 281474976710656) (hm : n ≤ maxLen)
 (h : ∀ w', Row w' B e W.heap.size n (List.replicate n z) → Below B w0 w' → W.grownBy w' none → wpList P ops Q rest (a.put o.dst (.slice (some ⟨W.heap.size, 0, none⟩) n n)) w') :
 wpList P ops Q (o :: rest) a W := by
 obtain ⟨i, hi, hz0, hz1, hz2⟩ := info_parts T.elem
 obtain ⟨w', hrun, r1, r2⟩ := run_make_full (P := P) W B t e i z 1 T.slice hi hz0 hz1 kl kc n (by rw [hz2]; exact hn) hm hB
 refine wpList_plain hgd fun K' hK' => ?_
 unfold Oper.wp
 simp [execOp, ho, hx, hy, hrun, Result.andThen]
 refine hK' _ _ (h w' ?_ (hb.grown r2 hB (fun k hk => by cases hk)) r2)
 rw [hz, Nat.mul_one, toList_madeCells_one] at r1
 unfold Row Own
 simpa using r1
end
end Go.Proofs.YtcbaahlahohfmaaGreatDoor
namespace Go.Proofs.YtcbaahlahohfmaaGreatDoor
open Go.RowKit Reckon
set_option maxHeartbeats 1000000 in
theorem side_any (k : Int) (w : World) (hT : ClsTabs w) : Calls Tryz.prog 79 #[.int .i64 k] w fun e w' => e = .returned (.int .i64 (side k)) ∧ Below w.heap.size w w' := by
 have hw := wordOf_isEmpty k
 obtain ⟨z, hz⟩ : ∃ z, side k = z := ⟨_, rfl⟩
 rw [hz]
 have HZ := Lib.hid hz
 have HT := Lib.hid hT
 clear hT hz
 by_cases h0 : k < 0 ∨ 22 < k
 ·rw [decide_eq_true h0] at hw
  have e : z = 0 := by rw [← HZ.out, side, if_pos (by omega)]
  subst e
  clear h0
  go_enter Tryz.func79, Tryz.ntmps79
  go_wp2_with fail
  refine (word_any k w HT.out).mono ?_
  rintro e wq ⟨rfl, rfl⟩
  go_wp2_with fail
  go_ret
  exact ⟨rfl, Below.refl _ _⟩
 ·rw [decide_eq_false h0] at hw
  have H0 := Lib.hid h0
  clear h0
  rcases h1 : (k == 0) with _ | _
  ·have hs : isStrong k = decide (k = 1 ∨ k = 2) := by
    simp only [beq_eq_false_iff_ne] at h1
    simp [isStrong, h1]
   have e : z = if k = 1 ∨ k = 2 then 1 else -1 := by
    have := H0.out
    simp only [beq_eq_false_iff_ne] at h1
    rw [← HZ.out, side, if_neg (by omega)]
   have HE := Lib.hid e
   have HS := Lib.hid hs
   clear hs e
   by_cases hk : k = 1 ∨ k = 2
   ·have e : z = 1 := by rw [HE.out, if_pos hk]
    subst e
    have hs : isStrong k = true := by rw [HS.out, decide_eq_true hk]
    have HS := Lib.hid hs
    clear hk hs
    go_enter Tryz.func79, Tryz.ntmps79
    go_wp2_with fail
    refine (word_any k w HT.out).mono ?_
    rintro e wq ⟨rfl, rfl⟩
    go_wp2_with fail
    refine (strong_any k w).mono ?_
    rintro e w1 ⟨rfl, b1⟩
    rw [HS.out]
    have B1 := Lib.hid b1
    have D1 := Lib.hid b1
    clear b1
    go_wp2_with fail
    go_ret
    exact ⟨rfl, B1.out⟩
   ·have e : z = -1 := by rw [HE.out, if_neg hk]
    subst e
    have hs : isStrong k = false := by rw [HS.out, decide_eq_false hk]
    have HS := Lib.hid hs
    clear hk hs
    go_enter Tryz.func79, Tryz.ntmps79
    go_wp2_with fail
    refine (word_any k w HT.out).mono ?_
    rintro e wq ⟨rfl, rfl⟩
    go_wp2_with fail
    refine (strong_any k w).mono ?_
    rintro e w1 ⟨rfl, b1⟩
    rw [HS.out]
    have B1 := Lib.hid b1
    have D1 := Lib.hid b1
    clear b1
    go_wp2_with fail
    go_ret
    exact ⟨rfl, B1.out⟩
  ·have e : z = 0 := by
    simp only [beq_iff_eq] at h1
    rw [← HZ.out, side, if_pos (by omega)]
   subst e
   go_enter Tryz.func79, Tryz.ntmps79
   go_wp2_with fail
   refine (word_any k w HT.out).mono ?_
   rintro e wq ⟨rfl, rfl⟩
   go_wp2_with fail
   go_ret
   exact ⟨rfl, Below.refl _ _⟩
end Go.Proofs.YtcbaahlahohfmaaGreatDoor
namespace Go.Proofs.YtcbaahlahohfmaaGreatDoor
open Go.RowKit Reckon
theorem Lies.cut {w : World} {B b off : Nat} {l : List Int} (h : Lies w B (some ⟨b, off, none⟩) (ints .i64 l)) (i j : Nat) : Lies w B (some ⟨b, off + i, none⟩) (ints .i64 ((l.drop i).take j)) := by
 have := h.part i j
 simp only [ints, List.map_drop, List.map_take] at this ⊢
 simpa [add_plain] using this
set_option maxHeartbeats 1000000 in
theorem part_any (A : Option Addr) (l : List Int) (c : Nat) (f t : Int) (w : World) (h : Lies w w.heap.size A (ints .i64 l)) (hl : l.length ≤ 1000000) (hc : l.length ≤ c) :
 Calls Tryz.prog 77 #[.slice A l.length c, .int .i64 f, .int .i64 t] w fun e w' => ∃ A' c', e = .returned (.slice A' (partI l f t).length c') ∧ Lies w w.heap.size A' (ints .i64 (partI l f t)) ∧ w' = w := by
 obtain ⟨a, ha⟩ : ∃ a : Nat, (if f < 0 then (0 : Int) else f) = a := ⟨(max f 0).toNat, by split <;> omega⟩
 obtain ⟨m, hm⟩ : ∃ m : Int, (if (l.length : Int) < t then (l.length : Int) else t) = m := ⟨_, rfl⟩
 have hml : m ≤ l.length := by rw [← hm]; split <;> omega
 have hP : partI l f t = (l.drop a).take (m.toNat - a) := by
  have h1 : (max f 0).toNat = a := by split at ha <;> omega
  have h2 : min t l.length = m := by split at hm <;> omega
  rw [partI, h1, h2]
 rw [hP]
 clear hP
 by_cases hlt : (a : Int) < m
 ·obtain ⟨n, rfl⟩ : ∃ n : Nat, m = n := ⟨m.toNat, by omega⟩
  obtain ⟨b, off, rfl, _, _⟩ := h.plainInts (by omega)
  have H := Lib.hid (h.cut a (n - a))
  have hlen : ((l.drop a).take ((n : Int).toNat - a)).length = n - a := by simp; omega
  have HLE := Lib.hid hlen
  have b1 : (a : Int) ≤ (n : Int) := by omega
  have b2 : (n : Int) ≤ (c : Int) := by omega
  have b3 : (0 : Int) ≤ (a : Int) := by omega
  have hge : decide ((a : Int) ≥ (n : Int)) = false := by simp; omega
  have hac : ¬ c = a := by omega
  clear hlen h
  go_enter Tryz.func77, Tryz.ntmps77
  go_wp2
  go_ret
  exact ⟨some ⟨b, off + a, none⟩, c - a, by rw [HLE.out]; rfl, H.out, rfl⟩
 ·have hge : decide ((a : Int) ≥ m) = true := by simp; omega
  have hz : (l.drop a).take (m.toNat - a) = [] := by rw [show m.toNat - a = 0 by omega]; rfl
  rw [hz]
  clear h hz
  go_enter Tryz.func77, Tryz.ntmps77
  go_wp2
  go_ret
  exact ⟨none, ⟨0, rfl⟩, Lies.empty, rfl⟩
set_option maxHeartbeats 2000000 in
theorem first_any (A : Option Addr) (l : List Int) (c : Nat) (f t : Int) (w : World) (hT : ClsTabs w) (h : Lies w w.heap.size A (ints .i64 l)) (hl : l.length ≤ 1000000) (hc : l.length ≤ c) :
 Calls Tryz.prog 44 #[.slice A l.length c, .int .i64 f, .int .i64 t] w fun e w' => e = .returned (.int .i64 (firstP (partI l f t) 0)) ∧ Below w.heap.size w w' := by
 have H := Lib.hid h
 have HT := Lib.hid hT
 have hbig := hT.big
 have HP := Lib.hid (part_any A l c f t w h hl hc)
 have hxl : (partI l f t).length ≤ 1000000 := by simp [partI]; omega
 obtain ⟨xs, hx⟩ : ∃ xs, partI l f t = xs := ⟨_, rfl⟩
 rw [hx] at HP hxl ⊢
 obtain ⟨z, hz⟩ : ∃ z, firstP xs 0 = z := ⟨_, rfl⟩
 rw [hz]
 have HZ := Lib.hid hz
 clear h hT hx hz H
 go_enter Tryz.func44, Tryz.ntmps44
 go_wp2_with fail
 refine HP.out.mono ?_
 rintro e w1 ⟨A1, c1, rfl, l1, rfl⟩
 have L1 := Lib.hid l1
 clear l1 HP
 go_wp2
 go_loopw [7, 15] (fun ov iv wr => ∃ (k o : Nat), k ≤ xs.length ∧ ov = .int .i64 o ∧ iv = .int .i64 k ∧ o ≤ k ∧ Hid (firstP (xs.drop k) o = z) ∧ Below w1.heap.size w1 wr) (fun _ iv _ => xs.length - (intOf iv).toNat)
 case atStart => exact ⟨0, 0, by omega, rfl, rfl, by omega, HZ, Below.refl _ _⟩
 case round =>
  obtain ⟨k, o, hk, rfl, rfl, hok, HL, hb⟩ := hrel
  have HB := Lib.hid hb
  have hsz := hb.size
  clear hb
  by_cases hlt : k < xs.length
  ·obtain ⟨p, rfl, hpb, hcell⟩ := (L1.out.below HB.out).int hlt
   have b0 : (0 : Int) ≤ (k : Int) := by omega
   have b1 : (k : Int) < (xs.length : Int) := by omega
   have hdrop : xs.drop k = xs[k] :: xs.drop (k + 1) := List.drop_eq_getElem_cons hlt
   obtain ⟨x, hx⟩ : ∃ x, xs[k] = x := ⟨_, rfl⟩
   rw [hx] at hcell hdrop
   have hl2 := HL.out
   rw [hdrop, firstP] at hl2
   clear hx hdrop HL
   rcases h10 : (x == 10) with _ | _
   ·have n10 : ¬ x = 10 := by simpa using h10
    rw [if_neg n10] at hl2
    rcases ho : isOpens x with _ | _
    ·rw [ho] at hl2
     simp only [Bool.false_eq_true, if_false] at hl2
     have HO := Lib.hid ho
     clear ho
     rcases h22 : (x == 22) with _ | _
     ·have n22 : ¬ x = 22 := by simpa using h22
      rw [if_neg n22] at hl2
      have hr := side_range x
      have HS := Lib.hid (side_any x)
      obtain ⟨s, hs⟩ : ∃ s, side x = s := ⟨_, rfl⟩
      rw [hs] at hl2 hr HS
      clear hs
      rcases h0 : ((o : Int) == 0) with _ | _
      ·rw [if_neg (by simp at h0; omega)] at hl2
       have HL3 := Lib.hid hl2
       clear hl2 n10 n22 hr HS
       go_wp2_with fail
       refine (opens_any x wr).mono ?_
       rintro e w4 ⟨rfl, b4⟩
       rw [HO.out]
       have B4 := Lib.hid (HB.out.trans (b4.mono hsz))
       clear b4
       go_wp2_with fail
       go_roundw
       case rel => exact ⟨k + 1, o, by omega, rfl, by go_num, by omega, HL3, B4.out⟩
       case measure => simp [intOf]; omega
      ·obtain rfl : o = 0 := by simpa using h0
       rcases hr with rfl | hr
       ·rw [if_neg (by omega)] at hl2
        have HL3 := Lib.hid hl2
        clear hl2 n10 n22
        go_wp2_with fail
        refine (opens_any x wr).mono ?_
        rintro e w4 ⟨rfl, b4⟩
        rw [HO.out]
        have B4 := Lib.hid (HB.out.trans (b4.mono hsz))
        clear b4
        go_wp2_with fail
        refine (HS.out w4 (HT.out.below B4.out hbig)).mono ?_
        rintro e w5 ⟨rfl, b5⟩
        have B5 := Lib.hid (B4.out.trans (b5.mono B4.out.size))
        clear b5
        go_wp2_with fail
        go_roundw
        case rel => exact ⟨k + 1, 0, by omega, rfl, by go_num, by omega, HL3, B5.out⟩
        case measure => simp [intOf]; omega
       ·have hs0 : decide (s ≥ 0) = true := by rcases hr with rfl | rfl <;> decide
        rw [if_pos (by simp at hs0; omega)] at hl2
        subst hl2
        clear n10 n22 hr
        go_wp2_with fail
        refine (opens_any x wr).mono ?_
        rintro e w4 ⟨rfl, b4⟩
        rw [HO.out]
        have B4 := Lib.hid (HB.out.trans (b4.mono hsz))
        clear b4
        go_wp2_with fail
        refine (HS.out w4 (HT.out.below B4.out hbig)).mono ?_
        rintro e w5 ⟨rfl, b5⟩
        have B5 := Lib.hid (B4.out.trans (b5.mono B4.out.size))
        clear b5
        go_wp2_with fail
        refine (HS.out w5 (HT.out.below B5.out hbig)).mono ?_
        rintro e w6 ⟨rfl, b6⟩
        have B6 := Lib.hid (B5.out.trans (b6.mono B5.out.size))
        clear b6
        go_wp2_with fail
        go_ret
        exact ⟨rfl, B6.out⟩
     ·have n22 : x = 22 := by simpa using h22
      rw [if_pos n22] at hl2
      have HL3 := Lib.hid hl2
      have hw : IntKind.i64.wrap ((o : Int) - 1) = (o : Int) - 1 := IntWalk.i64_in _ (by omega)
      have hm : (if (o : Int) - 1 < 0 then (0 : Int) else (o : Int) - 1) = ((o - 1 : Nat) : Int) := by split <;> omega
      clear hl2 n10 n22
      go_wp2_with fail
      refine (opens_any x wr).mono ?_
      rintro e w4 ⟨rfl, b4⟩
      rw [HO.out]
      have B4 := Lib.hid (HB.out.trans (b4.mono hsz))
      clear b4
      go_wp2_with fail
      go_roundw
      case rel => exact ⟨k + 1, o - 1, by omega, by first | rfl | go_num, by go_num, by omega, HL3, B4.out⟩
      case measure => simp [intOf]; omega
    ·rw [ho, if_pos rfl] at hl2
     have HL3 := Lib.hid hl2
     have HO := Lib.hid ho
     clear hl2 n10 ho
     go_wp2_with fail
     refine (opens_any x wr).mono ?_
     rintro e w4 ⟨rfl, b4⟩
     rw [HO.out]
     have B4 := Lib.hid (HB.out.trans (b4.mono hsz))
     clear b4
     go_wp2_with fail
     go_roundw
     case rel => exact ⟨k + 1, o + 1, by omega, by go_num, by go_num, by omega, HL3, B4.out⟩
     case measure => simp [intOf]; omega
   ·rw [if_pos (by simpa using h10)] at hl2
    subst hl2
    go_wp2
    go_ret
    exact ⟨rfl, HB.out⟩
  ·have hl2 := HL.out
   rw [List.drop_of_length_le (by omega), firstP] at hl2
   subst hl2
   go_wp2
   go_ret
   exact ⟨rfl, HB.out⟩
end Go.Proofs.YtcbaahlahohfmaaGreatDoor
namespace Go.Proofs.YtcbaahlahohfmaaGreatDoor
open Go.RowKit Reckon
theorem partI_all (l : List Int) : partI l 0 l.length = l := by
 have h1 : (max (0 : Int) 0).toNat = 0 := by decide
 have h2 : (min (l.length : Int) l.length).toNat = l.length := by omega
 rw [partI, h1, h2, List.drop_zero, Nat.sub_zero, List.take_length]
set_option maxHeartbeats 1000000 in
theorem level_any (A : Option Addr) (l : List Int) (c : Nat) (dir : Int) (w : World) (hT : ClsTabs w) (h : Lies w w.heap.size A (ints .i64 l)) (hl : l.length ≤ 1000000) (hc : l.length ≤ c) :
 Calls Tryz.prog 28 #[.slice A l.length c, .int .i64 dir] w fun e w' => e = .returned (.int .i64 (level l dir)) ∧ Below w.heap.size w w' := by
 have HF := Lib.hid (first_any A l c 0 l.length w hT h hl hc)
 rw [partI_all] at HF
 obtain ⟨r, hr⟩ : ∃ r, firstP l 0 = r := ⟨_, rfl⟩
 obtain ⟨z, hz⟩ : ∃ z, level l dir = z := ⟨_, rfl⟩
 have hm : (if r < 0 then (0 : Int) else r) = max r 0 := by split <;> omega
 have HZ := Lib.hid hz
 rw [level, hr] at hz
 rw [hr] at HF
 rw [HZ.out]
 clear hr h hT
 rcases h1 : (dir == 1) with _ | _
 ·rw [if_neg (by simpa using h1)] at hz
  rcases h2 : (dir == 2) with _ | _
  ·rw [if_neg (by simpa using h2), ← hm] at hz
   clear hm
   go_enter Tryz.func28, Tryz.ntmps28
   go_wp2_with fail
   refine (HF.out).mono ?_
   rintro e w1 ⟨rfl, b1⟩
   have B1 := Lib.hid b1
   have D1 := Lib.hid b1
   clear b1
   go_wp2_with fail
   go_ret
   exact ⟨by first | rfl | rw [← hz]; rfl, B1.out⟩
  ·rw [if_pos (by simpa using h2)] at hz
   subst hz
   go_enter Tryz.func28, Tryz.ntmps28
   go_wp2_with fail
   go_ret
   exact ⟨rfl, Below.refl _ _⟩
 ·rw [if_pos (by simpa using h1)] at hz
  subst hz
  go_enter Tryz.func28, Tryz.ntmps28
  go_wp2_with fail
  go_ret
  exact ⟨rfl, Below.refl _ _⟩
set_option maxHeartbeats 2000000 in
theorem end_any (A : Option Addr) (l : List Int) (c : Nat) (i : Nat) (w : World) (h : Lies w w.heap.size A (ints .i64 l)) (hl : l.length ≤ 1000000) (hc : l.length ≤ c) (hi : i < l.length) (h21 : l[i] = 21) :
 Calls Tryz.prog 160 #[.slice A l.length c, .int .i64 i] w fun e w' => e = .returned (.int .i64 (stopAt (l.drop (i + 1)) 1 (i + 1) : Nat)) ∧ Below w.heap.size w w' := by
 obtain ⟨z, hz⟩ : ∃ z, stopAt (l.drop (i + 1)) 1 (i + 1) = z := ⟨_, rfl⟩
 rw [hz]
 obtain ⟨b, off, rfl, _, _⟩ := h.plainInts (by omega)
 have h' := h.cut i (l.length - i)
 rw [List.take_of_length_le (by simp)] at h'
 obtain ⟨xs, hx⟩ : ∃ xs, l.drop i = xs := ⟨_, rfl⟩
 have hxl : l.length - i = xs.length := by rw [← hx]; simp
 have hdr : ∀ k, l.drop (i + k) = xs.drop k := fun k => by rw [← hx, List.drop_drop]
 rw [hdr 1] at hz
 rw [hx] at h'
 have hx0 : xs[0]? = some 21 := by rw [← hx, List.getElem?_drop, Nat.add_zero, List.getElem?_eq_getElem hi, h21]
 have H := Lib.hid h'
 have HZ := Lib.hid hz
 have HX := Lib.hid hx0
 have HT := Lib.hid hxl
 have b1 : (i : Int) ≤ (l.length : Int) := by omega
 have b3 : (0 : Int) ≤ (i : Int) := by omega
 have b4 : (l.length : Int) ≤ (c : Int) := by omega
 have hac : ¬ c = i := by omega
 have hxs : xs.length ≤ 1000000 := by omega
 clear h h' hdr hz hx hx0 h21
 go_enter Tryz.func160, Tryz.ntmps160
 go_wp2
 clear hxl
 go_loopw [5, 12] (fun ov iv wr => ∃ (k o : Nat), k ≤ xs.length ∧ ov = .int .i64 o ∧ iv = .int .i64 k ∧ o ≤ k ∧ Hid ((k = 0 ∧ o = 0) ∨ (1 ≤ k ∧ 1 ≤ o ∧ stopAt (xs.drop k) o (i + k) = z)) ∧ Below w.heap.size w wr) (fun _ iv _ => xs.length - (intOf iv).toNat)
 case atStart => exact ⟨0, 0, by omega, rfl, rfl, by omega, Lib.hid (.inl ⟨rfl, rfl⟩), Below.refl _ _⟩
 case round =>
  obtain ⟨k, o, hk, rfl, rfl, hok, HL, hb⟩ := hrel
  have HB := Lib.hid hb
  clear hb
  by_cases hlt : k < xs.length
  ·obtain ⟨b', off', hA, hpb, hall⟩ := (H.out.below HB.out).plainInts (by omega)
   obtain ⟨rfl, rfl⟩ : b = b' ∧ off + i = off' := by simpa using hA
   have hcell := hall k hlt
   clear hall
   have b0 : (0 : Int) ≤ (k : Int) := by omega
   have b1 : (k : Int) < (xs.length : Int) := by omega
   have hdrop : xs.drop k = xs[k] :: xs.drop (k + 1) := List.drop_eq_getElem_cons hlt
   obtain ⟨x, hx⟩ : ∃ x, xs[k] = x := ⟨_, rfl⟩
   have hwi : IntKind.i64.wrap ((i : Int) + k) = ((i + k : Nat) : Int) := by rw [IntWalk.i64_in _ (by omega)]; omega
   rw [hx] at hcell hdrop
   have hl2 := HL.out
   rcases hl2 with ⟨rfl, rfl⟩ | ⟨hk1, ho1, hl2⟩
   ·have : x = 21 := by
     have := HX.out
     rw [List.getElem?_eq_getElem hlt, hx] at this
     injection this
    subst this
    rw [Nat.add_zero] at hcell
    have HO : Hid (isOpens 21 = true) := Lib.hid (by decide)
    have h10 : ((21 : Int) == 10) = false := by decide
    clear hx hdrop hA
    go_wp2_with fail
    refine (opens_any 21 wr).mono ?_
    rintro e w1 ⟨rfl, b1⟩
    rw [HO.out]
    have B1 := Lib.hid (HB.out.trans (b1.mono HB.out.size))
    have D1 := Lib.hid b1
    clear b1
    go_wp2_with fail
    go_roundw
    case rel => exact ⟨1, 1, by omega, by go_num, by go_num, by omega, Lib.hid (.inr ⟨by omega, by omega, HZ.out⟩), B1.out⟩
    case measure => simp [intOf]; omega
   ·rw [hdrop, stopAt] at hl2
    clear hx hdrop HL hA
    rcases h10 : (x == 10) with _ | _
    ·have n10 : ¬ x = 10 := by simpa using h10
     rw [if_neg n10] at hl2
     rcases ho : isOpens x with _ | _
     ·rw [ho] at hl2
      simp only [Bool.false_eq_true, if_false] at hl2
      have HO := Lib.hid ho
      clear ho
      rcases h22 : (x == 22) with _ | _
      ·rw [if_neg (by simpa using h22)] at hl2
       have HL3 := Lib.hid hl2
       clear hl2 n10
       go_wp2_with fail
       refine (opens_any x wr).mono ?_
       rintro e w1 ⟨rfl, b1⟩
       rw [HO.out]
       have B1 := Lib.hid (HB.out.trans (b1.mono HB.out.size))
       have D1 := Lib.hid b1
       clear b1
       go_wp2_with fail
       go_roundw
       case rel => exact ⟨k + 1, o, by omega, rfl, by go_num, by omega, Lib.hid (.inr ⟨by omega, ho1, HL3.out⟩), B1.out⟩
       case measure => simp [intOf]; omega
      ·rw [if_pos (by simpa using h22)] at hl2
       have hz1 : IntKind.i64.wrap ((o : Int) - 1) = ((o - 1 : Nat) : Int) := by rw [IntWalk.i64_in _ (by omega)]; omega
       by_cases hd1 : o ≤ 1
       ·rw [if_pos hd1] at hl2
        obtain rfl : o = 1 := by omega
        subst hl2
        clear n10
        go_wp2_with fail
        refine (opens_any x wr).mono ?_
        rintro e w1 ⟨rfl, b1⟩
        rw [HO.out]
        have B1 := Lib.hid (HB.out.trans (b1.mono HB.out.size))
        have D1 := Lib.hid b1
        clear b1
        go_wp2_with fail
        go_ret
        exact ⟨rfl, B1.out⟩
       ·rw [if_neg hd1] at hl2
        have hz0 : (((o - 1 : Nat) : Int) == 0) = false := by simp; omega
        have HL3 := Lib.hid hl2
        clear hl2 n10
        go_wp2_with fail
        refine (opens_any x wr).mono ?_
        rintro e w1 ⟨rfl, b1⟩
        rw [HO.out]
        have B1 := Lib.hid (HB.out.trans (b1.mono HB.out.size))
        have D1 := Lib.hid b1
        clear b1
        go_wp2_with fail
        go_roundw
        case rel => exact ⟨k + 1, o - 1, by omega, by first | rfl | go_num, by go_num, by omega, Lib.hid (.inr ⟨by omega, by omega, HL3.out⟩), B1.out⟩
        case measure => simp [intOf]; omega
     ·rw [ho, if_pos rfl] at hl2
      have HO := Lib.hid ho
      have HL3 := Lib.hid hl2
      clear hl2 n10 ho
      go_wp2_with fail
      refine (opens_any x wr).mono ?_
      rintro e w1 ⟨rfl, b1⟩
      rw [HO.out]
      have B1 := Lib.hid (HB.out.trans (b1.mono HB.out.size))
      have D1 := Lib.hid b1
      clear b1
      go_wp2_with fail
      go_roundw
      case rel => exact ⟨k + 1, o + 1, by omega, by go_num, by go_num, by omega, Lib.hid (.inr ⟨by omega, by omega, HL3.out⟩), B1.out⟩
      case measure => simp [intOf]; omega
    ·rw [if_pos (by simpa using h10)] at hl2
     subst hl2
     go_wp2_with fail
     go_ret
     exact ⟨rfl, HB.out⟩
  ·rcases HL.out with ⟨rfl, _⟩ | ⟨_, _, hl2⟩
   ·have := HX.out
    rw [List.getElem?_eq_none (by omega)] at this
    cases this
   ·rw [List.drop_of_length_le (by omega), stopAt] at hl2
    go_wp2
    go_ret
    refine ⟨ret_int ?_, HB.out⟩
    have := HT.out
    omega
set_option maxHeartbeats 1000000 in
theorem isolate_any (A : Option Addr) (l : List Int) (c : Nat) (i : Int) (w : World) (hT : ClsTabs w) (h : Lies w w.heap.size A (ints .i64 l)) (hl : l.length ≤ 1000000) (hc : l.length ≤ c) :
 Calls Tryz.prog 129 #[.slice A l.length c, .int .i64 i] w fun e w' => e = .returned (.int .i64 (isolate l i)) ∧ Below w.heap.size w w' := by
 have H := Lib.hid h
 have HT := Lib.hid hT
 have hbig := hT.big
 obtain ⟨z, hz⟩ : ∃ z, isolate l i = z := ⟨_, rfl⟩
 rw [hz]
 rw [isolate] at hz
 clear h hT
 rcases h0 : decide (i < 0) with _ | _
 ·obtain ⟨n, rfl⟩ : ∃ n : Nat, i = n := ⟨i.toNat, by simp at h0; omega⟩
  by_cases hn : n < l.length
  ·have hge : decide ((n : Int) ≥ (l.length : Int)) = false := by simp; omega
   rw [if_neg (by omega), Int.toNat_natCast] at hz
   obtain ⟨p, rfl, _, hcell⟩ := H.out.int hn
   have b0 : (0 : Int) ≤ (n : Int) := by omega
   have b1 : (n : Int) < (l.length : Int) := by omega
   have hx' := at0_eq hn
   obtain ⟨x, hx⟩ : ∃ x, l[n] = x := ⟨_, rfl⟩
   rw [hx] at hcell hx'
   rw [hx'] at hz
   have HX := Lib.hid hx
   clear hx hx'
   rcases h19 : (x == 19) with _ | _
   ·rw [if_neg (by simpa using h19)] at hz
    rcases h20 : (x == 20) with _ | _
    ·rw [if_neg (by simpa using h20)] at hz
     rcases h21 : (x == 21) with _ | _
     ·rw [if_neg (by simpa using h21)] at hz
      subst hz
      go_enter Tryz.func129, Tryz.ntmps129
      go_wp2_with fail
      go_ret
      exact ⟨rfl, Below.refl _ _⟩
     ·rw [if_pos (by simpa using h21)] at hz
      have hse := stopAt_ge (l.drop (n + 1)) 1 (n + 1)
      have HE := Lib.hid (end_any (some p) l c n w H.out hl hc hn (by rw [HX.out]; simpa using h21))
      obtain ⟨s, hs⟩ : ∃ s, stopAt (l.drop (n + 1)) 1 (n + 1) = s := ⟨_, rfl⟩
      rw [hs] at hz HE hse
      have hpart : partI l ((n : Int) + 1) s = (l.drop (n + 1)).take (s - (n + 1)) := by
       rw [partI, show (max ((n : Int) + 1) 0).toNat = n + 1 by omega, show (min (s : Int) l.length).toNat = s by simp at hse; omega]
      obtain ⟨r, hr⟩ : ∃ r, firstP ((l.drop (n + 1)).take (s - (n + 1))) 0 = r := ⟨_, rfl⟩
      rw [hr] at hz
      have hm : (if r < 0 then (0 : Int) else r) = z := by rw [← hz]; split <;> omega
      have HPR : Hid (firstP (partI l ((n : Int) + 1) s) 0 = r) := Lib.hid (by rw [hpart, hr])
      clear hz hs hr hpart hse
      go_enter Tryz.func129, Tryz.ntmps129
      go_wp2_with fail
      refine (HE.out).mono ?_
      rintro e w1 ⟨rfl, b1⟩
      have B1 := Lib.hid b1
      have D1 := Lib.hid b1
      clear b1
      go_wp2_with fail
      refine (first_any (some p) l c ((n : Int) + 1) s w1 (HT.out.below B1.out hbig) (H.out.up B1.out) hl hc).mono ?_
      rintro e w2 ⟨rfl, b2⟩
      rw [HPR.out]
      have B2 := Lib.hid (below_then B1.out b2)
      have D2 := Lib.hid b2
      clear b2
      go_wp2_with fail
      go_ret
      exact ⟨rfl, B2.out⟩
    ·rw [if_pos (by simpa using h20)] at hz
     subst hz
     go_enter Tryz.func129, Tryz.ntmps129
     go_wp2_with fail
     go_ret
     exact ⟨rfl, Below.refl _ _⟩
   ·rw [if_pos (by simpa using h19)] at hz
    subst hz
    go_enter Tryz.func129, Tryz.ntmps129
    go_wp2_with fail
    go_ret
    exact ⟨rfl, Below.refl _ _⟩
  ·have hge : decide ((n : Int) ≥ (l.length : Int)) = true := by simp; omega
   rw [if_pos (by omega)] at hz
   subst hz
   go_enter Tryz.func129, Tryz.ntmps129
   go_wp2_with fail
   go_ret
   exact ⟨rfl, Below.refl _ _⟩
 ·rw [if_pos (by simp at h0; omega)] at hz
  subst hz
  go_enter Tryz.func129, Tryz.ntmps129
  go_wp2_with fail
  go_ret
  exact ⟨rfl, Below.refl _ _⟩
end Go.Proofs.YtcbaahlahohfmaaGreatDoor
namespace Go.Proofs.YtcbaahlahohfmaaGreatDoor
open Go.RowKit
theorem putX_st (x : X6) (c : Int) : (putX x c).st = x.st ∧ (putX x c).valid = x.valid ∧ (putX x c).isos = x.isos ∧ (putX x c).embeds = x.embeds := by
 unfold putX; split <;> simp_all
def isolateX (x : X6) (l : List Int) (i c : Int) : X6 := match x.st with
 | [] => x
 | e :: _ => if fitsX (putX x c) (nextL e.lev (isolate l i)) then pushX { putX x c with valid := (putX x c).valid + 1 } ⟨nextL e.lev (isolate l i), -1, true⟩ else { putX x c with isos := (putX x c).isos + 1 }
end Go.Proofs.YtcbaahlahohfmaaGreatDoor
namespace Go.Proofs.YtcbaahlahohfmaaGreatDoor
open Go.RowKit
def unwind (st : List Ent) : List Ent := (st.dropWhile fun e => !e.iso).tail
theorem unwind_skip {e : Ent} {st : List Ent} (h : e.iso = false) : unwind (e :: st) = unwind st := by simp [unwind, List.dropWhile, h]
theorem unwind_hit {e : Ent} {st : List Ent} (h : e.iso = true) : unwind (e :: st) = st := by simp [unwind, List.dropWhile, h]
def endX0 (x : X6) : X6 := if 0 < x.isos then { x with isos := x.isos - 1 } else if 0 < x.valid then { x with embeds := 0, st := unwind x.st, valid := x.valid - 1 } else x
def endX (x : X6) (c : Int) : X6 := putX (endX0 x) c
end Go.Proofs.YtcbaahlahohfmaaGreatDoor
