/- Shared texts, shaken for one claim. -/
import Derived.Test.YtadfleopbpomfaaZA1
import Derived.Test.YtadfleopbpomfaaZA2
import Derived.Test.YtadfleopbpomfaaZA4
import Derived.Test.YtadfleopbpomfaaZA13
import Derived.Test.YtadfleopbpomfaaZA17
import Derived.Test.YtadfleopbpomfaaZA19
namespace Go.Proofs.Ytadfleopbpomfaa
open Go.RowKit
def gStep (G : List (Int × Int)) (i : Nat) : List (Int × Int) :=
 if (G.getLast?.map (·.2)) = some (i : Int) then G.dropLast ++ [((G.getLast?.map (·.1)).getD 0, ((i + 1 : Nat) : Int))] else G ++ [((i : Int), ((i + 1 : Nat) : Int))]
def grpN (l : List Int) : Nat → List (Int × Int)
 | 0 => []
 | k + 1 => if isNeutral (l.getD k 0) then gStep (grpN l k) k else grpN l k
def groupsI (l : List Int) : List (Int × Int) := grpN l l.length
def cntN (l : List Int) (k : Nat) : Nat := (l.take k).countP isNeutral
theorem cntN_succ (l : List Int) {k : Nat} (h : k < l.length) : cntN l (k + 1) = cntN l k + if isNeutral (l.getD k 0) then 1 else 0 := by
 rw [cntN, cntN, take_snoc l k h, List.countP_append, getD_at h]
 congr 1
 cases hn : isNeutral l[k] <;> simp [hn]
def sizeG (G : List (Int × Int)) : Nat := (G.map fun p => (p.2 - p.1).toNat).sum
structure GInv (l : List Int) (k : Nat) (G : List (Int × Int)) : Prop where
 each : ∀ p ∈ G, ∃ a b : Nat, p = ((a : Int), (b : Int)) ∧ a < b ∧ b ≤ k ∧ (∀ i, a ≤ i → i < b → isNeutral (l.getD i 0) = true) ∧ (a = 0 ∨ isNeutral (l.getD (a - 1) 0) = false) ∧ (b = k ∨ isNeutral (l.getD b 0) = false)
 apart : G.Pairwise fun p q => p.2 < q.1
 all : ∀ i, i < k → isNeutral (l.getD i 0) = true → ∃ p ∈ G, p.1 ≤ (i : Int) ∧ (i : Int) < p.2
 size : sizeG G = cntN l k
 len : G.length ≤ k
theorem ginv_zero (l : List Int) : GInv l 0 [] := ⟨fun p hp => (by cases hp), List.Pairwise.nil, fun i hi => (by omega), by simp [sizeG, cntN], by simp⟩
theorem sizeG_snoc (G : List (Int × Int)) (p : Int × Int) : sizeG (G ++ [p]) = sizeG G + (p.2 - p.1).toNat := by simp [sizeG]
theorem snoc_of {G : List (Int × Int)} {p : Int × Int} (h : G.getLast? = some p) : G = G.dropLast ++ [p] := by
 have hne : G ≠ [] := by intro e; rw [e] at h; simp at h
 have e : G.getLast hne = p := by
  have := List.getLast?_eq_some_getLast hne
  rw [this] at h
  injection h
 rw [← e]
 exact (List.dropLast_concat_getLast hne).symm
theorem ginv_next {l : List Int} {k : Nat} {G : List (Int × Int)} (h : GInv l k G) (hk : k < l.length) : GInv l (k + 1) (if isNeutral (l.getD k 0) then gStep G k else G) := by
 by_cases hn : isNeutral (l.getD k 0) = true
 ·rw [if_pos hn, gStep]
  by_cases hg : G.getLast?.map (·.2) = some (k : Int)
  ·rw [if_pos hg]
   obtain ⟨p, hp, hp2⟩ := Option.map_eq_some_iff.1 hg
   have hG := snoc_of hp
   obtain ⟨D, hD⟩ : ∃ D, G.dropLast = D := ⟨_, rfl⟩
   rw [hD] at hG ⊢
   have e1 : (G.getLast?.map (·.1)).getD 0 = p.1 := by rw [hp]; rfl
   rw [e1]
   clear e1 hg hp hD
   subst hG
   obtain ⟨a, b, hab, h1, h2, h3, h4, -⟩ := h.each p (by simp)
   subst hab
   simp only at hp2
   have hbk : b = k := by omega
   subst hbk
   have hap := List.pairwise_append.1 h.apart
   refine ⟨fun q hq => ?_, ?_, fun i hi hni => ?_, ?_, ?_⟩
   ·rcases List.mem_append.1 hq with hq | hq
    ·obtain ⟨a', b', hab', g1, g2, g3, g4, g5⟩ := h.each q (List.mem_append_left _ hq)
     have := hap.2.2 q hq ((a : Int), (b : Int)) (by simp)
     rw [hab'] at this
     simp only at this
     exact ⟨a', b', hab', g1, by omega, g3, g4, .inr (by rcases g5 with g5 | g5 <;> first | omega | exact g5)⟩
    ·rw [List.mem_singleton.1 hq]
     refine ⟨a, b + 1, rfl, by omega, by omega, fun i i1 i2 => ?_, h4, .inl rfl⟩
     by_cases hib : i = b
     ·subst hib; exact hn
     ·exact h3 i i1 (by omega)
   ·refine List.pairwise_append.2 ⟨hap.1, List.pairwise_singleton _ _, fun x hx y hy => ?_⟩
    rw [List.mem_singleton.1 hy]
    exact hap.2.2 x hx ((a : Int), (b : Int)) (by simp)
   ·by_cases hib : i = b
    ·subst hib
     exact ⟨_, List.mem_append_right _ (List.mem_singleton.2 rfl), by simp only; omega, by simp only; omega⟩
    ·obtain ⟨q, hq, q1, q2⟩ := h.all i (by omega) hni
     rcases List.mem_append.1 hq with hq | hq
     ·exact ⟨q, List.mem_append_left _ hq, q1, q2⟩
     ·rw [List.mem_singleton.1 hq] at q1 q2
      simp only at q1 q2
      exact ⟨_, List.mem_append_right _ (List.mem_singleton.2 rfl), q1, by simp only; omega⟩
   ·have := h.size
    rw [sizeG_snoc] at this ⊢
    rw [cntN_succ l hk, if_pos hn, ← this]
    simp only
    omega
   ·have := h.len
    simp only [List.length_append, List.length_singleton] at this ⊢
    omega
  ·rw [if_neg hg]
   have hfar : ∀ q ∈ G, q.2 < (k : Int) := by
    intro q hq
    obtain ⟨D, p, hp⟩ : ∃ D p, G = D ++ [p] := ⟨G.dropLast, G.getLast (List.ne_nil_of_mem hq), (List.dropLast_concat_getLast _).symm⟩
    subst hp
    have hl : (D ++ [p]).getLast? = some p := by simp
    rw [hl] at hg
    have hap := List.pairwise_append.1 h.apart
    obtain ⟨a, b, hab, h1, h2, -⟩ := h.each p (by simp)
    rw [hab] at hg
    simp only [Option.map_some, Option.some.injEq] at hg
    rcases List.mem_append.1 hq with hq | hq
    ·have := hap.2.2 q hq p (by simp)
     rw [hab] at this
     simp only at this
     omega
    ·rw [List.mem_singleton.1 hq, hab]
     simp only
     omega
   have hbefore : k = 0 ∨ isNeutral (l.getD (k - 1) 0) = false := by
    rcases Nat.eq_zero_or_pos k with h0 | h0
    ·exact .inl h0
    ·right
     cases hp : isNeutral (l.getD (k - 1) 0) with
     | false => rfl
     | true =>
      obtain ⟨q, hq, q1, q2⟩ := h.all (k - 1) (by omega) hp
      have := hfar q hq
      omega
   refine ⟨fun q hq => ?_, ?_, fun i hi hni => ?_, ?_, ?_⟩
   ·rcases List.mem_append.1 hq with hq | hq
    ·obtain ⟨a', b', hab', g1, g2, g3, g4, g5⟩ := h.each q hq
     have := hfar q hq
     rw [hab'] at this
     simp only at this
     exact ⟨a', b', hab', g1, by omega, g3, g4, .inr (by rcases g5 with g5 | g5 <;> first | omega | exact g5)⟩
    ·rw [List.mem_singleton.1 hq]
     refine ⟨k, k + 1, rfl, by omega, by omega, fun i i1 i2 => ?_, hbefore, .inl rfl⟩
     obtain rfl : i = k := by omega
     exact hn
   ·refine List.pairwise_append.2 ⟨h.apart, List.pairwise_singleton _ _, fun x hx y hy => ?_⟩
    rw [List.mem_singleton.1 hy]
    exact hfar x hx
   ·by_cases hib : i = k
    ·subst hib
     exact ⟨_, List.mem_append_right _ (List.mem_singleton.2 rfl), by simp only; omega, by simp only; omega⟩
    ·obtain ⟨q, hq, q1, q2⟩ := h.all i (by omega) hni
     exact ⟨q, List.mem_append_left _ hq, q1, q2⟩
   ·rw [sizeG_snoc, h.size, cntN_succ l hk, if_pos hn]
    simp only
    omega
   ·have := h.len
    simp only [List.length_append, List.length_singleton]
    omega
 ·have hn' : isNeutral (l.getD k 0) = false := by simpa using hn
  rw [if_neg hn]
  refine ⟨fun q hq => ?_, h.apart, fun i hi hni => ?_, ?_, by have := h.len; omega⟩
  ·obtain ⟨a', b', hab', g1, g2, g3, g4, g5⟩ := h.each q hq
   refine ⟨a', b', hab', g1, by omega, g3, g4, .inr ?_⟩
   rcases g5 with g5 | g5
   ·rw [g5]; exact hn'
   ·exact g5
  ·by_cases hib : i = k
   ·subst hib; rw [hn'] at hni; cases hni
   ·exact h.all i (by omega) hni
  ·rw [h.size, cntN_succ l hk, if_neg hn, Nat.add_zero]
theorem ginv (l : List Int) : ∀ k, k ≤ l.length → GInv l k (grpN l k)
 | 0, _ => ginv_zero l
 | k + 1, hk => ginv_next (ginv l k (by omega)) (by omega)
def endK (s : Int) : Int := if s = 1 then 1 else 0
def nSide (lev k : Int) : Int := if sdB k < 0 then dirL lev else sdB k
def aheadI (l : List Int) (lev sos : Int) (i : Nat) : Int := match (l.take i).reverse.find? (fun k => !isNeutral k) with | some k => nSide lev k | none => endK sos
def behindI (l : List Int) (lev eos : Int) (i : Nat) : Int := match (l.drop i).find? (fun k => !isNeutral k) with | some k => nSide lev k | none => endK eos
def toI (l : List Int) (lev sos eos : Int) (i : Nat) : Int := if aheadI l lev sos i = behindI l lev eos i then aheadI l lev sos i else dirL lev
def outAt (l : List Int) (lev sos eos : Int) (i : Nat) : Int := if isNeutral (l.getD i 0) then toI l lev sos eos i else l.getD i 0
def nofI (l : List Int) (lev sos eos : Int) : List Int := (List.range l.length).map (outAt l lev sos eos)
theorem nofI_length (l : List Int) (lev sos eos : Int) : (nofI l lev sos eos).length = l.length := by simp [nofI]
theorem nofI_at (l : List Int) (lev sos eos : Int) {i : Nat} (h : i < l.length) : (nofI l lev sos eos)[i]? = some (outAt l lev sos eos i) := by
 rw [nofI, List.getElem?_map, List.getElem?_range h]; rfl
theorem nofI_stay (l : List Int) (lev sos eos : Int) {i : Nat} (h : isNeutral (l.getD i 0) = false) : (nofI l lev sos eos)[i]? = l[i]? := by
 by_cases hi : i < l.length
 ·rw [nofI_at l lev sos eos hi, outAt, if_neg (by rw [h]; simp), List.getElem?_eq_getElem hi, getD_at hi]
 ·rw [List.getElem?_eq_none (by rw [nofI_length]; omega), List.getElem?_eq_none (by omega)]
structure Around (l : List Int) (a b : Nat) : Prop where
 lt : a < b
 le : b ≤ l.length
 all : ∀ i, a ≤ i → i < b → isNeutral (l.getD i 0) = true
 first : a = 0 ∨ isNeutral (l.getD (a - 1) 0) = false
 last : b = l.length ∨ isNeutral (l.getD b 0) = false
theorem find_none {l : List Int} {p : Int → Bool} (h : ∀ x ∈ l, p x = false) : l.find? p = none := by
 rw [List.find?_eq_none]
 intro x hx
 simp [h x hx]
theorem ahead_of {l : List Int} {a b : Nat} (h : Around l a b) (lev sos : Int) {i : Nat} (h1 : a ≤ i) (h2 : i < b) : aheadI l lev sos i = if 0 < a then nSide lev (l.getD (a - 1) 0) else endK sos := by
 have hle := h.le
 have e : l.take i = l.take a ++ (l.drop a).take (i - a) := by
  rw [← List.take_add, show a + (i - a) = i by omega]
 have hn : ((l.drop a).take (i - a)).reverse.find? (fun k => !isNeutral k) = none := by
  refine find_none fun x hx => ?_
  obtain ⟨j, hj, rfl⟩ := List.mem_iff_getElem.1 (List.mem_reverse.1 hx)
  rw [List.length_take, List.length_drop] at hj
  have := h.all (a + j) (by omega) (by omega)
  rw [getD_at (by omega)] at this
  simp [this]
 rw [aheadI, e, List.reverse_append, List.find?_append, hn, Option.none_or]
 by_cases ha : 0 < a
 ·rw [if_pos ha]
  have hf : isNeutral (l.getD (a - 1) 0) = false := by
   rcases h.first with h0 | h0
   ·omega
   ·exact h0
  have e2 : l.take a = l.take (a - 1) ++ [l[a - 1]'(by omega)] := by
   have := take_snoc l (a - 1) (by omega)
   rw [show a - 1 + 1 = a by omega] at this
   exact this
  rw [getD_at (by omega)] at hf ⊢
  rw [e2, List.reverse_append, List.reverse_singleton, List.singleton_append, List.find?_cons, hf]
  rfl
 ·obtain rfl : a = 0 := by omega
  rw [if_neg ha]
  rfl
theorem behind_of {l : List Int} {a b : Nat} (h : Around l a b) (lev eos : Int) {i : Nat} (h1 : a ≤ i) (h2 : i < b) : behindI l lev eos i = if b < l.length then nSide lev (l.getD b 0) else endK eos := by
 have hle := h.le
 have e : l.drop i = (l.drop i).take (b - i) ++ l.drop b := by
  have := (List.take_append_drop (b - i) (l.drop i)).symm
  rw [List.drop_drop, show i + (b - i) = b by omega] at this
  exact this
 have hn : ((l.drop i).take (b - i)).find? (fun k => !isNeutral k) = none := by
  refine find_none fun x hx => ?_
  obtain ⟨j, hj, rfl⟩ := List.mem_iff_getElem.1 hx
  rw [List.length_take, List.length_drop] at hj
  have := h.all (i + j) (by omega) (by omega)
  rw [getD_at (by omega)] at this
  simp [this]
 rw [behindI, e, List.find?_append, hn, Option.none_or]
 by_cases hb : b < l.length
 ·rw [if_pos hb]
  have hf : isNeutral (l.getD b 0) = false := by
   rcases h.last with h0 | h0
   ·omega
   ·exact h0
  rw [getD_at hb] at hf ⊢
  rw [List.drop_eq_getElem_cons hb, List.find?_cons, hf]
  rfl
 ·rw [if_neg hb, List.drop_of_length_le (by omega)]
  rfl
def nLevelI (k lev : Int) : Int :=
 if dirL lev = 0 ∧ k = 1 then wrap64 (lev + 1) else if dirL lev = 0 ∧ (k = 6 ∨ k = 3) then wrap64 (lev + 2)
 else if dirL lev = 1 ∧ (k = 0 ∨ k = 6 ∨ k = 3) then wrap64 (lev + 1) else lev
theorem grp_at (l : List Int) {n : Nat} (hn : n < (groupsI l).length) : ∃ a b : Nat, (groupsI l)[n] = ((a : Int), (b : Int)) ∧ Around l a b := by
 obtain ⟨a, b, h1, h2, h3, h4, h5, h6⟩ := (ginv l l.length (Nat.le_refl _)).each _ (List.getElem_mem hn)
 exact ⟨a, b, h1, h2, h3, h4, h5, h6⟩
def endN (l : List Int) (n : Nat) : Nat := if n = 0 then 0 else ((groupsI l).getD (n - 1) (0, 0)).2.toNat
theorem endN_succ (l : List Int) {n : Nat} (hn : n < (groupsI l).length) {a b : Nat} (h : (groupsI l)[n] = ((a : Int), (b : Int))) : endN l (n + 1) = b := by
 rw [endN, if_neg (by omega), Nat.add_sub_cancel, List.getD_eq_getElem?_getD, List.getElem?_eq_getElem hn, h]
 simp
theorem gap_of {l : List Int} {G : List (Int × Int)} (hI : GInv l l.length G) {n e : Nat} (hn : n ≤ G.length) (he : n = 0 ∨ ∃ h : n - 1 < G.length, G[n - 1].2 = (e : Int)) {i : Nat} (h1 : e ≤ i) (hi : i < l.length) (h2 : ∀ h : n < G.length, (i : Int) < G[n].1) : isNeutral (l.getD i 0) = false := by
 cases hx : isNeutral (l.getD i 0) with
 | false => rfl
 | true =>
  obtain ⟨p, hp, p1, p2⟩ := hI.all i hi hx
  obtain ⟨j, hj, rfl⟩ := List.mem_iff_getElem.1 hp
  have hpw := List.pairwise_iff_getElem.1 hI.apart
  have hlt : ∀ (m : Nat) (h : m < G.length), G[m].1 < G[m].2 := fun m h => by
   obtain ⟨a, b, hab, h3, -⟩ := hI.each _ (List.getElem_mem h)
   rw [hab]; simp only; omega
  by_cases hjn : j < n
  ·obtain ⟨h4, h5⟩ : ∃ h : n - 1 < G.length, G[n - 1].2 = (e : Int) := by
    rcases he with he | he
    ·omega
    ·exact he
   by_cases hjj : j = n - 1
   ·subst hjj; omega
   ·have h3 := hpw j (n - 1) hj h4 (by omega)
    have := hlt (n - 1) h4
    omega
  ·have hnl : n < G.length := by omega
   have h3 := h2 hnl
   by_cases hjj : j = n
   ·subst hjj; omega
   ·have h4 := hpw n j hnl hj (by omega)
    have := hlt n hnl
    omega
theorem endN_is (l : List Int) {n : Nat} (hn : n ≤ (groupsI l).length) : n = 0 ∨ ∃ h : n - 1 < (groupsI l).length, (groupsI l)[n - 1].2 = (endN l n : Int) := by
 by_cases h0 : n = 0
 ·exact .inl h0
 ·have hl : n - 1 < (groupsI l).length := by omega
  obtain ⟨a, b, hab, _⟩ := grp_at l hl
  refine .inr ⟨hl, ?_⟩
  have e := endN_succ l hl hab
  rw [show n - 1 + 1 = n by omega] at e
  rw [hab, e]
theorem gap (l : List Int) {n : Nat} (hn : n ≤ (groupsI l).length) {i : Nat} (h1 : endN l n ≤ i) (hi : i < l.length) (h2 : ∀ h : n < (groupsI l).length, (i : Int) < (groupsI l)[n].1) : isNeutral (l.getD i 0) = false :=
 gap_of (ginv l l.length (Nat.le_refl _) : GInv l l.length (groupsI l)) hn (endN_is l hn) h1 hi h2
theorem endN_le (l : List Int) {n : Nat} (hn : n < (groupsI l).length) {a b : Nat} (h : (groupsI l)[n] = ((a : Int), (b : Int))) : endN l n ≤ a := by
 have hI : GInv l l.length (groupsI l) := ginv l l.length (Nat.le_refl _)
 by_cases h0 : n = 0
 ·rw [endN, if_pos h0]; omega
 ·obtain ⟨h3, h4⟩ : ∃ h : n - 1 < (groupsI l).length, (groupsI l)[n - 1].2 = (endN l n : Int) := by
   rcases endN_is l (show n ≤ (groupsI l).length by omega) with h5 | h5
   ·exact absurd h5 h0
   ·exact h5
  have hpw := List.pairwise_iff_getElem.1 hI.apart (n - 1) n h3 hn (by omega)
  rw [h4, h] at hpw
  simp only at hpw
  omega
theorem mix_group (l : List Int) (lev sos eos : Int) {n : Nat} (hn : n < (groupsI l).length) {a b : Nat} (h : (groupsI l)[n] = ((a : Int), (b : Int))) (ha : Around l a b) : mixL l (nofI l lev sos eos) (endN l n) = mixL l (nofI l lev sos eos) a := by
 have h1 := ha.lt
 have h2 := ha.le
 refine mixL_skip (nofI_length _ _ _ _) (endN_le l hn h) (by omega) fun i i1 i2 => nofI_stay _ _ _ _ (gap l (by omega) i1 (by omega) fun hh => ?_)
 rw [h]
 simp only
 omega
theorem mix_last (l : List Int) (lev sos eos : Int) : mixL l (nofI l lev sos eos) (endN l (groupsI l).length) = nofI l lev sos eos := by
 by_cases h : endN l (groupsI l).length ≤ l.length
 ·rw [mixL_skip (nofI_length _ _ _ _) h (Nat.le_refl _) fun i i1 i2 => nofI_stay _ _ _ _ (gap l (Nat.le_refl _) i1 i2 fun hh => absurd hh (by omega)), mixL_end (nofI_length _ _ _ _) (Nat.le_refl _)]
 ·exact mixL_end (nofI_length _ _ _ _) (by omega)
def grpTo (l : List Int) (lev sos eos : Int) (a b : Nat) : Int :=
 if (if 0 < a then nSide lev (l.getD (a - 1) 0) else endK sos) = (if b < l.length then nSide lev (l.getD b 0) else endK eos) then (if 0 < a then nSide lev (l.getD (a - 1) 0) else endK sos) else dirL lev
theorem nofI_group {l : List Int} (lev sos eos : Int) {a b : Nat} (h : Around l a b) {i : Nat} (h1 : a ≤ i) (h2 : i < b) : (nofI l lev sos eos).getD i 0 = grpTo l lev sos eos a b := by
 have hle := h.le
 rw [List.getD_eq_getElem?_getD, nofI_at l lev sos eos (by omega), Option.getD_some, outAt, if_pos (h.all i h1 h2), toI, ahead_of h lev sos h1 h2, behind_of h lev eos h1 h2, grpTo]
end Go.Proofs.Ytadfleopbpomfaa
namespace Go.Proofs.Ytadfleopbpomfaa
open Go.RowKit
def plainK (k : Int) : Int := if 0 ≤ k ∧ k ≤ 22 then k else 0
def plainL (l : List Int) : List Int := l.map plainK
def sideK (s : Int) : Int := if s = 1 then 1 else 0
def lastStrong (a : Int) (l : List Int) : Int := l.foldl (fun a k => if isStrong k then k else a) a
def rW1 : Int → List Int → List Int
 | _, [] => []
 | p, k :: l => (if k = 8 then (if isOpens p ∨ p = 22 then 13 else p) else k) :: rW1 (if k = 8 then (if isOpens p ∨ p = 22 then 13 else p) else k) l
def rWS (a b : Int) : Int → List Int → List Int
 | _, [] => []
 | s, k :: l => (if k = 3 ∧ s = a then b else k) :: rWS a b (if isStrong k then k else s) l
def rW3 (l : List Int) : List Int := l.map fun k => if k = 2 then 1 else k
def rW4 : Int → List Int → List Int
 | _, [] => []
 | p, k :: l => (if (k = 4 ∧ p = 3 ∧ l.head? = some 3) ∨ (k = 7 ∧ (p = 3 ∨ p = 6) ∧ l.head? = some p) then p else k) :: rW4 (if (k = 4 ∧ p = 3 ∧ l.head? = some 3) ∨ (k = 7 ∧ (p = 3 ∨ p = 6) ∧ l.head? = some p) then p else k) l
def nearEN : List Int → Bool
 | [] => false
 | k :: l => k == 3 || k == 5 && nearEN l
def rW5 : Bool → List Int → List Int
 | _, [] => []
 | b, k :: l => (if k = 5 ∧ (b || nearEN l) then 3 else k) :: rW5 (k == 3 || k == 5 && (b || nearEN l)) l
def rW6 (l : List Int) : List Int := l.map fun k => if k = 4 ∨ k = 5 ∨ k = 7 then 13 else k
def rulePlain (l : List Int) (s : Int) : Nat → List Int
 | 1 => rW1 s l
 | 2 => rWS 2 6 s l
 | 3 => rW3 l
 | 4 => rW4 (-1) l
 | 5 => rW5 false l
 | 6 => rW6 l
 | 7 => rWS 0 0 s l
 | _ => l
def ruleI (l : List Int) (sos : Int) (n : Nat) : List Int := rulePlain (plainL l) (sideK sos) n
def stepsI (l : List Int) (sos : Int) : Nat → List Int
 | 0 => l
 | n + 1 => ruleI (stepsI l sos n) sos (n + 1)
def ofI (l : List Int) (sos : Int) : List Int := stepsI l sos 7
theorem w1_length : ∀ (p : Int) (l : List Int), (rW1 p l).length = l.length
 | _, [] => rfl
 | p, k :: l => by rw [rW1, List.length_cons, List.length_cons, w1_length]
theorem wS_length (a b : Int) : ∀ (s : Int) (l : List Int), (rWS a b s l).length = l.length
 | _, [] => rfl
 | s, k :: l => by rw [rWS, List.length_cons, List.length_cons, wS_length a b]
theorem w4_length : ∀ (p : Int) (l : List Int), (rW4 p l).length = l.length
 | _, [] => rfl
 | p, k :: l => by rw [rW4, List.length_cons, List.length_cons, w4_length]
theorem w5_length : ∀ (b : Bool) (l : List Int), (rW5 b l).length = l.length
 | _, [] => rfl
 | b, k :: l => by rw [rW5, List.length_cons, List.length_cons, w5_length]
theorem rulePlain_length (l : List Int) (s : Int) (n : Nat) : (rulePlain l s n).length = l.length := by
 unfold rulePlain
 split
 ·exact w1_length _ _
 ·exact wS_length _ _ _ _
 ·simp [rW3]
 ·exact w4_length _ _
 ·exact w5_length _ _
 ·simp [rW6]
 ·exact wS_length _ _ _ _
 ·rfl
theorem ruleI_length (l : List Int) (sos : Int) (n : Nat) : (ruleI l sos n).length = l.length := by rw [ruleI, rulePlain_length, plainL, List.length_map]
theorem stepsI_length (l : List Int) (sos : Int) : ∀ n, (stepsI l sos n).length = l.length
 | 0 => rfl
 | n + 1 => by rw [stepsI, ruleI_length, stepsI_length]
theorem ofI_length (l : List Int) (sos : Int) : (ofI l sos).length = l.length := stepsI_length l sos 7
def Free (bad : List Int) (l : List Int) : Prop := ∀ k ∈ l, 0 ≤ k ∧ k ≤ 22 ∧ k ∉ bad
theorem plainK_range (k : Int) : 0 ≤ plainK k ∧ plainK k ≤ 22 := by unfold plainK; split <;> omega
theorem plainK_of {k : Int} (h : 0 ≤ k ∧ k ≤ 22) : plainK k = k := by rw [plainK, if_pos h]
theorem plainL_free (l : List Int) : Free [] (plainL l) := fun k hk => by
 obtain ⟨x, _, rfl⟩ := List.mem_map.1 hk
 have := plainK_range x
 exact ⟨this.1, this.2, by simp⟩
theorem plainL_of {bad l : List Int} (h : Free bad l) : plainL l = l := by
 unfold plainL
 conv => rhs; rw [← List.map_id l]
 apply List.map_congr_left
 intro k hk
 have := h k hk
 exact plainK_of ⟨this.1, this.2.1⟩
theorem sideK_two (s : Int) : sideK s = 0 ∨ sideK s = 1 := by unfold sideK; split <;> simp
theorem Free.tail {bad l : List Int} {k : Int} (h : Free bad (k :: l)) : (0 ≤ k ∧ k ≤ 22 ∧ k ∉ bad) ∧ Free bad l := ⟨h k (by simp), fun x hx => h x (List.mem_cons_of_mem _ hx)⟩
theorem Free.cons {bad l : List Int} {k : Int} (h : 0 ≤ k ∧ k ≤ 22 ∧ k ∉ bad) (h2 : Free bad l) : Free bad (k :: l) := fun x hx => by
 rcases List.mem_cons.1 hx with rfl | hx
 ·exact h
 ·exact h2 x hx
theorem free_w1 : ∀ (p : Int) (l : List Int), Free [] l → 0 ≤ p ∧ p ≤ 22 ∧ p ∉ ([8] : List Int) → Free [8] (rW1 p l)
 | _, [], _, _ => fun x hx => by simp [rW1] at hx
 | p, k :: l, h, hp => by
  obtain ⟨h1, h2⟩ := h.tail
  have hk : 0 ≤ (if k = 8 then (if isOpens p ∨ p = 22 then 13 else p) else k) ∧ (if k = 8 then (if isOpens p ∨ p = 22 then 13 else p) else k) ≤ 22 ∧ (if k = 8 then (if isOpens p ∨ p = 22 then 13 else p) else k) ∉ ([8] : List Int) := by
   split
   ·split
    ·decide
    ·exact hp
   ·rename_i hne; exact ⟨h1.1, h1.2.1, by simpa using hne⟩
  rw [rW1]
  exact Free.cons hk (free_w1 _ l h2 hk)
theorem free_wS {bad : List Int} {a b : Int} (hb : 0 ≤ b ∧ b ≤ 22 ∧ b ∉ bad) : ∀ (s : Int) (l : List Int), Free bad l → Free bad (rWS a b s l)
 | _, [], _ => fun x hx => by simp [rWS] at hx
 | s, k :: l, h => by
  obtain ⟨h1, h2⟩ := h.tail
  rw [rWS]
  refine Free.cons ?_ (free_wS hb _ l h2)
  split
  ·exact hb
  ·exact h1
theorem free_w3 {l : List Int} (h : Free [8] l) : Free [2, 8] (rW3 l) := fun x hx => by
 obtain ⟨k, hk, rfl⟩ := List.mem_map.1 hx
 have h1 := h k hk
 split
 ·decide
 ·rename_i hne
  refine ⟨h1.1, h1.2.1, ?_⟩
  have := h1.2.2
  simp at this ⊢
  exact ⟨hne, this⟩
theorem free_w4 : ∀ (p : Int) (l : List Int), Free [2, 8] l → Free [2, 8] (rW4 p l)
 | _, [], _ => fun x hx => by simp [rW4] at hx
 | p, k :: l, h => by
  obtain ⟨h1, h2⟩ := h.tail
  rw [rW4]
  refine Free.cons ?_ (free_w4 _ l h2)
  split
  ·rename_i hc
   have : p = 3 ∨ p = 6 := by
    rcases hc with ⟨_, e, _⟩ | ⟨_, e, _⟩
    ·exact .inl e
    ·exact e
   rcases this with rfl | rfl <;> decide
  ·exact h1
theorem free_w5 : ∀ (b : Bool) (l : List Int), Free [2, 8] l → Free [2, 8] (rW5 b l)
 | _, [], _ => fun x hx => by simp [rW5] at hx
 | b, k :: l, h => by
  obtain ⟨h1, h2⟩ := h.tail
  rw [rW5]
  refine Free.cons ?_ (free_w5 _ l h2)
  split
  ·decide
  ·exact h1
theorem free_w6 {l : List Int} (h : Free [2, 8] l) : Free [2, 4, 5, 7, 8] (rW6 l) := fun x hx => by
 obtain ⟨k, hk, rfl⟩ := List.mem_map.1 hx
 have h1 := h k hk
 split
 ·decide
 ·rename_i hne
  refine ⟨h1.1, h1.2.1, ?_⟩
  have := h1.2.2
  simp at this ⊢
  simp only [not_or] at hne
  exact ⟨this.1, hne.1, hne.2.1, hne.2.2, this.2⟩
theorem ofI_eq (l : List Int) (sos : Int) : ofI l sos = rWS 0 0 (sideK sos) (rW6 (rW5 false (rW4 (-1) (rW3 (rWS 2 6 (sideK sos) (rW1 (sideK sos) (plainL l))))))) ∧ Free [2, 4, 5, 7, 8] (ofI l sos) := by
 have hs : 0 ≤ sideK sos ∧ sideK sos ≤ 22 ∧ sideK sos ∉ ([8] : List Int) := by rcases sideK_two sos with h | h <;> rw [h] <;> decide
 have f1 := free_w1 (sideK sos) _ (plainL_free l) hs
 have f2 := free_wS (a := 2) (b := 6) (by decide) (sideK sos) _ f1
 have f3 := free_w3 f2
 have f4 := free_w4 (-1) _ f3
 have f5 := free_w5 false _ f4
 have f6 := free_w6 f5
 have f7 := free_wS (a := 0) (b := 0) (by decide) (sideK sos) _ f6
 have e : ofI l sos = rWS 0 0 (sideK sos) (rW6 (rW5 false (rW4 (-1) (rW3 (rWS 2 6 (sideK sos) (rW1 (sideK sos) (plainL l))))))) := by
  show ruleI (ruleI (ruleI (ruleI (ruleI (ruleI (ruleI l sos 1) sos 2) sos 3) sos 4) sos 5) sos 6) sos 7 = _
  have r1 : ruleI l sos 1 = rW1 (sideK sos) (plainL l) := rfl
  rw [r1]
  have r2 : ruleI (rW1 (sideK sos) (plainL l)) sos 2 = rWS 2 6 (sideK sos) (rW1 (sideK sos) (plainL l)) := by rw [ruleI, plainL_of f1]; rfl
  rw [r2]
  have r3 : ruleI (rWS 2 6 (sideK sos) (rW1 (sideK sos) (plainL l))) sos 3 = rW3 (rWS 2 6 (sideK sos) (rW1 (sideK sos) (plainL l))) := by rw [ruleI, plainL_of f2]; rfl
  rw [r3]
  have r4 : ∀ x, Free [2, 8] x → ruleI x sos 4 = rW4 (-1) x := fun x hx => by rw [ruleI, plainL_of hx]; rfl
  rw [r4 _ f3]
  have r5 : ∀ x, Free [2, 8] x → ruleI x sos 5 = rW5 false x := fun x hx => by rw [ruleI, plainL_of hx]; rfl
  rw [r5 _ f4]
  have r6 : ∀ x, Free [2, 8] x → ruleI x sos 6 = rW6 x := fun x hx => by rw [ruleI, plainL_of hx]; rfl
  rw [r6 _ f5]
  have r7 : ∀ x, Free [2, 4, 5, 7, 8] x → ruleI x sos 7 = rWS 0 0 (sideK sos) x := fun x hx => by rw [ruleI, plainL_of hx]; rfl
  rw [r7 _ f6]
 exact ⟨e, e ▸ f7⟩
theorem strong_step (l : List Int) (s : Int) {j : Nat} (hj : j < l.length) : lastStrong s (l.take (j + 1)) = if isStrong l[j] then l[j] else lastStrong s (l.take j) := by
 rw [List.take_succ_eq_append_getElem hj, lastStrong, List.foldl_append]
 rfl
end Go.Proofs.Ytadfleopbpomfaa
namespace Go.Proofs.Ytadfleopbpomfaa
open Go.RowKit Reckon
def clsL (chars : List Int) : List Int := chars.map cls
def pickL (l at_ : List Int) : List Int := at_.map fun p => l.getD p.toNat 0
def seqE (chars xc : List Int) (s : Sq) : List Int :=
 nofI (ofB (pickL chars s.pl) (ofI (pickL xc s.pl) s.sos) (pickL xc s.pl) s.lev s.sos) s.lev s.sos s.eos
def layK (lev : Int) (at_ es : List Int) (st : List Int × List Int) : Nat → List Int × List Int
 | 0 => st
 | k + 1 => ((layK lev at_ es st k).1.set (at_.getD k 0).toNat (nLevelI (es.getD k 0) lev), (layK lev at_ es st k).2.set (at_.getD k 0).toNat (es.getD k 0))
def layN (chars xc : List Int) (seqs : List Sq) (st : List Int × List Int) : Nat → List Int × List Int
 | 0 => st
 | n + 1 => match seqs[n]? with
  | some s => layK s.lev s.pl (seqE chars xc s) (layN chars xc seqs st n) s.pl.length
  | none => layN chars xc seqs st n
def fillN (first : List Int) (base : Int) (l : List Int) : Nat → List Int
 | 0 => l
 | k + 1 => if isOut (first.getD k 0) then (fillN first base l k).set k (if k = 0 then base else (fillN first base l k).getD (k - 1) 0) else fillN first base l k
def baseI (chars : List Int) (dir : Int) : Int := level (clsL chars) dir
def laidI (chars : List Int) (dir : Int) : List Int × List Int :=
 layN chars (xcls (clsL chars) (baseI chars dir)) (seqsI (clsL chars) (lvs (clsL chars) (baseI chars dir)) (baseI chars dir)) (lvs (clsL chars) (baseI chars dir), xcls (clsL chars) (baseI chars dir)) (seqsI (clsL chars) (lvs (clsL chars) (baseI chars dir)) (baseI chars dir)).length
def levI (chars : List Int) (dir : Int) : List Int := fillN (clsL chars) (baseI chars dir) (laidI chars dir).1 chars.length
def lclsI (chars : List Int) (dir : Int) : List Int := (laidI chars dir).2
theorem base_two (chars : List Int) (dir : Int) : baseI chars dir = 0 ∨ baseI chars dir = 1 := by
 unfold baseI level
 split
 ·exact .inl rfl
 ·split
  ·exact .inr rfl
  ·rcases firstP_range (clsL chars) 0 with h | h | h <;> rw [h] <;> decide
theorem layK_length (lev : Int) (at_ es : List Int) (st : List Int × List Int) : ∀ k, (layK lev at_ es st k).1.length = st.1.length ∧ (layK lev at_ es st k).2.length = st.2.length
 | 0 => ⟨rfl, rfl⟩
 | k + 1 => by rw [layK, List.length_set, List.length_set]; exact layK_length lev at_ es st k
theorem layN_length (chars xc : List Int) (seqs : List Sq) (st : List Int × List Int) : ∀ n, (layN chars xc seqs st n).1.length = st.1.length ∧ (layN chars xc seqs st n).2.length = st.2.length
 | 0 => ⟨rfl, rfl⟩
 | n + 1 => by
  rw [layN]
  split
  ·rw [(layK_length _ _ _ _ _).1, (layK_length _ _ _ _ _).2]; exact layN_length chars xc seqs st n
  ·exact layN_length chars xc seqs st n
theorem fillN_length (first : List Int) (base : Int) (l : List Int) : ∀ k, (fillN first base l k).length = l.length
 | 0 => rfl
 | k + 1 => by
  rw [fillN]
  split
  ·rw [List.length_set]; exact fillN_length first base l k
  ·exact fillN_length first base l k
end Go.Proofs.Ytadfleopbpomfaa
namespace Go.Proofs.Ytadfleopbpomfaa
open Go.RowKit
set_option maxRecDepth 20000 in
set_option maxHeartbeats 1000000 in
theorem rpick_any (A : Option Addr) (l : List Int) (c : Nat) (A' : Option Addr) (at_ : List Int) (c' : Nat) (w : World) (h : Lies w w.heap.size A (ints .i64 l)) (h' : Lies w w.heap.size A' (ints .i64 at_))
 (hp : ∀ x ∈ at_, 0 ≤ x ∧ x < (l.length : Int)) (_ : l.length ≤ 1000000) (hl' : at_.length ≤ 1000000) :
 Calls Try.prog 42 #[.slice A l.length c, .slice A' at_.length c'] w fun ed w' => Rowed w w.heap.size 3 (ints .i64 (pickL l at_)) ed w' := by
 have H := Lib.hid h
 have H' := Lib.hid h'
 have HP := Lib.hid hp
 clear h h' hp
 go_enter Try.func42, Try.ntmps42
 go_wp2_with fail
 go_loopw [6, 5] (fun iv ov wr => ∃ i : Nat, i ≤ at_.length ∧ iv = .int .i64 i ∧ Hid (Own wr w.heap.size 3 ov (ints .i64 (pickL l (at_.take i)))) ∧ Hid (Below w.heap.size w wr)) (fun iv _ _ => at_.length - (intOf iv).toNat)
 case atStart => exact ⟨0, by omega, rfl, Lib.hid (Own.empty _ _ _), Lib.hid (Below.refl _ _)⟩
 case round =>
  obtain ⟨i, hi, rfl, HO, HB⟩ := hrel
  by_cases hlt : i < at_.length
  ·obtain ⟨p', hp', _, hc'⟩ := (H'.out.up HB.out).int hlt
   subst hp'
   obtain ⟨k, hk, hkl⟩ : ∃ k : Nat, at_[i] = (k : Int) ∧ k < l.length := by
    have := HP.out _ (List.getElem_mem hlt)
    exact ⟨at_[i].toNat, by omega, by omega⟩
   obtain ⟨p, hp, _, hc⟩ := (H.out.up HB.out).int hkl
   subst hp
   have HS : Hid (pickL l (at_.take (i + 1)) = pickL l (at_.take i) ++ [l[k]]) := Lib.hid (by
    rw [take_snoc at_ i hlt, pickL, List.map_append, hk, List.map_cons, List.map_nil, Int.toNat_natCast, getD_at hkl]; rfl)
   rw [hk] at hc'
   obtain ⟨x, hx⟩ : ∃ x, l[k] = x := ⟨_, rfl⟩
   rw [hx] at hc HS
   have i0 : (0 : Int) ≤ (i : Int) := by omega
   have i1 : (i : Int) < (at_.length : Int) := by omega
   have k0 : (0 : Int) ≤ (k : Int) := by omega
   have k1 : (k : Int) < (l.length : Int) := by omega
   have HLT := Lib.hid hlt
   clear hx hk
   go_wp2_with (first
    | (at_builtin; refine app_lit intsT w wr w.heap.size _ _ #[.int .i64 x] 1 _ _ rfl rfl rfl rfl HO.out (by simp [Value.oneCell']) HB.out HB.out.size (by unfold maxLen; simp [ints, pickL]; omega) (by simp [ints, pickL]; omega) ?_; intro v9 w9 o9 b9 _ _; have O9 := Lib.hid o9; have B9 := Lib.hid b9; clear o9 b9)
    | fail)
   go_roundw
   case rel => exact ⟨i + 1, by omega, by go_num, Lib.hid (by rw [HS.out]; simpa [ints] using O9.out), B9⟩
   case measure => simp [intOf]; omega
  ·obtain rfl : i = at_.length := by omega
   go_wp2
   go_ret
   exact ⟨_, rfl, by have := HO.out; rw [List.take_length] at this; exact this, HB.out⟩
end Go.Proofs.Ytadfleopbpomfaa
namespace Go.Proofs.Ytadfleopbpomfaa
open Go.RowKit Reckon
def Fin (k : Int) : Prop := k = 0 ∨ k = 1 ∨ k = 3 ∨ k = 6
theorem pick_length (l at_ : List Int) : (pickL l at_).length = at_.length := by simp [pickL]
theorem seqE_length (chars xc : List Int) (s : Sq) : (seqE chars xc s).length = s.pl.length := by
 rw [seqE, nofI_length, (ofB_keeps _ _ _ _ _).1, ofI_length, pick_length]
structure Emb (first : List Int) (base : Int) (lv xc : List Int) : Prop where
 ll : lv.length = first.length
 lc : xc.length = first.length
 lev : ∀ q, q < first.length → base ≤ lv.getD q 0 ∧ lv.getD q 0 ≤ 125
 out : ∀ q, q < first.length → isOut (xc.getD q 0) = isOut (first.getD q 0)
 rng : ∀ q, q < first.length → 0 ≤ xc.getD q 0 ∧ xc.getD q 0 ≤ 22
theorem over_range {e : Ent} (ho : e.over = -1 ∨ e.over = 0 ∨ e.over = 1) {c : Int} (hc : 0 ≤ c ∧ c ≤ 22) : 0 ≤ overE e c ∧ overE e c ≤ 22 := by
 unfold overE
 split
 ·exact hc
 ·omega
theorem tell_range {x : X6} {k : Nat} (hw : Wf x k) (ho : OvOk x) {c : Int} (hc : 0 ≤ c ∧ c ≤ 22) : 0 ≤ (tellP x.core c).2 ∧ (tellP x.core c).2 ≤ 22 := by
 obtain ⟨e, st, hst⟩ := hw.top
 obtain ⟨⟨e2, st2, he2⟩, _⟩ := wf_end (c := c) hw
 have hov := ho e (by rw [hst]; simp)
 have hov2 := ov_end ho e2 (by rw [he2]; simp)
 have hes : (endP x.core).st = e2 :: st2 := by rw [← core_end x c, endX, core_put]; exact he2
 have hcs : x.core.st = e :: st := hst
 have hkn : 0 ≤ knownI c ∧ knownI c ≤ 22 := by unfold knownI; split <;> omega
 unfold tellP
 rw [hcs]
 simp only [hes]
 split
 ·exact hc
 ·split
  ·exact hc
  ·split
   ·exact over_range hov hc
   ·split
    ·exact over_range hov2 hc
    ·exact over_range hov hkn
theorem emb_of {first : List Int} (hf : ∀ k ∈ first, 0 ≤ k ∧ k ≤ 22) {base : Int} (hb : base = 0 ∨ base = 1) : Emb first base (lvs first base) (xcls first base) := by
 have l1 : (lvs first base).length = first.length := (wf_run first base first.length).levels
 have l2 : (xcls first base).length = first.length := (wf_run first base first.length).classes
 have hbb : ∀ k, (runX first base k).base = base := fun k => by
  rw [base_run]
  rcases hb with rfl | rfl <;> rfl
 refine ⟨l1, l2, fun q hq => ?_, fun q hq => ?_, fun q hq => ?_⟩
 ·obtain ⟨h1, h2, -, -⟩ := tell_facts (wf_run first base q) (ov_run first base q) first[q]
  rw [getD_at (by omega), lvs_at first base q hq (by omega)]
  rw [hbb q] at h1
  exact ⟨h1, h2⟩
 ·obtain ⟨-, -, h3, -⟩ := tell_facts (wf_run first base q) (ov_run first base q) first[q]
  rw [getD_at (by omega), xcls_at first base q hq (by omega), h3, getD_at hq]
 ·rw [getD_at (by omega), xcls_at first base q hq (by omega)]
  exact tell_range (wf_run first base q) (ov_run first base q) (hf _ (List.getElem_mem hq))
structure Due (base v e : Int) : Prop where
 fin : Fin e
 low : base ≤ v
 high : v ≤ 126
 left : e = 0 → v % 2 = 0
 right : e = 1 → v % 2 = 1
 num : e = 3 ∨ e = 6 → v % 2 = 0
theorem clsL_range (chars : List Int) : ∀ k ∈ clsL chars, 0 ≤ k ∧ k ≤ 22 := fun k hk => by
 obtain ⟨c, _, rfl⟩ := List.mem_map.1 hk
 exact cls_range c
theorem clsL_length (chars : List Int) : (clsL chars).length = chars.length := by simp [clsL]
theorem laid_length (chars : List Int) (dir : Int) : (laidI chars dir).1.length = chars.length ∧ (laidI chars dir).2.length = chars.length := by
 have hE := emb_of (clsL_range chars) (base_two chars dir)
 unfold laidI
 rw [(layN_length _ _ _ _ _).1, (layN_length _ _ _ _ _).2]
 exact ⟨hE.ll.trans (clsL_length chars), hE.lc.trans (clsL_length chars)⟩
theorem levI_length (chars : List Int) (dir : Int) : (levI chars dir).length = chars.length := by rw [levI, fillN_length, (laid_length chars dir).1]
end Go.Proofs.Ytadfleopbpomfaa
namespace Go.Proofs.Ytadfleopbpomfaa
open Go.RowKit
theorem rend11_any (s : Int) (w : World) : Calls Try.prog 63 #[.int .i64 s] w fun e w' => e = .returned (.int .i64 (endK s)) ∧ w = w' := by
 rcases h : (s == 1) with _ | _
 ·have hz : endK s = 0 := by rw [endK, if_neg (by simpa using h)]
  rw [hz]
  go_enter Try.func63, Try.ntmps63
  go_wp2
  go_ret
  exact ⟨rfl, rfl⟩
 ·have hz : endK s = 1 := by rw [endK, if_pos (by simpa using h)]
  rw [hz]
  go_enter Try.func63, Try.ntmps63
  go_wp2
  go_ret
  exact ⟨rfl, rfl⟩
theorem rside11_any (k lev : Int) (w : World) : Calls Try.prog 64 #[.int .i64 k, .int .i64 lev] w fun e w' => e = .returned (.int .i64 (nSide lev k)) ∧ w = w' := by
 obtain ⟨z, hz⟩ : ∃ z, sdB k = z := ⟨_, rfl⟩
 have HZ := Lib.hid hz
 by_cases hs : z < 0
 ·have hn : nSide lev k = dirL lev := by rw [nSide, hz, if_pos hs]
  have hd : decide (z < 0) = true := decide_eq_true hs
  rw [hn]
  clear hz hn
  go_enter Try.func64, Try.ntmps64
  go_wp2_with fail
  refine (rside10_any k w).mono ?_
  rintro e wq ⟨rfl, rfl⟩
  rw [HZ.out]
  go_wp2_with fail
  refine (rdir8_any lev w).mono ?_
  rintro e wq ⟨rfl, rfl⟩
  go_wp2
  go_ret
  exact ⟨rfl, rfl⟩
 ·have hn : nSide lev k = z := by rw [nSide, hz, if_neg hs]
  have hd : decide (z < 0) = false := decide_eq_false hs
  rw [hn]
  clear hz hn
  go_enter Try.func64, Try.ntmps64
  go_wp2_with fail
  refine (rside10_any k w).mono ?_
  rintro e wq ⟨rfl, rfl⟩
  rw [HZ.out]
  go_wp2
  go_ret
  exact ⟨rfl, rfl⟩
theorem dir_even {lev : Int} (h : (Int.tmod lev 2 == 0) = true) : dirL lev = 0 := by rw [dirL, if_pos ((tmod_dir lev).1 (by simpa using h))]
theorem dir_odd {lev : Int} (h : (Int.tmod lev 2 == 0) = false) : dirL lev = 1 := by rw [dirL, if_neg (fun e => by rw [(tmod_dir lev).2 e] at h; simp at h)]
set_option maxHeartbeats 2000000 in
theorem rlevel11_any (k lev : Int) (w : World) : Calls Try.prog 46 #[.int .i64 k, .int .i64 lev] w fun e w' => e = .returned (.int .i64 (nLevelI k lev)) ∧ w = w' := by
 obtain ⟨z, hz⟩ : ∃ z, nLevelI k lev = z := ⟨_, rfl⟩
 rw [hz]
 rcases hev : (Int.tmod lev 2 == 0) with _ | _
 ·have hne : (Int.tmod lev 2 != 0) = true := by rw [bne, hev]; rfl
  have hd := dir_odd hev
  rcases e0 : (k == 0) with _ | _
  ·rcases e6 : (k == 6) with _ | _
   ·rcases e3 : (k == 3) with _ | _
    ·have HF : Hid (z = lev) := Lib.hid (by
      simp only [beq_eq_false_iff_ne] at e0 e3 e6
      rw [← hz, nLevelI, hd, if_neg (by omega), if_neg (by omega), if_neg (by omega)])
     clear hz hd
     go_enter Try.func46, Try.ntmps46
     go_wp2
     go_ret
     exact ⟨ret_int HF.out.symm, rfl⟩
    ·have HF : Hid (z = wrap64 (lev + 1)) := Lib.hid (by
      simp only [beq_iff_eq] at e3
      rw [← hz, nLevelI, hd, if_neg (by omega), if_neg (by omega), if_pos (by omega)])
     clear hz hd
     go_enter Try.func46, Try.ntmps46
     go_wp2
     go_ret
     exact ⟨ret_int HF.out.symm, rfl⟩
   ·have HF : Hid (z = wrap64 (lev + 1)) := Lib.hid (by
     simp only [beq_iff_eq] at e6
     rw [← hz, nLevelI, hd, if_neg (by omega), if_neg (by omega), if_pos (by omega)])
    clear hz hd
    go_enter Try.func46, Try.ntmps46
    go_wp2
    go_ret
    exact ⟨ret_int HF.out.symm, rfl⟩
  ·have HF : Hid (z = wrap64 (lev + 1)) := Lib.hid (by
    simp only [beq_iff_eq] at e0
    rw [← hz, nLevelI, hd, if_neg (by omega), if_neg (by omega), if_pos (by omega)])
   clear hz hd
   obtain rfl : k = 0 := by simpa using e0
   go_enter Try.func46, Try.ntmps46
   go_wp2
   go_ret
   exact ⟨ret_int HF.out.symm, rfl⟩
 ·have hne : (Int.tmod lev 2 != 0) = false := by rw [bne, hev]; rfl
  have hd := dir_even hev
  rcases e1 : (k == 1) with _ | _
  ·rcases e6 : (k == 6) with _ | _
   ·rcases e3 : (k == 3) with _ | _
    ·have HF : Hid (z = lev) := Lib.hid (by
      simp only [beq_eq_false_iff_ne] at e1 e3 e6
      rw [← hz, nLevelI, hd, if_neg (by omega), if_neg (by omega), if_neg (by omega)])
     clear hz hd
     go_enter Try.func46, Try.ntmps46
     go_wp2
     go_ret
     exact ⟨ret_int HF.out.symm, rfl⟩
    ·have HF : Hid (z = wrap64 (lev + 2)) := Lib.hid (by
      simp only [beq_iff_eq] at e3
      rw [← hz, nLevelI, hd, if_neg (by omega), if_pos (by omega)])
     clear hz hd
     go_enter Try.func46, Try.ntmps46
     go_wp2
     go_ret
     exact ⟨ret_int HF.out.symm, rfl⟩
   ·have HF : Hid (z = wrap64 (lev + 2)) := Lib.hid (by
     simp only [beq_iff_eq] at e6
     rw [← hz, nLevelI, hd, if_neg (by omega), if_pos (by omega)])
    clear hz hd
    go_enter Try.func46, Try.ntmps46
    go_wp2
    go_ret
    exact ⟨ret_int HF.out.symm, rfl⟩
  ·have HF : Hid (z = wrap64 (lev + 1)) := Lib.hid (by
    simp only [beq_iff_eq] at e1
    rw [← hz, nLevelI, hd, if_pos (by omega)])
   clear hz hd
   obtain rfl : k = 1 := by simpa using e1
   go_enter Try.func46, Try.ntmps46
   go_wp2
   go_ret
   exact ⟨ret_int HF.out.symm, rfl⟩
end Go.Proofs.Ytadfleopbpomfaa
