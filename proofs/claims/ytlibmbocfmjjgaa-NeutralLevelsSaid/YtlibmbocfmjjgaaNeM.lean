/- Layer 11: neutral, plainly: groups, what they become, levels. -/
import Derived.Test.YtlibmbocfmjjgaaClB
import Derived.Test.YtlibmbocfmjjgaaSqA
import Derived.Test.YtlibmbocfmjjgaaBrA
import Derived.Test.YtlibmbocfmjjgaaMix
namespace Go.Proofs.Ytlibmbocfmjjgaa
open Go.RowKit

/-- one more place: the groups of those ahead are G -/
def gStep (G : List (Int × Int)) (i : Nat) : List (Int × Int) :=
  if (G.getLast?.map (·.2)) = some (i : Int) then G.dropLast ++ [((G.getLast?.map (·.1)).getD 0, ((i + 1 : Nat) : Int))] else G ++ [((i : Int), ((i + 1 : Nat) : Int))]
/-- the groups of what is neutral among the first k -/
def grpN (l : List Int) : Nat → List (Int × Int)
  | 0 => []
  | k + 1 => if isNeutral (l.getD k 0) then gStep (grpN l k) k else grpN l k
def groupsI (l : List Int) : List (Int × Int) := grpN l l.length

/-- how many are neutral among the first k -/
def cntN (l : List Int) (k : Nat) : Nat := (l.take k).countP isNeutral
theorem cntN_succ (l : List Int) {k : Nat} (h : k < l.length) : cntN l (k + 1) = cntN l k + if isNeutral (l.getD k 0) then 1 else 0 := by
  rw [cntN, cntN, take_snoc l k h, List.countP_append, getD_at h]
  congr 1
  cases hn : isNeutral l[k] <;> simp [hn]
/-- how many places there are in groups -/
def sizeG (G : List (Int × Int)) : Nat := (G.map fun p => (p.2 - p.1).toNat).sum

/-- what the groups of the first k are -/
structure GInv (l : List Int) (k : Nat) (G : List (Int × Int)) : Prop where
  each : ∀ p ∈ G, ∃ a b : Nat, p = ((a : Int), (b : Int)) ∧ a < b ∧ b ≤ k ∧ (∀ i, a ≤ i → i < b → isNeutral (l.getD i 0) = true) ∧ (a = 0 ∨ isNeutral (l.getD (a - 1) 0) = false) ∧ (b = k ∨ isNeutral (l.getD b 0) = false)
  apart : G.Pairwise fun p q => p.2 < q.1
  all : ∀ i, i < k → isNeutral (l.getD i 0) = true → ∃ p ∈ G, p.1 ≤ (i : Int) ∧ (i : Int) < p.2
  size : sizeG G = cntN l k
  len : G.length ≤ k
theorem ginv_zero (l : List Int) : GInv l 0 [] := ⟨fun p hp => (by cases hp), List.Pairwise.nil, fun i hi => (by omega), by simp [sizeG, cntN], by simp⟩
theorem sizeG_snoc (G : List (Int × Int)) (p : Int × Int) : sizeG (G ++ [p]) = sizeG G + (p.2 - p.1).toNat := by simp [sizeG]
theorem snoc_of {G : List (Int × Int)} {p : Int × Int} (h : G.getLast? = some p) : G = G.dropLast ++ [p] := by
  have hne : G ≠ [] := by intro e; rw [e] at h; simp at h
  have e : G.getLast hne = p := by
    have := List.getLast?_eq_some_getLast hne
    rw [this] at h
    injection h
  rw [← e]
  exact (List.dropLast_concat_getLast hne).symm
theorem ginv_next {l : List Int} {k : Nat} {G : List (Int × Int)} (h : GInv l k G) (hk : k < l.length) : GInv l (k + 1) (if isNeutral (l.getD k 0) then gStep G k else G) := by
  by_cases hn : isNeutral (l.getD k 0) = true
  · rw [if_pos hn, gStep]
    by_cases hg : G.getLast?.map (·.2) = some (k : Int)
    · rw [if_pos hg]
      obtain ⟨p, hp, hp2⟩ := Option.map_eq_some_iff.1 hg
      have hG := snoc_of hp
      obtain ⟨D, hD⟩ : ∃ D, G.dropLast = D := ⟨_, rfl⟩
      rw [hD] at hG ⊢
      have e1 : (G.getLast?.map (·.1)).getD 0 = p.1 := by rw [hp]; rfl
      rw [e1]
      clear e1 hg hp hD
      subst hG
      obtain ⟨a, b, hab, h1, h2, h3, h4, -⟩ := h.each p (by simp)
      subst hab
      simp only at hp2
      have hbk : b = k := by omega
      subst hbk
      have hap := List.pairwise_append.1 h.apart
      refine ⟨fun q hq => ?_, ?_, fun i hi hni => ?_, ?_, ?_⟩
      · rcases List.mem_append.1 hq with hq | hq
        · obtain ⟨a', b', hab', g1, g2, g3, g4, g5⟩ := h.each q (List.mem_append_left _ hq)
          have := hap.2.2 q hq ((a : Int), (b : Int)) (by simp)
          rw [hab'] at this
          simp only at this
          exact ⟨a', b', hab', g1, by omega, g3, g4, .inr (by rcases g5 with g5 | g5 <;> first | omega | exact g5)⟩
        · rw [List.mem_singleton.1 hq]
          refine ⟨a, b + 1, rfl, by omega, by omega, fun i i1 i2 => ?_, h4, .inl rfl⟩
          by_cases hib : i = b
          · subst hib; exact hn
          · exact h3 i i1 (by omega)
      · refine List.pairwise_append.2 ⟨hap.1, List.pairwise_singleton _ _, fun x hx y hy => ?_⟩
        rw [List.mem_singleton.1 hy]
        exact hap.2.2 x hx ((a : Int), (b : Int)) (by simp)
      · by_cases hib : i = b
        · subst hib
          exact ⟨_, List.mem_append_right _ (List.mem_singleton.2 rfl), by simp only; omega, by simp only; omega⟩
        · obtain ⟨q, hq, q1, q2⟩ := h.all i (by omega) hni
          rcases List.mem_append.1 hq with hq | hq
          · exact ⟨q, List.mem_append_left _ hq, q1, q2⟩
          · rw [List.mem_singleton.1 hq] at q1 q2
            simp only at q1 q2
            exact ⟨_, List.mem_append_right _ (List.mem_singleton.2 rfl), q1, by simp only; omega⟩
      · have := h.size
        rw [sizeG_snoc] at this ⊢
        rw [cntN_succ l hk, if_pos hn, ← this]
        simp only
        omega
      · have := h.len
        simp only [List.length_append, List.length_singleton] at this ⊢
        omega
    · rw [if_neg hg]
      have hfar : ∀ q ∈ G, q.2 < (k : Int) := by
        intro q hq
        obtain ⟨D, p, hp⟩ : ∃ D p, G = D ++ [p] := ⟨G.dropLast, G.getLast (List.ne_nil_of_mem hq), (List.dropLast_concat_getLast _).symm⟩
        subst hp
        have hl : (D ++ [p]).getLast? = some p := by simp
        rw [hl] at hg
        have hap := List.pairwise_append.1 h.apart
        obtain ⟨a, b, hab, h1, h2, -⟩ := h.each p (by simp)
        rw [hab] at hg
        simp only [Option.map_some, Option.some.injEq] at hg
        rcases List.mem_append.1 hq with hq | hq
        · have := hap.2.2 q hq p (by simp)
          rw [hab] at this
          simp only at this
          omega
        · rw [List.mem_singleton.1 hq, hab]
          simp only
          omega
      have hbefore : k = 0 ∨ isNeutral (l.getD (k - 1) 0) = false := by
        rcases Nat.eq_zero_or_pos k with h0 | h0
        · exact .inl h0
        · right
          cases hp : isNeutral (l.getD (k - 1) 0) with
          | false => rfl
          | true =>
            obtain ⟨q, hq, q1, q2⟩ := h.all (k - 1) (by omega) hp
            have := hfar q hq
            omega
      refine ⟨fun q hq => ?_, ?_, fun i hi hni => ?_, ?_, ?_⟩
      · rcases List.mem_append.1 hq with hq | hq
        · obtain ⟨a', b', hab', g1, g2, g3, g4, g5⟩ := h.each q hq
          have := hfar q hq
          rw [hab'] at this
          simp only at this
          exact ⟨a', b', hab', g1, by omega, g3, g4, .inr (by rcases g5 with g5 | g5 <;> first | omega | exact g5)⟩
        · rw [List.mem_singleton.1 hq]
          refine ⟨k, k + 1, rfl, by omega, by omega, fun i i1 i2 => ?_, hbefore, .inl rfl⟩
          obtain rfl : i = k := by omega
          exact hn
      · refine List.pairwise_append.2 ⟨h.apart, List.pairwise_singleton _ _, fun x hx y hy => ?_⟩
        rw [List.mem_singleton.1 hy]
        exact hfar x hx
      · by_cases hib : i = k
        · subst hib
          exact ⟨_, List.mem_append_right _ (List.mem_singleton.2 rfl), by simp only; omega, by simp only; omega⟩
        · obtain ⟨q, hq, q1, q2⟩ := h.all i (by omega) hni
          exact ⟨q, List.mem_append_left _ hq, q1, q2⟩
      · rw [sizeG_snoc, h.size, cntN_succ l hk, if_pos hn]
        simp only
        omega
      · have := h.len
        simp only [List.length_append, List.length_singleton]
        omega
  · have hn' : isNeutral (l.getD k 0) = false := by simpa using hn
    rw [if_neg hn]
    refine ⟨fun q hq => ?_, h.apart, fun i hi hni => ?_, ?_, by have := h.len; omega⟩
    · obtain ⟨a', b', hab', g1, g2, g3, g4, g5⟩ := h.each q hq
      refine ⟨a', b', hab', g1, by omega, g3, g4, .inr ?_⟩
      rcases g5 with g5 | g5
      · rw [g5]; exact hn'
      · exact g5
    · by_cases hib : i = k
      · subst hib; rw [hn'] at hni; cases hni
      · exact h.all i (by omega) hni
    · rw [h.size, cntN_succ l hk, if_neg hn, Nat.add_zero]
theorem ginv (l : List Int) : ∀ k, k ≤ l.length → GInv l k (grpN l k)
  | 0, _ => ginv_zero l
  | k + 1, hk => ginv_next (ginv l k (by omega)) (by omega)

/-- a direction other than R counts as L -/
def endK (s : Int) : Int := if s = 1 then 1 else 0
/-- a class's side, or the level's direction -/
def nSide (lev k : Int) : Int := if sdB k < 0 then dirL lev else sdB k
/-- the side ahead of a place, behind it: of the first one that isn't neutral -/
def aheadI (l : List Int) (lev sos : Int) (i : Nat) : Int := match (l.take i).reverse.find? (fun k => !isNeutral k) with | some k => nSide lev k | none => endK sos
def behindI (l : List Int) (lev eos : Int) (i : Nat) : Int := match (l.drop i).find? (fun k => !isNeutral k) with | some k => nSide lev k | none => endK eos
/-- what a neutral one becomes -/
def toI (l : List Int) (lev sos eos : Int) (i : Nat) : Int := if aheadI l lev sos i = behindI l lev eos i then aheadI l lev sos i else dirL lev
def outAt (l : List Int) (lev sos eos : Int) (i : Nat) : Int := if isNeutral (l.getD i 0) then toI l lev sos eos i else l.getD i 0
def nofI (l : List Int) (lev sos eos : Int) : List Int := (List.range l.length).map (outAt l lev sos eos)
theorem nofI_length (l : List Int) (lev sos eos : Int) : (nofI l lev sos eos).length = l.length := by simp [nofI]
theorem nofI_at (l : List Int) (lev sos eos : Int) {i : Nat} (h : i < l.length) : (nofI l lev sos eos)[i]? = some (outAt l lev sos eos i) := by
  rw [nofI, List.getElem?_map, List.getElem?_range h]; rfl
theorem nofI_stay (l : List Int) (lev sos eos : Int) {i : Nat} (h : isNeutral (l.getD i 0) = false) : (nofI l lev sos eos)[i]? = l[i]? := by
  by_cases hi : i < l.length
  · rw [nofI_at l lev sos eos hi, outAt, if_neg (by rw [h]; simp), List.getElem?_eq_getElem hi, getD_at hi]
  · rw [List.getElem?_eq_none (by rw [nofI_length]; omega), List.getElem?_eq_none (by omega)]

/-- a, b: the ends of what is neutral around a place -/
structure Around (l : List Int) (a b : Nat) : Prop where
  lt : a < b
  le : b ≤ l.length
  all : ∀ i, a ≤ i → i < b → isNeutral (l.getD i 0) = true
  first : a = 0 ∨ isNeutral (l.getD (a - 1) 0) = false
  last : b = l.length ∨ isNeutral (l.getD b 0) = false
theorem find_none {l : List Int} {p : Int → Bool} (h : ∀ x ∈ l, p x = false) : l.find? p = none := by
  rw [List.find?_eq_none]
  intro x hx
  simp [h x hx]
theorem ahead_of {l : List Int} {a b : Nat} (h : Around l a b) (lev sos : Int) {i : Nat} (h1 : a ≤ i) (h2 : i < b) : aheadI l lev sos i = if 0 < a then nSide lev (l.getD (a - 1) 0) else endK sos := by
  have hle := h.le
  have e : l.take i = l.take a ++ (l.drop a).take (i - a) := by
    rw [← List.take_add, show a + (i - a) = i by omega]
  have hn : ((l.drop a).take (i - a)).reverse.find? (fun k => !isNeutral k) = none := by
    refine find_none fun x hx => ?_
    obtain ⟨j, hj, rfl⟩ := List.mem_iff_getElem.1 (List.mem_reverse.1 hx)
    rw [List.length_take, List.length_drop] at hj
    have := h.all (a + j) (by omega) (by omega)
    rw [getD_at (by omega)] at this
    simp [this]
  rw [aheadI, e, List.reverse_append, List.find?_append, hn, Option.none_or]
  by_cases ha : 0 < a
  · rw [if_pos ha]
    have hf : isNeutral (l.getD (a - 1) 0) = false := by
      rcases h.first with h0 | h0
      · omega
      · exact h0
    have e2 : l.take a = l.take (a - 1) ++ [l[a - 1]'(by omega)] := by
      have := take_snoc l (a - 1) (by omega)
      rw [show a - 1 + 1 = a by omega] at this
      exact this
    rw [getD_at (by omega)] at hf ⊢
    rw [e2, List.reverse_append, List.reverse_singleton, List.singleton_append, List.find?_cons, hf]
    rfl
  · obtain rfl : a = 0 := by omega
    rw [if_neg ha]
    rfl
theorem behind_of {l : List Int} {a b : Nat} (h : Around l a b) (lev eos : Int) {i : Nat} (h1 : a ≤ i) (h2 : i < b) : behindI l lev eos i = if b < l.length then nSide lev (l.getD b 0) else endK eos := by
  have hle := h.le
  have e : l.drop i = (l.drop i).take (b - i) ++ l.drop b := by
    have := (List.take_append_drop (b - i) (l.drop i)).symm
    rw [List.drop_drop, show i + (b - i) = b by omega] at this
    exact this
  have hn : ((l.drop i).take (b - i)).find? (fun k => !isNeutral k) = none := by
    refine find_none fun x hx => ?_
    obtain ⟨j, hj, rfl⟩ := List.mem_iff_getElem.1 hx
    rw [List.length_take, List.length_drop] at hj
    have := h.all (i + j) (by omega) (by omega)
    rw [getD_at (by omega)] at this
    simp [this]
  rw [behindI, e, List.find?_append, hn, Option.none_or]
  by_cases hb : b < l.length
  · rw [if_pos hb]
    have hf : isNeutral (l.getD b 0) = false := by
      rcases h.last with h0 | h0
      · omega
      · exact h0
    rw [getD_at hb] at hf ⊢
    rw [List.drop_eq_getElem_cons hb, List.find?_cons, hf]
    rfl
  · rw [if_neg hb, List.drop_of_length_le (by omega)]
    rfl
theorem sd_three (k : Int) : sdB k = 0 ∨ sdB k = 1 ∨ sdB k = -1 := by
  unfold sdB
  split
  · simp
  · split <;> simp
theorem dir_two (s : Int) : dirL s = 0 ∨ dirL s = 1 := by
  unfold dirL
  split
  · exact .inl rfl
  · exact .inr rfl
theorem side_two (lev k : Int) : nSide lev k = 0 ∨ nSide lev k = 1 := by
  unfold nSide
  split
  · exact dir_two _
  · have := sd_three k
    omega
theorem end_two (s : Int) : endK s = 0 ∨ endK s = 1 := by unfold endK; split <;> simp
theorem ahead_two (l : List Int) (lev sos : Int) (i : Nat) : aheadI l lev sos i = 0 ∨ aheadI l lev sos i = 1 := by
  unfold aheadI
  split
  · exact side_two _ _
  · exact end_two _
theorem to_two (l : List Int) (lev sos eos : Int) (i : Nat) : toI l lev sos eos i = 0 ∨ toI l lev sos eos i = 1 := by
  unfold toI
  split
  · exact ahead_two _ _ _ _
  · exact dir_two _
/-- behind it nothing is neutral -/
theorem nofI_none (l : List Int) (lev sos eos : Int) (i : Nat) : isNeutral ((nofI l lev sos eos).getD i 0) = false := by
  by_cases hi : i < l.length
  · have := nofI_at l lev sos eos hi
    rw [List.getD_eq_getElem?_getD, this, Option.getD_some, outAt]
    cases hn : isNeutral (l.getD i 0) with
    | true =>
      rw [if_pos rfl]
      rcases to_two l lev sos eos i with h | h <;> rw [h] <;> decide
    | false => rw [if_neg (by simp)]; exact hn
  · rw [List.getD_eq_getElem?_getD, List.getElem?_eq_none (by rw [nofI_length]; omega)]
    decide
theorem nofI_same {l : List Int} (lev sos eos : Int) (h : ∀ i, isNeutral (l.getD i 0) = false) : nofI l lev sos eos = l := by
  apply List.ext_getElem?
  intro i
  exact nofI_stay l lev sos eos (h i)
theorem nofI_again (l : List Int) (lev sos eos : Int) : nofI (nofI l lev sos eos) lev sos eos = nofI l lev sos eos := nofI_same _ _ _ (nofI_none l lev sos eos)
/-- a class's level in a level -/
def nLevelI (k lev : Int) : Int :=
  if dirL lev = 0 ∧ k = 1 then wrap64 (lev + 1) else if dirL lev = 0 ∧ (k = 6 ∨ k = 3) then wrap64 (lev + 2)
  else if dirL lev = 1 ∧ (k = 0 ∨ k = 6 ∨ k = 3) then wrap64 (lev + 1) else lev
def nLevelsI (l : List Int) (lev : Int) : List Int := l.map fun k => nLevelI k lev

theorem grp_at (l : List Int) {n : Nat} (hn : n < (groupsI l).length) : ∃ a b : Nat, (groupsI l)[n] = ((a : Int), (b : Int)) ∧ Around l a b := by
  obtain ⟨a, b, h1, h2, h3, h4, h5, h6⟩ := (ginv l l.length (Nat.le_refl _)).each _ (List.getElem_mem hn)
  exact ⟨a, b, h1, h2, h3, h4, h5, h6⟩
/-- where the groups ahead of number n end -/
def endN (l : List Int) (n : Nat) : Nat := if n = 0 then 0 else ((groupsI l).getD (n - 1) (0, 0)).2.toNat
theorem endN_succ (l : List Int) {n : Nat} (hn : n < (groupsI l).length) {a b : Nat} (h : (groupsI l)[n] = ((a : Int), (b : Int))) : endN l (n + 1) = b := by
  rw [endN, if_neg (by omega), Nat.add_sub_cancel, List.getD_eq_getElem?_getD, List.getElem?_eq_getElem hn, h]
  simp
/-- between two groups nothing is neutral -/
theorem gap_of {l : List Int} {G : List (Int × Int)} (hI : GInv l l.length G) {n e : Nat} (hn : n ≤ G.length) (he : n = 0 ∨ ∃ h : n - 1 < G.length, G[n - 1].2 = (e : Int)) {i : Nat} (h1 : e ≤ i) (hi : i < l.length) (h2 : ∀ h : n < G.length, (i : Int) < G[n].1) : isNeutral (l.getD i 0) = false := by
  cases hx : isNeutral (l.getD i 0) with
  | false => rfl
  | true =>
    obtain ⟨p, hp, p1, p2⟩ := hI.all i hi hx
    obtain ⟨j, hj, rfl⟩ := List.mem_iff_getElem.1 hp
    have hpw := List.pairwise_iff_getElem.1 hI.apart
    have hlt : ∀ (m : Nat) (h : m < G.length), G[m].1 < G[m].2 := fun m h => by
      obtain ⟨a, b, hab, h3, -⟩ := hI.each _ (List.getElem_mem h)
      rw [hab]; simp only; omega
    by_cases hjn : j < n
    · obtain ⟨h4, h5⟩ : ∃ h : n - 1 < G.length, G[n - 1].2 = (e : Int) := by
        rcases he with he | he
        · omega
        · exact he
      by_cases hjj : j = n - 1
      · subst hjj; omega
      · have h3 := hpw j (n - 1) hj h4 (by omega)
        have := hlt (n - 1) h4
        omega
    · have hnl : n < G.length := by omega
      have h3 := h2 hnl
      by_cases hjj : j = n
      · subst hjj; omega
      · have h4 := hpw n j hnl hj (by omega)
        have := hlt n hnl
        omega
theorem endN_is (l : List Int) {n : Nat} (hn : n ≤ (groupsI l).length) : n = 0 ∨ ∃ h : n - 1 < (groupsI l).length, (groupsI l)[n - 1].2 = (endN l n : Int) := by
  by_cases h0 : n = 0
  · exact .inl h0
  · have hl : n - 1 < (groupsI l).length := by omega
    obtain ⟨a, b, hab, _⟩ := grp_at l hl
    refine .inr ⟨hl, ?_⟩
    have e := endN_succ l hl hab
    rw [show n - 1 + 1 = n by omega] at e
    rw [hab, e]
theorem gap (l : List Int) {n : Nat} (hn : n ≤ (groupsI l).length) {i : Nat} (h1 : endN l n ≤ i) (hi : i < l.length) (h2 : ∀ h : n < (groupsI l).length, (i : Int) < (groupsI l)[n].1) : isNeutral (l.getD i 0) = false :=
  gap_of (ginv l l.length (Nat.le_refl _) : GInv l l.length (groupsI l)) hn (endN_is l hn) h1 hi h2
theorem endN_le (l : List Int) {n : Nat} (hn : n < (groupsI l).length) {a b : Nat} (h : (groupsI l)[n] = ((a : Int), (b : Int))) : endN l n ≤ a := by
  have hI : GInv l l.length (groupsI l) := ginv l l.length (Nat.le_refl _)
  by_cases h0 : n = 0
  · rw [endN, if_pos h0]; omega
  · obtain ⟨h3, h4⟩ : ∃ h : n - 1 < (groupsI l).length, (groupsI l)[n - 1].2 = (endN l n : Int) := by
      rcases endN_is l (show n ≤ (groupsI l).length by omega) with h5 | h5
      · exact absurd h5 h0
      · exact h5
    have hpw := List.pairwise_iff_getElem.1 hI.apart (n - 1) n h3 hn (by omega)
    rw [h4, h] at hpw
    simp only at hpw
    omega
/-- what lies between two groups needn't be done -/
theorem mix_group (l : List Int) (lev sos eos : Int) {n : Nat} (hn : n < (groupsI l).length) {a b : Nat} (h : (groupsI l)[n] = ((a : Int), (b : Int))) (ha : Around l a b) : mixL l (nofI l lev sos eos) (endN l n) = mixL l (nofI l lev sos eos) a := by
  have h1 := ha.lt
  have h2 := ha.le
  refine mixL_skip (nofI_length _ _ _ _) (endN_le l hn h) (by omega) fun i i1 i2 => nofI_stay _ _ _ _ (gap l (by omega) i1 (by omega) fun hh => ?_)
  rw [h]
  simp only
  omega
theorem mix_last (l : List Int) (lev sos eos : Int) : mixL l (nofI l lev sos eos) (endN l (groupsI l).length) = nofI l lev sos eos := by
  by_cases h : endN l (groupsI l).length ≤ l.length
  · rw [mixL_skip (nofI_length _ _ _ _) h (Nat.le_refl _) fun i i1 i2 => nofI_stay _ _ _ _ (gap l (Nat.le_refl _) i1 i2 fun hh => absurd hh (by omega)), mixL_end (nofI_length _ _ _ _) (Nat.le_refl _)]
  · exact mixL_end (nofI_length _ _ _ _) (by omega)
/-- what a group becomes -/
def grpTo (l : List Int) (lev sos eos : Int) (a b : Nat) : Int :=
  if (if 0 < a then nSide lev (l.getD (a - 1) 0) else endK sos) = (if b < l.length then nSide lev (l.getD b 0) else endK eos) then (if 0 < a then nSide lev (l.getD (a - 1) 0) else endK sos) else dirL lev
theorem nofI_group {l : List Int} (lev sos eos : Int) {a b : Nat} (h : Around l a b) {i : Nat} (h1 : a ≤ i) (h2 : i < b) : (nofI l lev sos eos).getD i 0 = grpTo l lev sos eos a b := by
  have hle := h.le
  rw [List.getD_eq_getElem?_getD, nofI_at l lev sos eos (by omega), Option.getD_some, outAt, if_pos (h.all i h1 h2), toI, ahead_of h lev sos h1 h2, behind_of h lev eos h1 h2, grpTo]
end Go.Proofs.Ytlibmbocfmjjgaa
