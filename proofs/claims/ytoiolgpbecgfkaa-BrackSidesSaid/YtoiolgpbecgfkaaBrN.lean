/- Layer 10: what classes become behind all pairs, plainly: brackets that are paired, and marks behind them, become sides, or stay; all else stays. -/
import Derived.Test.YtoiolgpbecgfkaaBrD
import Derived.Test.YtoiolgpbecgfkaaSqA
namespace Go.Proofs.Ytoiolgpbecgfkaa
open Go.RowKit

/-- the last side of the first k places; sos, if there is none -/
def aheadS (l : List Int) (sos : Int) : Nat → Int
  | 0 => if sos = 1 then 1 else 0
  | k + 1 => if 0 ≤ sdB (cAt l k) then sdB (cAt l k) else aheadS l sos k
theorem sdB_range (k : Int) : sdB k = -1 ∨ sdB k = 0 ∨ sdB k = 1 := by
  unfold sdB
  split
  · exact .inr (.inl rfl)
  · split
    · exact .inr (.inr rfl)
    · exact .inl rfl
theorem aheadS_range (l : List Int) (sos : Int) : ∀ k, aheadS l sos k = 0 ∨ aheadS l sos k = 1 := by
  intro k
  induction k with
  | zero => unfold aheadS; split <;> simp
  | succ k ih =>
    rw [aheadS]
    split
    · rename_i hh
      rcases sdB_range (cAt l k) with h | h | h
      · omega
      · exact .inl h
      · exact .inr h
    · exact ih
/-- the sides between both: that of the level, and the other one -/
def sameS (l : List Int) (e : Int) (p : Int × Int) : Bool := if e = 1 then hasR l (p.1 + 1) p.2 else hasL l (p.1 + 1) p.2
def otherS (l : List Int) (e : Int) (p : Int × Int) : Bool := if e = 1 then hasL l (p.1 + 1) p.2 else hasR l (p.1 + 1) p.2
/-- what a pair becomes -/
def sideOf (l : List Int) (e sos : Int) (p : Int × Int) : Option Int :=
  match sameS l e p, otherS l e p with
  | true, _ => some e
  | false, true => some (if aheadS l sos p.1.toNat ≠ e then aheadS l sos p.1.toNat else e)
  | false, false => none
def ofStepB (first : List Int) (e sos : Int) (l : List Int) (p : Int × Int) : List Int := match sideOf l e sos p with
  | none => l
  | some s => turnL (turnL l first p.1.toNat s) first p.2.toNat s
def ofB (chars classes first : List Int) (level sos : Int) : List Int :=
  if chars.length = classes.length ∧ first.length = classes.length then (pairsI chars classes).foldl (ofStepB first (dirL level) sos) classes else classes
theorem dirL_range (k : Int) : dirL k = 0 ∨ dirL k = 1 := by unfold dirL; split <;> simp
theorem sideOf_range {l : List Int} {e sos s : Int} {p : Int × Int} (he : e = 0 ∨ e = 1) (h : sideOf l e sos p = some s) : s = 0 ∨ s = 1 := by
  have ha := aheadS_range l sos p.1.toNat
  unfold sideOf at h
  cases h1 : sameS l e p with
  | true => rw [h1] at h; injection h with h; subst h; exact he
  | false =>
    cases h2 : otherS l e p with
    | true =>
      rw [h1, h2] at h
      injection h with h
      by_cases h3 : aheadS l sos p.1.toNat ≠ e
      · rw [if_pos h3] at h; subst h; exact ha
      · rw [if_neg h3] at h; subst h; exact he
    | false => rw [h1, h2] at h; cases h
/-- may a place become something by the bracket at place i? -/
def Marked (first : List Int) (i k : Nat) : Prop := i ≤ k ∧ k < i + 1 + marksB first i
instance (first : List Int) (i k : Nat) : Decidable (Marked first i k) := inferInstanceAs (Decidable (_ ∧ _))
theorem turnL_get (l first : List Int) (i : Nat) (s : Int) {k : Nat} (h : k < l.length) : (turnL l first i s)[k]'(by rw [turnL_length]; exact h) = if Marked first i k then s else l[k] := by
  unfold turnL
  rw [setR_get _ _ _ _ _ h]
  rfl
theorem ofStepB_length (first : List Int) (e sos : Int) (l : List Int) (p : Int × Int) : (ofStepB first e sos l p).length = l.length := by
  unfold ofStepB
  split
  · rfl
  · rw [turnL_length, turnL_length]
theorem ofStepB_get (first : List Int) {e : Int} (he : e = 0 ∨ e = 1) (sos : Int) (l : List Int) (p : Int × Int) {k : Nat} (h : k < l.length) :
    (¬ Marked first p.1.toNat k ∧ ¬ Marked first p.2.toNat k → (ofStepB first e sos l p)[k]'(by rw [ofStepB_length]; exact h) = l[k]) ∧
    ((ofStepB first e sos l p)[k]'(by rw [ofStepB_length]; exact h) = l[k] ∨ (ofStepB first e sos l p)[k]'(by rw [ofStepB_length]; exact h) = 0 ∨ (ofStepB first e sos l p)[k]'(by rw [ofStepB_length]; exact h) = 1) := by
  cases hs : sideOf l e sos p with
  | none =>
    have e1 : ofStepB first e sos l p = l := by rw [ofStepB, hs]
    simp only [e1]
    exact ⟨fun _ => trivial, .inl trivial⟩
  | some s =>
    have e1 : ofStepB first e sos l p = turnL (turnL l first p.1.toNat s) first p.2.toNat s := by rw [ofStepB, hs]
    have hr := sideOf_range he hs
    simp only [e1]
    rw [turnL_get _ _ _ _ (by rw [turnL_length]; exact h), turnL_get _ _ _ _ h]
    refine ⟨fun ⟨h1, h2⟩ => by rw [if_neg h2, if_neg h1], ?_⟩
    split
    · exact .inr hr
    · split
      · exact .inr hr
      · exact .inl rfl
theorem fold_keeps (first : List Int) {e : Int} (he : e = 0 ∨ e = 1) (sos : Int) : ∀ (P : List (Int × Int)) (l : List Int), (P.foldl (ofStepB first e sos) l).length = l.length ∧
    ∀ (k : Nat) (h : k < l.length) (h' : k < (P.foldl (ofStepB first e sos) l).length),
      ((∀ p ∈ P, ¬ Marked first p.1.toNat k ∧ ¬ Marked first p.2.toNat k) → (P.foldl (ofStepB first e sos) l)[k] = l[k]) ∧
      ((P.foldl (ofStepB first e sos) l)[k] = l[k] ∨ (P.foldl (ofStepB first e sos) l)[k] = 0 ∨ (P.foldl (ofStepB first e sos) l)[k] = 1) := by
  intro P
  induction P with
  | nil => intro l; exact ⟨rfl, fun k h h' => ⟨fun _ => rfl, .inl rfl⟩⟩
  | cons p P ih =>
    intro l
    obtain ⟨i1, i2⟩ := ih (ofStepB first e sos l p)
    rw [ofStepB_length] at i1
    simp only [List.foldl_cons]
    refine ⟨i1, fun k h h' => ?_⟩
    obtain ⟨j1, j2⟩ := i2 k (by rw [ofStepB_length]; exact h) h'
    obtain ⟨s1, s2⟩ := ofStepB_get first he sos l p h
    refine ⟨fun hm => ?_, ?_⟩
    · rw [j1 (fun q hq => hm q (List.mem_cons_of_mem _ hq))]
      exact s1 (hm p List.mem_cons_self)
    · rcases j2 with j2 | j2
      · rcases s2 with s2 | s2
        · exact .inl (j2.trans s2)
        · exact .inr (by rw [j2]; exact s2)
      · exact .inr j2
theorem ofB_keeps (chars classes first : List Int) (level sos : Int) : (ofB chars classes first level sos).length = classes.length ∧
    ∀ (k : Nat) (h : k < classes.length) (h' : k < (ofB chars classes first level sos).length),
      ((∀ p ∈ pairsI chars classes, ¬ Marked first p.1.toNat k ∧ ¬ Marked first p.2.toNat k) → (ofB chars classes first level sos)[k] = classes[k]) ∧
      ((ofB chars classes first level sos)[k] = classes[k] ∨ (ofB chars classes first level sos)[k] = 0 ∨ (ofB chars classes first level sos)[k] = 1) := by
  unfold ofB
  split
  · exact fold_keeps first (dirL_range level) sos _ classes
  · exact ⟨rfl, fun k h h' => ⟨fun _ => rfl, .inl rfl⟩⟩
end Go.Proofs.Ytoiolgpbecgfkaa
