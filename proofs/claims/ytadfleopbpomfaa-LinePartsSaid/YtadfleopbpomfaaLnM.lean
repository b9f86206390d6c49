/- Layer 13, plainly: breaks, lines, and their levels. -/
import Derived.Test.YtadfleopbpomfaaMix
import Derived.Test.YtadfleopbpomfaaBsM
namespace Go.Proofs.Ytadfleopbpomfaa
open Go.RowKit

/-- breaks rise, each behind the last one -/
def risesFrom : Int → List Int → Bool
  | _, [] => true
  | a, x :: l => decide (a < x) && risesFrom x l
def lastB (l : List Int) (a : Int) : Int := l.getLastD a
/-- may breaks be? -/
def rightI (l : List Int) (n : Int) : Bool := risesFrom 0 l && (lastB l 0 == n)
theorem rises_snoc (l : List Int) (x : Int) : ∀ a, risesFrom a (l ++ [x]) = (risesFrom a l && decide (lastB l a < x)) := by
  induction l with
  | nil => intro a; simp [risesFrom, lastB]
  | cons y l ih =>
    intro a
    rw [List.cons_append, risesFrom, risesFrom, ih, Bool.and_assoc]
    have : lastB (y :: l) a = lastB l y := by unfold lastB; cases l <;> rfl
    rw [this]
theorem lastB_snoc (l : List Int) (x a : Int) : lastB (l ++ [x]) a = x := by simp [lastB]
/-- where line k begins -/
def beginI (l : List Int) (k : Nat) : Int := if k = 0 then 0 else l.getD (k - 1) 0
/-- lines of breaks -/
def linesI (l : List Int) : List (Int × Int) := (List.range l.length).map fun k => (beginI l k, l.getD k 0)
theorem linesI_length (l : List Int) : (linesI l).length = l.length := by simp [linesI]
def lineOf (l : List Int) (i : Int) : Int := if i < 0 then -1 else match (List.range l.length).find? (fun k => decide (i < l.getD k 0)) with
  | some k => (k : Int)
  | none => -1
/-- lines of one length -/
def wrapN (n w : Int) (k : Nat) : List Int := ((List.range k).map fun (i : Nat) => ((i : Int) + 1)).filter fun x => x == n || x % w == 0
def wrapI (n w : Int) : List Int := if n < 1 ∨ w < 1 ∨ 4000 < n then [] else wrapN n w n.toNat
theorem wrapN_succ (n w : Int) (k : Nat) : wrapN n w (k + 1) = if ((k : Int) + 1 == n || ((k : Int) + 1) % w == 0) then wrapN n w k ++ [(k : Int) + 1] else wrapN n w k := by
  unfold wrapN
  rw [List.range_succ, List.map_append, List.filter_append]
  cases h : ((k : Int) + 1 == n || ((k : Int) + 1) % w == 0) <;> simp [h]
/-- let go ahead of a line's end? -/
def lightK (k : Int) : Bool := k == 12 || isOpens k || k == 22 || isOut k

theorem rises_get : ∀ (l : List Int) (a : Int), risesFrom a l = true → ∀ k, k < l.length → (if k = 0 then a else l.getD (k - 1) 0) < l.getD k 0
  | [], _, _, k, hk => by simp at hk
  | x :: l, a, h, 0, _ => by
    rw [risesFrom, Bool.and_eq_true] at h
    simpa using h.1
  | x :: l, a, h, k + 1, hk => by
    rw [risesFrom, Bool.and_eq_true] at h
    have := rises_get l x h.2 k (by simpa using hk)
    rw [if_neg (by omega), Nat.add_sub_cancel, List.getD_cons_succ]
    cases k with
    | zero => simpa using this
    | succ k => rw [if_neg (by omega)] at this; simpa using this
theorem begin_lt {l : List Int} (h : risesFrom 0 l = true) {k : Nat} (hk : k < l.length) : beginI l k < l.getD k 0 := rises_get l 0 h k hk
theorem begin_succ (l : List Int) (k : Nat) : beginI l (k + 1) = l.getD k 0 := by rw [beginI, if_neg (by omega), Nat.add_sub_cancel]
theorem breaks_lt {l : List Int} (h : risesFrom 0 l = true) : ∀ (d i : Nat), i + 1 + d < l.length → l.getD i 0 < l.getD (i + 1 + d) 0
  | 0, i, hi => by
    have := begin_lt h hi
    rwa [begin_succ] at this
  | d + 1, i, hi => by
    have h1 := breaks_lt h d i (by omega)
    have h2 := begin_lt h (k := i + 1 + (d + 1)) hi
    rw [show i + 1 + (d + 1) = (i + 1 + d) + 1 by omega, begin_succ] at h2
    rw [show i + 1 + (d + 1) = (i + 1 + d) + 1 by omega]
    omega
theorem lineOf_some {l : List Int} (h : risesFrom 0 l = true) {k : Nat} (hk : k < l.length) {i : Int} (h1 : beginI l k ≤ i) (h2 : i < l.getD k 0) (h0 : 0 ≤ i) : lineOf l i = k := by
  unfold lineOf
  rw [if_neg (by omega)]
  have : (List.range l.length).find? (fun k => decide (i < l.getD k 0)) = some k := by
    rw [List.find?_range_eq_some]
    refine ⟨by simpa using h2, by simpa using hk, fun j hj => ?_⟩
    have hj2 : l.getD j 0 ≤ beginI l k := by
      obtain ⟨m, rfl⟩ : ∃ m, k = m + 1 := ⟨k - 1, by omega⟩
      rw [begin_succ]
      by_cases e : j = m
      · rw [e]; exact Int.le_refl _
      · have := breaks_lt h (m - j - 1) j (by omega)
        rw [show j + 1 + (m - j - 1) = m by omega] at this
        omega
    have h3 : ¬ i < l.getD j 0 := by omega
    simpa using h3
  rw [this]
theorem lineOf_range (l : List Int) (i : Int) : lineOf l i = -1 ∨ ∃ k : Nat, lineOf l i = k ∧ k < l.length ∧ 0 ≤ i ∧ i < l.getD k 0 ∧ ∀ j, j < k → l.getD j 0 ≤ i := by
  unfold lineOf
  by_cases h : i < 0
  · rw [if_pos h]; exact .inl rfl
  · rw [if_neg h]
    cases hf : (List.range l.length).find? (fun k => decide (i < l.getD k 0)) with
    | none => exact .inl rfl
    | some k =>
      rw [List.find?_range_eq_some] at hf
      obtain ⟨h1, h2, h3⟩ := hf
      refine .inr ⟨k, rfl, by simpa using h2, by omega, by simpa using h1, fun j hj => ?_⟩
      have := h3 j hj
      simp at this
      exact this
theorem lineOf_iff {l : List Int} (h : risesFrom 0 l = true) {k : Nat} (hk : k < l.length) {i : Int} (h0 : 0 ≤ i) : lineOf l i = k ↔ (beginI l k ≤ i ∧ i < l.getD k 0) := by
  refine ⟨fun e => ?_, fun ⟨h1, h2⟩ => lineOf_some h hk h1 h2 h0⟩
  rcases lineOf_range l i with e1 | ⟨k', e1, _, _, h3, h4⟩
  · rw [e] at e1; omega
  · rw [e] at e1
    have : k = k' := by omega
    subst this
    refine ⟨?_, h3⟩
    cases k with
    | zero => rw [beginI, if_pos rfl]; exact h0
    | succ k => rw [begin_succ]; exact h4 k (by omega)
theorem last_get {l : List Int} : lastB l 0 = l.getD (l.length - 1) 0 := by
  unfold lastB
  rw [List.getLastD_eq_getLast?, List.getLast?_eq_getElem?, List.getD_eq_getElem?_getD]
theorem lineOf_behind {l : List Int} {n i : Int} (h : rightI l n = true) (hi : n ≤ i) : lineOf l i = -1 := by
  rw [rightI, Bool.and_eq_true] at h
  rcases lineOf_range l i with e | ⟨k, _, hk, h0, h1, _⟩
  · exact e
  · have hl := last_get (l := l)
    have hn : lastB l 0 = n := by simpa using h.2
    by_cases e : k = l.length - 1
    · rw [e, ← hl, hn] at h1; omega
    · have := breaks_lt h.1 (l.length - 1 - k - 1) k (by omega)
      rw [show k + 1 + (l.length - 1 - k - 1) = l.length - 1 by omega, ← hl, hn] at this
      omega
theorem rises_take : ∀ (l : List Int) (a : Int) (k : Nat), risesFrom a l = true → risesFrom a (l.take k) = true
  | [], _, _, _ => by rw [List.take_nil]; rfl
  | _ :: _, _, 0, _ => rfl
  | x :: l, a, k + 1, h => by
    rw [risesFrom, Bool.and_eq_true] at h
    rw [List.take_succ_cons, risesFrom, Bool.and_eq_true]
    exact ⟨h.1, rises_take l x k h.2⟩
theorem rises_next (l : List Int) {k : Nat} (hk : k < l.length) : risesFrom 0 (l.take (k + 1)) = (risesFrom 0 (l.take k) && decide (lastB (l.take k) 0 < l[k])) := by rw [take_snoc l k hk, rises_snoc]
theorem last_next (l : List Int) {k : Nat} (hk : k < l.length) : lastB (l.take (k + 1)) 0 = l[k] := by rw [take_snoc l k hk, lastB_snoc]
theorem begin_take (l : List Int) {k : Nat} (hk : k ≤ l.length) : lastB (l.take k) 0 = beginI l k := by
  cases k with
  | zero => rfl
  | succ k => rw [last_next l (by omega), begin_succ, getD_at (by omega)]
theorem lines_next (l : List Int) {k : Nat} (hk : k < l.length) : (linesI l).take (k + 1) = (linesI l).take k ++ [(beginI l k, l[k])] := by
  have h : k < (linesI l).length := by rw [linesI_length]; exact hk
  rw [List.take_succ_eq_append_getElem h]
  congr 2
  simp only [linesI, List.getElem_map, List.getElem_range, getD_at hk]
end Go.Proofs.Ytadfleopbpomfaa
