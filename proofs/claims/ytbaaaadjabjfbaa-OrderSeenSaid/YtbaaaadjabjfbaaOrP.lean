/- Layer 14, plainly, more: a row turned round two by two; columns whose places have a level; flags of what was met; what is seen; what is left. -/
import Derived.Test.YtbaaaadjabjfbaaOrM
import Derived.Test.YtbaaaadjabjfbaaPrB
namespace Go.Proofs.Ytbaaaadjabjfbaa
open Go.RowKit

/-- numbers of places -/
def nums (l : List Nat) : List Int := l.map fun x => ((x : Nat) : Int)
theorem nums_length (l : List Nat) : (nums l).length = l.length := by simp [nums]
theorem nums_append (a b : List Nat) : nums (a ++ b) = nums a ++ nums b := by simp [nums]
theorem nums_reverse (a : List Nat) : nums a.reverse = (nums a).reverse := by simp [nums]

/-- k pairs have changed places -/
def revK (l : List Int) (k : Nat) : List Int := (List.range l.length).map fun m => if m < k ∨ l.length ≤ m + k then l.getD (l.length - 1 - m) 0 else l.getD m 0
theorem revK_length (l : List Int) (k : Nat) : (revK l k).length = l.length := by simp [revK]
theorem revK_zero (l : List Int) : revK l 0 = l := by
  refine List.ext_getElem (by rw [revK_length]) fun i h1 h2 => ?_
  simp only [revK, List.getElem_map, List.getElem_range]
  rw [if_neg (by omega), getD_at h2]
theorem revK_succ (l : List Int) {k : Nat} (hk : k + k + 1 < l.length) : ((revK l k).set k (l.getD (l.length - 1 - k) 0)).set (l.length - 1 - k) (l.getD k 0) = revK l (k + 1) := by
  refine List.ext_getElem (by simp [revK_length]) fun i h1 h2 => ?_
  rw [revK_length] at h2
  rw [List.getElem_set, List.getElem_set]
  simp only [revK, List.getElem_map, List.getElem_range]
  by_cases e1 : l.length - 1 - k = i
  · rw [if_pos e1, if_pos (by omega), show l.length - 1 - i = k by omega]
  · rw [if_neg e1]
    by_cases e2 : k = i
    · subst e2
      rw [if_pos rfl, if_pos (by omega)]
    · rw [if_neg e2]
      by_cases e3 : i < k ∨ l.length ≤ i + k
      · rw [if_pos e3, if_pos (by omega)]
      · rw [if_neg e3, if_neg (by omega)]
theorem revK_end (l : List Int) {k : Nat} (hk : l.length ≤ k + k + 1) : revK l k = l.reverse := by
  refine List.ext_getElem (by simp [revK_length]) fun i h1 h2 => ?_
  rw [revK_length] at h1
  simp only [revK, List.getElem_map, List.getElem_range, List.getElem_reverse]
  by_cases e : i < k ∨ l.length ≤ i + k
  · rw [if_pos e, getD_at (by omega)]
  · rw [if_neg e, getD_at h1]
    congr 1
    omega
/-- what stands at both places, k pairs being done -/
theorem revK_low (l : List Int) {k : Nat} (hk : k + k + 1 < l.length) : (revK l k)[k]? = some (l.getD k 0) := by
  rw [List.getElem?_eq_getElem (by rw [revK_length]; omega)]
  simp only [revK, List.getElem_map, List.getElem_range]
  rw [if_neg (by omega)]
theorem revK_high (l : List Int) {k : Nat} (hk : k + k + 1 < l.length) : (revK l k)[l.length - 1 - k]? = some (l.getD (l.length - 1 - k) 0) := by
  rw [List.getElem?_eq_getElem (by rw [revK_length]; omega)]
  simp only [revK, List.getElem_map, List.getElem_range]
  rw [if_neg (by omega)]
/-- a row's middle: a cell of it, and a store into it -/
theorem mid_get {pre l post : List Int} {j : Nat} (hj : j < l.length) {x : Int} (h : l[j]? = some x) : (pre ++ l ++ post)[pre.length + j]? = some x := by
  rw [List.getElem?_append_left (by rw [List.length_append]; omega), List.getElem?_append_right (by omega), Nat.add_sub_cancel_left, h]
theorem mid_set {pre l post : List Int} {j : Nat} (hj : j < l.length) (x : Int) : (pre ++ l ++ post).set (pre.length + j) x = pre ++ l.set j x ++ post := by
  rw [List.set_append_left _ _ (by rw [List.length_append]; omega), List.set_append_right _ _ (by omega), Nat.add_sub_cancel_left]

/-- one beside the other -/
inductive Both (R : Nat → Nat → Prop) : List Nat → List Nat → Prop
  | nil : Both R [] []
  | cons {a b : Nat} {l m : List Nat} : R a b → Both R l m → Both R (a :: l) (b :: m)
/-- a column stays, or changes within what has p -/
def StepC (p : Nat → Bool) (a b : Nat) : Prop := (p a = false ∧ b = a) ∨ (p a = true ∧ p b = true)
theorem same_all {p : Nat → Bool} : ∀ (acc acc' : List Nat), acc'.length = acc.length → (∀ x ∈ acc, p x = true) → (∀ x ∈ acc', p x = true) → Both (StepC p) acc' acc
  | [], acc', hl, _, _ => by obtain rfl : acc' = [] := List.eq_nil_of_length_eq_zero hl; exact .nil
  | y :: acc, [], hl, _, _ => by simp at hl
  | y :: acc, y' :: acc', hl, h, h' => .cons (.inr ⟨h' y' (by simp), h y (by simp)⟩) (same_all acc acc' (by simpa using hl) (fun x hx => h x (by simp [hx])) (fun x hx => h' x (by simp [hx])))
theorem forall_app {R : Nat → Nat → Prop} : ∀ {a b c d : List Nat}, Both R a b → Both R c d → Both R (a ++ c) (b ++ d)
  | _, _, _, _, .nil, h => h
  | _, _, _, _, .cons h1 h2, h => .cons h1 (forall_app h2 h)
theorem rev1_step {p : Nat → Bool} : ∀ (l acc acc' : List Nat), acc'.length = acc.length → (∀ x ∈ acc, p x = true) → (∀ x ∈ acc', p x = true) → Both (StepC p) (acc' ++ l) (rev1 p acc l)
  | [], acc, acc', hl, h, h' => by rw [List.append_nil, rev1]; exact same_all acc acc' hl h h'
  | x :: l, acc, acc', hl, h, h' => by
    rcases hx : p x with _ | _
    · rw [rev1_out hx]
      exact forall_app (same_all acc acc' hl h h') (.cons (.inl ⟨hx, rfl⟩) (by simpa using rev1_step l [] [] rfl (by simp) (by simp)))
    · rw [rev1_in hx, show acc' ++ x :: l = (acc' ++ [x]) ++ l by simp]
      exact rev1_step l (x :: acc) (acc' ++ [x]) (by simp [hl]) (fun y hy => by
          rcases List.mem_cons.1 hy with rfl | hy
          · exact hx
          · exact h y hy)
        (fun y hy => by
          rcases List.mem_append.1 hy with hy | hy
          · exact h' y hy
          · rw [List.mem_singleton.1 hy]; exact hx)
theorem revAll_step (p : Nat → Bool) (l : List Nat) : Both (StepC p) l (revAll p l) := by
  simpa [revAll] using rev1_step (p := p) l [] [] rfl (by simp) (by simp)
theorem forall_at {R : Nat → Nat → Prop} : ∀ {a b : List Nat}, Both R a b → ∀ (k : Nat) (h : k < a.length) (h' : k < b.length), R a[k] b[k]
  | _, _, .cons h1 h2, 0, _, _ => h1
  | _, _, .cons h1 h2, k + 1, h, h' => by simpa using forall_at h2 k (by simpa using h) (by simpa using h')
/-- a column's place has a level of at least j just if the column's own number has -/
def Cols (levels : List Int) (m : Nat) (o : List Nat) : Prop := o.Perm (List.range levels.length) ∧ ∀ j : Int, j ≤ (m : Int) → ∀ k (h : k < o.length), atLeast levels j o[k] = atLeast levels j k
theorem Cols.len {levels : List Int} {m : Nat} {o : List Nat} (h : Cols levels m o) : o.length = levels.length := by rw [h.1.length_eq, List.length_range]
theorem Cols.lt {levels : List Int} {m : Nat} {o : List Nat} (h : Cols levels m o) {k : Nat} (hk : k < o.length) : o[k] < levels.length := by simpa using h.1.mem_iff.1 (List.getElem_mem hk)
theorem cols_start (levels : List Int) (m : Nat) : Cols levels m (List.range levels.length) := ⟨List.Perm.refl _, fun j _ k h => by rw [List.getElem_range]⟩
theorem cols_next {levels : List Int} {m : Nat} {o : List Nat} (h : Cols levels (m + 1) o) : Cols levels m (revAll (atLeast levels ((m + 1 : Nat) : Int)) o) := by
  refine ⟨(revAll_perm _ _).trans h.1, fun j hj k hk => ?_⟩
  have hk' : k < o.length := by rw [revAll_length] at hk; exact hk
  have h1 := forall_at (revAll_step (atLeast levels ((m + 1 : Nat) : Int)) o) k hk' hk
  have h2 := h.2 j (by omega) k hk'
  rcases h1 with ⟨_, e⟩ | ⟨e1, e2⟩
  · rw [e, h2]
  · have a1 : atLeast levels j o[k] = true := by simp [atLeast] at e1 ⊢; omega
    have a2 : atLeast levels j (revAll (atLeast levels ((m + 1 : Nat) : Int)) o)[k] = true := by simp [atLeast] at e2 ⊢; omega
    rw [a2, ← h2, a1]
/-- what is done, and what is under way -/
structure Turning (p : Nat → Bool) (o : List Nat) (f k : Nat) (D : List Nat) : Prop where
  le : f ≤ k
  len : D.length = f
  all : revAll p o = D ++ rev1 p ((o.drop f).take (k - f)).reverse (o.drop k)
theorem turning_start (p : Nat → Bool) (o : List Nat) : Turning p o 0 0 [] := ⟨Nat.le_refl _, rfl, by simp [revAll]⟩
theorem turning_in {p : Nat → Bool} {o : List Nat} {f k : Nat} {D : List Nat} (h : Turning p o f k D) (hk : k < o.length) (hp : p o[k] = true) : Turning p o f (k + 1) D := by
  refine ⟨by have := h.le; omega, h.len, ?_⟩
  have hf := h.le
  rw [h.all, List.drop_eq_getElem_cons hk, rev1_in hp, show k + 1 - f = (k - f) + 1 by omega, List.take_succ_eq_append_getElem (by rw [List.length_drop]; omega), List.reverse_append]
  simp only [List.getElem_drop, show f + (k - f) = k by omega, List.reverse_cons, List.reverse_nil, List.nil_append, List.singleton_append]
theorem turning_out {p : Nat → Bool} {o : List Nat} {f k : Nat} {D : List Nat} (h : Turning p o f k D) (hk : k < o.length) (hp : p o[k] = false) : Turning p o (k + 1) (k + 1) (D ++ ((o.drop f).take (k - f)).reverse ++ [o[k]]) := by
  have hf := h.le
  refine ⟨Nat.le_refl _, ?_, ?_⟩
  · simp [h.len]; omega
  · rw [h.all, List.drop_eq_getElem_cons hk, rev1_out hp]; simp
theorem turning_end {p : Nat → Bool} {o : List Nat} {f : Nat} {D : List Nat} (h : Turning p o f o.length D) : revAll p o = D ++ (o.drop f).reverse := by
  rw [h.all, List.drop_length, rev1, List.take_of_length_le (by rw [List.length_drop]; exact Nat.le_refl _)]
/-- .. row by row -/
theorem rows_next {p : Nat → Bool} {o D : List Nat} {i k : Nat} (h : revAll p o = D ++ revAll p (o.drop i)) (hik : i < k) (hk : k ≤ o.length) (hin : ∀ j, i ≤ j → j < k → ∀ h : j < o.length, p o[j] = true) (hout : ∀ h : k < o.length, p o[k] = false) :
    revAll p o = (D ++ ((o.drop i).take (k - i)).reverse) ++ revAll p (o.drop k) := by
  have e : o.drop i = (o.drop i).take (k - i) ++ o.drop k := by
    conv => lhs; rw [← List.take_append_drop (k - i) (o.drop i)]
    rw [List.drop_drop, show i + (k - i) = k by omega]
  rw [h]
  conv => lhs; rw [e]
  rw [revAll_row, List.append_assoc]
  · intro x hx
    obtain ⟨j, hj, rfl⟩ := List.getElem_of_mem hx
    rw [List.getElem_take, List.getElem_drop]
    rw [List.length_take, List.length_drop] at hj
    exact hin _ (by omega) (by omega) _
  · intro x hx
    by_cases hl : k < o.length
    · rw [List.drop_eq_getElem_cons hl] at hx
      rw [List.head?_cons] at hx
      injection hx with hx
      rw [← hx]
      exact hout hl
    · rw [List.drop_of_length_le (by omega)] at hx
      simp at hx
theorem rows_skip {p : Nat → Bool} {o D : List Nat} {i : Nat} (h : revAll p o = D ++ revAll p (o.drop i)) (hi : i < o.length) (hp : p o[i] = false) : revAll p o = (D ++ [o[i]]) ++ revAll p (o.drop (i + 1)) := by
  rw [h, List.drop_eq_getElem_cons hi, revAll_skip hp]; simp

/-- which numbers were met -/
def metL (l : List Int) (k : Nat) : List Bool := (List.range l.length).map fun (i : Nat) => decide ((i : Int) ∈ l.take k)
theorem metL_length (l : List Int) (k : Nat) : (metL l k).length = l.length := by simp [metL]
theorem metL_zero (l : List Int) : metL l 0 = List.replicate l.length false := by
  rw [List.eq_replicate_iff]
  refine ⟨metL_length _ _, fun x hx => ?_⟩
  obtain ⟨i, _, rfl⟩ := List.mem_map.1 hx
  simp
theorem metL_at (l : List Int) (k : Nat) {x : Int} (h0 : 0 ≤ x) (h1 : x < (l.length : Int)) : (metL l k)[x.toNat]? = some (decide (x ∈ l.take k)) := by
  rw [List.getElem?_eq_getElem (by rw [metL_length]; omega)]
  simp only [metL, List.getElem_map, List.getElem_range, Int.toNat_of_nonneg h0]
theorem metL_succ (l : List Int) {k : Nat} (hk : k < l.length) (h0 : 0 ≤ l[k]) : metL l (k + 1) = (metL l k).set l[k].toNat true := by
  refine List.ext_getElem (by simp [metL_length]) fun i h1 h2 => ?_
  rw [List.getElem_set]
  simp only [metL, List.getElem_map, List.getElem_range]
  rw [take_snoc l k hk]
  by_cases e : l[k].toNat = i
  · have : (i : Int) = l[k] := by omega
    rw [if_pos e, this]; simp only [List.mem_append, List.mem_singleton, or_true, decide_true]
  · have : (i : Int) ≠ l[k] := by omega
    rw [if_neg e]; simp only [List.mem_append, List.mem_singleton, this, or_false]
/-- nothing is wrong of the first k -/
def goodK (l : List Int) (k : Nat) : Prop := (∀ x ∈ l.take k, 0 ≤ x ∧ x < (l.length : Int)) ∧ (l.take k).Nodup
theorem goodK_zero (l : List Int) : goodK l 0 := ⟨fun x hx => by simp at hx, by simp⟩
theorem goodK_succ {l : List Int} {k : Nat} (h : goodK l k) (hk : k < l.length) (h0 : 0 ≤ l[k]) (h1 : l[k] < (l.length : Int)) (hm : l[k] ∉ l.take k) : goodK l (k + 1) := by
  unfold goodK
  rw [take_snoc l k hk]
  refine ⟨fun x hx => ?_, ?_⟩
  · rcases List.mem_append.1 hx with hx | hx
    · exact h.1 x hx
    · rw [List.mem_singleton.1 hx]; exact ⟨h0, h1⟩
  · rw [List.nodup_append]
    exact ⟨h.2, by simp, fun a ha b hb e => hm (by rw [List.mem_singleton.1 hb] at e; rw [← e]; exact ha)⟩
theorem goodK_all {l : List Int} (h : goodK l l.length) : rightO l = true := by
  unfold goodK at h
  rw [List.take_length] at h
  exact right_of h.1 h.2
theorem wrong_low {l : List Int} {k : Nat} (hk : k < l.length) (h : l[k] < 0 ∨ (l.length : Int) ≤ l[k]) : rightO l = false := by
  cases hr : rightO l with
  | false => rfl
  | true => have := (right_all hr).1 l[k] (List.getElem_mem _); omega
theorem wrong_twice {l : List Int} {k : Nat} (hk : k < l.length) (h : l[k] ∈ l.take k) : rightO l = false := by
  cases hr : rightO l with
  | false => rfl
  | true =>
    have hn := (right_all hr).2
    obtain ⟨j, hj, e⟩ := List.getElem_of_mem h
    rw [List.length_take] at hj
    rw [List.getElem_take] at e
    have := (List.getElem_inj hn).1 e
    omega

/-- a level is odd, whatever its sign -/
def oddO (x : Int) : Bool := Int.tmod x 2 != 0
/-- one that is seen -/
def seen1 (chars levels : List Int) (i : Nat) : Int := if oddO (levels.getD i 0) then mir (chars.getD i 0) else chars.getD i 0
def seenI (chars levels : List Int) : List Int := if chars.length = levels.length then (orderN levels).map (seen1 chars levels) else []
theorem seenI_length {chars levels : List Int} (h : chars.length = levels.length) : (seenI chars levels).length = chars.length := by rw [seenI, if_pos h, List.length_map, order_length, h]
/-- of those that keep says so -/
def keepB (keep : List Bool) (x : Int) : Bool := decide (0 ≤ x) && keep.getD x.toNat false
def onlyI (l : List Int) (keep : List Bool) : List Int := l.filter (keepB keep)
theorem only_succ (l : List Int) (keep : List Bool) {k : Nat} (h : k < l.length) : onlyI (l.take (k + 1)) keep = if keepB keep l[k] then onlyI (l.take k) keep ++ [l[k]] else onlyI (l.take k) keep := by
  unfold onlyI
  rw [take_snoc l k h, List.filter_append]
  cases ho : keepB keep l[k] <;> simp [ho]
theorem keep_low {keep : List Bool} {x : Int} (h : x < 0) : keepB keep x = false := by
  rw [keepB, decide_eq_false (by omega), Bool.false_and]
theorem keep_high {keep : List Bool} {x : Int} (h : (keep.length : Int) ≤ x) : keepB keep x = false := by
  rw [keepB, List.getD_eq_getElem?_getD, List.getElem?_eq_none (by omega), Option.getD_none, Bool.and_false]
theorem keep_at {keep : List Bool} {x : Int} (h0 : 0 ≤ x) (h1 : x.toNat < keep.length) : keepB keep x = keep[x.toNat] := by
  rw [keepB, decide_eq_true h0, Bool.true_and, List.getD_eq_getElem?_getD, List.getElem?_eq_getElem h1, Option.getD_some]
/-- truth values as cells -/
abbrev bits (l : List Bool) : List Value := l.map Value.bool
theorem bits_set (l : List Bool) (i : Nat) (b : Bool) : (bits l).set i (.bool b) = bits (l.set i b) := by rw [bits, bits, List.map_set]
theorem Lies.bit {w : World} {B : Nat} {A : Option Addr} {l : List Bool} (h : Lies w B A (bits l)) {i : Nat} (hi : i < l.length) : ∃ p : Addr, A = some p ∧ p.block < B ∧ w.cell? (p.add i) = some (.bool l[i]) := by
  obtain ⟨p, hA, hB, hc⟩ := h.cellAt (i := i) (by simpa using hi)
  exact ⟨p, hA, hB, by simpa using hc⟩
end Go.Proofs.Ytbaaaadjabjfbaa
