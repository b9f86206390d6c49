/- Layer 14, plainly: rows turned round, a line's order, an order back. -/
import Derived.Test.YtbaaaadjabjfbaaMix
namespace Go.Proofs.Ytbaaaadjabjfbaa
open Go.RowKit

/-- each longest row of those that have p is turned round; acc: the row that is under way -/
def rev1 (p : Nat → Bool) : List Nat → List Nat → List Nat
  | acc, [] => acc
  | acc, x :: l => if p x then rev1 p (x :: acc) l else acc ++ x :: rev1 p [] l
def revAll (p : Nat → Bool) (l : List Nat) : List Nat := rev1 p [] l
theorem rev1_in {p : Nat → Bool} {x : Nat} (h : p x = true) (acc l : List Nat) : rev1 p acc (x :: l) = rev1 p (x :: acc) l := by rw [rev1, if_pos h]
theorem rev1_out {p : Nat → Bool} {x : Nat} (h : p x = false) (acc l : List Nat) : rev1 p acc (x :: l) = acc ++ x :: rev1 p [] l := by rw [rev1, if_neg (by simp [h])]
theorem rev1_perm (p : Nat → Bool) : ∀ (l acc : List Nat), (rev1 p acc l).Perm (acc ++ l)
  | [], acc => by rw [List.append_nil]; exact List.Perm.refl _
  | x :: l, acc => by
    rw [rev1]
    split
    · exact (rev1_perm p l (x :: acc)).trans (List.perm_middle.symm)
    · exact List.Perm.append_left acc (List.Perm.cons x (by simpa using rev1_perm p l []))
theorem revAll_perm (p : Nat → Bool) (l : List Nat) : (revAll p l).Perm l := by simpa [revAll] using rev1_perm p l []
theorem revAll_length (p : Nat → Bool) (l : List Nat) : (revAll p l).length = l.length := (revAll_perm p l).length_eq
/-- a row that is whole -/
theorem rev1_row {p : Nat → Bool} : ∀ (s acc : List Nat), (∀ x ∈ s, p x = true) → ∀ r, rev1 p acc (s ++ r) = rev1 p (s.reverse ++ acc) r
  | [], acc, _, r => by simp
  | x :: s, acc, h, r => by
    rw [List.cons_append, rev1_in (h x (by simp)), rev1_row s (x :: acc) (fun y hy => h y (by simp [hy])), List.reverse_cons, List.append_assoc]
    rfl
theorem revAll_row {p : Nat → Bool} {s r : List Nat} (h : ∀ x ∈ s, p x = true) (hr : ∀ x, r.head? = some x → p x = false) : revAll p (s ++ r) = s.reverse ++ revAll p r := by
  rw [revAll, rev1_row s [] h r, List.append_nil]
  cases r with
  | nil => rw [rev1, revAll, rev1, List.append_nil]
  | cons x r => rw [rev1_out (hr x rfl), revAll, rev1_out (hr x rfl), List.nil_append]
theorem revAll_skip {p : Nat → Bool} {x : Nat} (h : p x = false) (r : List Nat) : revAll p (x :: r) = x :: revAll p r := by rw [revAll, rev1_out h, List.nil_append, revAll]
theorem revAll_all {p : Nat → Bool} {s : List Nat} (h : ∀ x ∈ s, p x = true) : revAll p s = s.reverse := by
  have := revAll_row (r := []) h (by simp)
  simpa [revAll, rev1] using this
theorem revAll_none {p : Nat → Bool} : ∀ {s : List Nat}, (∀ x ∈ s, p x = false) → revAll p s = s
  | [], _ => rfl
  | x :: s, h => by rw [revAll_skip (h x (by simp)), revAll_none (fun y hy => h y (by simp [hy]))]

/-- x and then y stand beside one another -/
def Next (l : List Nat) (x y : Nat) : Prop := ∃ u v, l = u ++ x :: y :: v
theorem rev1_at {p : Nat → Bool} {x : Nat} (h : p x = false) : ∀ (u acc l : List Nat), rev1 p acc (u ++ x :: l) = rev1 p acc u ++ x :: rev1 p [] l
  | [], acc, l => by rw [List.nil_append, rev1_out h, rev1]
  | z :: u, acc, l => by
    rw [List.cons_append, rev1, rev1]
    split
    · exact rev1_at h u (z :: acc) l
    · rw [rev1_at h u [] l, List.append_assoc]; rfl
theorem rev1_acc {p : Nat → Bool} : ∀ (l acc : List Nat), ∃ s t, rev1 p acc l = s ++ acc ++ t
  | [], acc => ⟨[], [], by simp [rev1]⟩
  | x :: l, acc => by
    rw [rev1]
    split
    · obtain ⟨s, t, e⟩ := rev1_acc (p := p) l (x :: acc)
      exact ⟨s ++ [x], t, by rw [e]; simp⟩
    · exact ⟨[], x :: rev1 p [] l, by simp⟩
theorem next_out {p : Nat → Bool} {l : List Nat} {x y : Nat} (hx : p x = false) (hy : p y = false) (h : Next l x y) : Next (revAll p l) x y := by
  obtain ⟨u, v, rfl⟩ := h
  refine ⟨rev1 p [] u, rev1 p [] v, ?_⟩
  rw [revAll, rev1_at hx, rev1_out hy, List.nil_append]
theorem next_in {p : Nat → Bool} {l : List Nat} {x y : Nat} (hx : p x = true) (hy : p y = true) (h : Next l x y) : Next (revAll p l) y x := by
  obtain ⟨u, v, rfl⟩ := h
  suffices H : ∀ (u acc : List Nat), Next (rev1 p acc (u ++ x :: y :: v)) y x from H u []
  intro u
  induction u with
  | nil =>
    intro acc
    rw [List.nil_append, rev1_in hx, rev1_in hy]
    obtain ⟨s, t, e⟩ := rev1_acc (p := p) v (y :: x :: acc)
    exact ⟨s, acc ++ t, by rw [e]; simp⟩
  | cons z u ih =>
    intro acc
    rw [List.cons_append, rev1]
    split
    · exact ih (z :: acc)
    · obtain ⟨a, b, e⟩ := ih []
      exact ⟨acc ++ z :: a, b, by rw [e]; simp⟩

/-- levels that count, of places -/
def lvAt (levels : List Int) (x : Nat) : Int := levels.getD x 0
def atLeast (levels : List Int) (n : Int) (x : Nat) : Bool := decide (n ≤ lvAt levels x)
/-- from the level `n` down to 1 -/
def turns (levels : List Int) : Nat → List Nat → List Nat
  | 0, l => l
  | n + 1, l => turns levels n (revAll (atLeast levels ((n + 1 : Nat) : Int)) l)
def mostO (levels : List Int) : Nat := (levels.foldl (fun m x => max m (min x 127)) 0).toNat
def orderN (levels : List Int) : List Nat := turns levels (mostO levels) (List.range levels.length)
theorem turns_perm (levels : List Int) : ∀ (n : Nat) (l : List Nat), (turns levels n l).Perm l
  | 0, _ => List.Perm.refl _
  | n + 1, l => (turns_perm levels n _).trans (revAll_perm _ l)
theorem order_perm (levels : List Int) : (orderN levels).Perm (List.range levels.length) := turns_perm _ _ _
theorem order_length (levels : List Int) : (orderN levels).length = levels.length := by rw [(order_perm levels).length_eq, List.length_range]
theorem order_lt {levels : List Int} {x : Nat} (h : x ∈ orderN levels) : x < levels.length := by simpa using (order_perm levels).mem_iff.1 h
theorem order_nodup (levels : List Int) : (orderN levels).Nodup := (order_perm levels).nodup_iff.2 List.nodup_range
/-- two places of one level that stand beside one another are turned as often as the level says -/
theorem turns_next (levels : List Int) {x y : Nat} (hxy : lvAt levels x = lvAt levels y) : ∀ (n : Nat) (l : List Nat), Next l x y →
    if min n (lvAt levels x).toNat % 2 = 0 then Next (turns levels n l) x y else Next (turns levels n l) y x := by
  suffices H : ∀ (n : Nat) (l : List Nat), (Next l x y → if min n (lvAt levels x).toNat % 2 = 0 then Next (turns levels n l) x y else Next (turns levels n l) y x) ∧
      (Next l y x → if min n (lvAt levels x).toNat % 2 = 0 then Next (turns levels n l) y x else Next (turns levels n l) x y) from fun n l h => (H n l).1 h
  intro n
  induction n with
  | zero => intro l; simp [turns]
  | succ n ih =>
    intro l
    by_cases hin : ((n + 1 : Nat) : Int) ≤ lvAt levels x
    · have hx : atLeast levels ((n + 1 : Nat) : Int) x = true := decide_eq_true hin
      have hy : atLeast levels ((n + 1 : Nat) : Int) y = true := decide_eq_true (by rw [← hxy]; exact hin)
      have e1 : min (n + 1) (lvAt levels x).toNat = n + 1 := by omega
      have e2 : min n (lvAt levels x).toNat = n := by omega
      have ih1 := ih (revAll (atLeast levels ((n + 1 : Nat) : Int)) l)
      rw [e2] at ih1
      rw [e1, turns]
      refine ⟨fun h => ?_, fun h => ?_⟩
      · have := ih1.2 (next_in hx hy h)
        by_cases hn : n % 2 = 0
        · rw [if_pos hn] at this
          rw [if_neg (by omega)]
          exact this
        · rw [if_neg hn] at this
          rw [if_pos (by omega)]
          exact this
      · have := ih1.1 (next_in hy hx h)
        by_cases hn : n % 2 = 0
        · rw [if_pos hn] at this
          rw [if_neg (by omega)]
          exact this
        · rw [if_neg hn] at this
          rw [if_pos (by omega)]
          exact this
    · have hx : atLeast levels ((n + 1 : Nat) : Int) x = false := decide_eq_false hin
      have hy : atLeast levels ((n + 1 : Nat) : Int) y = false := decide_eq_false (by rw [← hxy]; exact hin)
      have e1 : min (n + 1) (lvAt levels x).toNat = min n (lvAt levels x).toNat := by omega
      rw [e1, turns]
      exact ⟨fun h => (ih _).1 (next_out hx hy h), fun h => (ih _).2 (next_out hy hx h)⟩
theorem most_ge (levels : List Int) (x : Int) (hx : x ∈ levels) : min x 127 ≤ (mostO levels : Int) := by
  have H : ∀ (l : List Int) (a : Int), 0 ≤ a → a ≤ l.foldl (fun m x => max m (min x 127)) a ∧ 0 ≤ l.foldl (fun m x => max m (min x 127)) a ∧ ∀ x ∈ l, min x 127 ≤ l.foldl (fun m x => max m (min x 127)) a := by
    intro l
    induction l with
    | nil => intro a ha; exact ⟨Int.le_refl _, ha, fun x hx => by simp at hx⟩
    | cons y l ih =>
      intro a ha
      obtain ⟨h1, h2, h3⟩ := ih (max a (min y 127)) (by omega)
      rw [List.foldl_cons]
      refine ⟨by omega, h2, fun x hx => ?_⟩
      rcases List.mem_cons.1 hx with rfl | hx
      · omega
      · exact h3 x hx
  obtain ⟨-, h2, h3⟩ := H levels 0 (Int.le_refl _)
  have := h3 x hx
  unfold mostO
  omega
theorem most_le (levels : List Int) : mostO levels ≤ 127 := by
  have H : ∀ (l : List Int) (a : Int), a ≤ 127 → l.foldl (fun m x => max m (min x 127)) a ≤ 127 := by
    intro l
    induction l with
    | nil => intro a ha; exact ha
    | cons y l ih => intro a ha; rw [List.foldl_cons]; exact ih _ (by omega)
  have := H levels 0 (by decide)
  unfold mostO
  omega
theorem range_next {n i : Nat} (h : i + 1 < n) : Next (List.range n) i (i + 1) := by
  refine ⟨List.range i, (List.range' (i + 2) (n - (i + 2))), ?_⟩
  rw [List.range_eq_range', List.range_eq_range']
  have e : n = i + (2 + (n - (i + 2))) := by omega
  conv => lhs; rw [e]
  rw [← List.range'_append_1, Nat.zero_add, ← List.range'_append_1]
  simp [List.range']
/-- what stands beside one another with one level is seen so, in its direction -/
theorem order_next {levels : List Int} {i : Nat} (hi : i + 1 < levels.length) (h : levels.getD i 0 = levels.getD (i + 1) 0) :
    if min 127 (max 0 (levels.getD i 0)) % 2 = 0 then Next (orderN levels) i (i + 1) else Next (orderN levels) (i + 1) i := by
  have h1 := turns_next levels (x := i) (y := i + 1) h (mostO levels) _ (range_next hi)
  have hm := most_ge levels (levels.getD i 0) (by rw [List.getD_eq_getElem?_getD, List.getElem?_eq_getElem (by omega), Option.getD_some]; exact List.getElem_mem _)
  have hl := most_le levels
  have e : ((min (mostO levels) (lvAt levels i).toNat : Nat) : Int) = min 127 (max 0 (levels.getD i 0)) := by unfold lvAt; omega
  have e2 : (min (mostO levels) (lvAt levels i).toNat % 2 = 0) ↔ (min 127 (max 0 (levels.getD i 0)) % 2 = 0) := by omega
  by_cases hz : min 127 (max 0 (levels.getD i 0)) % 2 = 0
  · rw [if_pos (e2.2 hz)] at h1
    rw [if_pos hz]
    exact h1
  · rw [if_neg (fun h => hz (e2.1 h))] at h1
    rw [if_neg hz]
    exact h1

/-- each number from 0 to below how many there are, once -/
def inL (n : Nat) (x : Int) : Bool := decide (0 ≤ x) && decide (x < (n : Int))
def rightO (l : List Int) : Bool := l.all (inL l.length) && decide l.Nodup
theorem right_all {l : List Int} (h : rightO l = true) : (∀ x ∈ l, 0 ≤ x ∧ x < (l.length : Int)) ∧ l.Nodup := by
  rw [rightO, Bool.and_eq_true, List.all_eq_true] at h
  exact ⟨fun x hx => by simpa [inL] using h.1 x hx, by simpa using h.2⟩
theorem right_of {l : List Int} (h : ∀ x ∈ l, 0 ≤ x ∧ x < (l.length : Int)) (hn : l.Nodup) : rightO l = true := by
  rw [rightO, Bool.and_eq_true, List.all_eq_true]
  exact ⟨fun x hx => by simpa [inL] using h x hx, by simpa using hn⟩
theorem pigeon : ∀ (n : Nat) (l : List Nat), l.Nodup → (∀ x ∈ l, x < n) → l.length ≤ n ∧ (l.length = n → ∀ i, i < n → i ∈ l)
  | 0, l, _, h => by
    cases l with
    | nil => exact ⟨Nat.le_refl _, fun _ i hi => by omega⟩
    | cons x l => have := h x (by simp); omega
  | n + 1, l, hn, h => by
    by_cases hm : n ∈ l
    · obtain ⟨h1, h2⟩ := pigeon n (l.erase n) (hn.erase n) (fun x hx => by
        have hx2 := List.mem_of_mem_erase hx
        have hx3 := h x hx2
        by_cases e : x = n
        · subst e; exact absurd hx (hn.not_mem_erase)
        · omega)
      rw [List.length_erase_of_mem hm] at h1 h2
      have hp : 0 < l.length := List.length_pos_of_mem hm
      refine ⟨by omega, fun hl i hi => ?_⟩
      by_cases e : i = n
      · rw [e]; exact hm
      · exact List.mem_of_mem_erase (h2 (by omega) i (by omega))
    · obtain ⟨h1, -⟩ := pigeon n l hn (fun x hx => by
        have := h x hx
        by_cases e : x = n
        · subst e; exact absurd hx hm
        · omega)
      exact ⟨by omega, fun hl => by omega⟩
theorem right_mem {l : List Int} (h : rightO l = true) {i : Nat} (hi : i < l.length) : (i : Int) ∈ l := by
  obtain ⟨h1, h2⟩ := right_all h
  have hn : (l.map Int.toNat).Nodup := by
    rw [List.nodup_iff_pairwise_ne, List.pairwise_map]
    exact (List.nodup_iff_pairwise_ne.1 h2).imp_of_mem fun ha hb hab e => hab (by have := h1 _ ha; have := h1 _ hb; omega)
  have := (pigeon l.length (l.map Int.toNat) hn (fun x hx => by
    obtain ⟨y, hy, rfl⟩ := List.mem_map.1 hx
    have := h1 y hy
    omega)).2 (by simp) i hi
  obtain ⟨y, hy, e⟩ := List.mem_map.1 this
  have := h1 y hy
  rwa [show (i : Int) = y by omega]
/-- where a place stands -/
def backO (l : List Int) : List Int := (List.range l.length).map fun (i : Nat) => ((l.idxOf (i : Int) : Nat) : Int)
theorem backO_length (l : List Int) : (backO l).length = l.length := by simp [backO]
theorem backO_at (l : List Int) {i : Nat} (hi : i < l.length) : (backO l).getD i 0 = ((l.idxOf (i : Int) : Nat) : Int) := by
  rw [getD_at (by rw [backO_length]; exact hi)]; simp [backO]
theorem idx_at {l : List Int} (h : l.Nodup) {j : Nat} (hj : j < l.length) : l.idxOf l[j] = j := h.idxOf_getElem j hj
theorem back_right {l : List Int} (h : rightO l = true) : rightO (backO l) = true := by
  refine right_of (fun x hx => ?_) ?_
  · obtain ⟨i, hi, rfl⟩ := List.mem_map.1 hx
    have := List.idxOf_lt_length_of_mem (right_mem h (List.mem_range.1 hi))
    rw [backO_length]
    omega
  · rw [backO, List.nodup_iff_pairwise_ne, List.pairwise_map]
    refine (List.nodup_iff_pairwise_ne.1 (List.nodup_range (n := l.length))).imp_of_mem fun {a b} ha hb hab e => hab ?_
    have ha2 := List.idxOf_lt_length_of_mem (right_mem h (List.mem_range.1 ha))
    have hb2 := List.idxOf_lt_length_of_mem (right_mem h (List.mem_range.1 hb))
    have e2 : l.idxOf (a : Int) = l.idxOf (b : Int) := by omega
    have e3 := List.getElem_idxOf ha2
    have e4 := List.getElem_idxOf hb2
    simp only [e2] at e3
    rw [e4] at e3
    omega
theorem back_back {l : List Int} (h : rightO l = true) : backO (backO l) = l := by
  refine List.ext_getElem (by rw [backO_length, backO_length]) fun i h1 h2 => ?_
  have hb := back_right h
  have hi : i < (backO l).length := by rw [backO_length]; exact h2
  have hr := (right_all h).1 l[i] (List.getElem_mem _)
  obtain ⟨x, hx⟩ : ∃ x : Nat, l[i] = (x : Int) := ⟨l[i].toNat, by omega⟩
  have hxl : x < (backO l).length := by rw [backO_length]; omega
  have e1 : (backO l)[x] = (i : Int) := by
    rw [← getD_at hxl, backO_at l (by rw [backO_length] at hxl; exact hxl), ← hx, idx_at (right_all h).2 h2]
  have e2 := idx_at (right_all hb).2 hxl
  rw [e1] at e2
  rw [← getD_at h1, backO_at (backO l) hi, e2, hx]
/-- the same, place by place as it is filled -/
def backK (l : List Int) (k : Nat) : List Int := (List.range l.length).map fun (i : Nat) => if l.idxOf (i : Int) < k then ((l.idxOf (i : Int) : Nat) : Int) else 0
theorem backK_length (l : List Int) (k : Nat) : (backK l k).length = l.length := by simp [backK]
theorem backK_zero (l : List Int) : backK l 0 = List.replicate l.length 0 := by
  unfold backK
  rw [List.eq_replicate_iff]
  refine ⟨by simp, fun x hx => ?_⟩
  obtain ⟨i, _, rfl⟩ := List.mem_map.1 hx
  simp
theorem backK_end {l : List Int} (h : rightO l = true) : backK l l.length = backO l := by
  unfold backK backO
  refine List.map_congr_left fun i hi => ?_
  rw [if_pos (List.idxOf_lt_length_of_mem (right_mem h (List.mem_range.1 hi)))]
theorem backK_succ {l : List Int} (h : rightO l = true) {k : Nat} (hk : k < l.length) : backK l (k + 1) = (backK l k).set l[k].toNat (k : Int) := by
  have hr := (right_all h).1 l[k] (List.getElem_mem _)
  refine List.ext_getElem (by simp [backK]) fun i h1 h2 => ?_
  rw [backK_length] at h1
  rw [List.getElem_set]
  simp only [backK, List.getElem_map, List.getElem_range]
  by_cases e : l[k].toNat = i
  · have e2 : (i : Int) = l[k] := by omega
    rw [if_pos e, e2, idx_at (right_all h).2 hk, if_pos (by omega)]
  · rw [if_neg e]
    have hne : l.idxOf (i : Int) ≠ k := fun e3 => by
      have hm := List.idxOf_lt_length_of_mem (right_mem h h1)
      have := List.getElem_idxOf hm
      simp only [e3] at this
      omega
    by_cases e4 : l.idxOf (i : Int) < k
    · rw [if_pos e4, if_pos (by omega)]
    · rw [if_neg e4, if_neg (by omega)]

/-- an order, as numbers -/
def orderI (levels : List Int) : List Int := (orderN levels).map fun x => ((x : Nat) : Int)
theorem orderI_length (levels : List Int) : (orderI levels).length = levels.length := by rw [orderI, List.length_map, order_length]
theorem order_right (levels : List Int) : rightO (orderI levels) = true := by
  refine right_of (fun x hx => ?_) ?_
  · obtain ⟨y, hy, rfl⟩ := List.mem_map.1 hx
    have := order_lt hy
    rw [orderI_length]
    omega
  · rw [orderI, List.nodup_iff_pairwise_ne, List.pairwise_map]
    exact (List.nodup_iff_pairwise_ne.1 (order_nodup levels)).imp fun h e => h (by omega)
/-- of two that stand beside one another the one stands one behind the other -/
theorem next_back {levels : List Int} {x y : Nat} (h : Next (orderN levels) x y) : (backO (orderI levels)).getD y 0 = (backO (orderI levels)).getD x 0 + 1 := by
  obtain ⟨u, v, e⟩ := h
  have hx : x < levels.length := order_lt (by rw [e]; simp)
  have hy : y < levels.length := order_lt (by rw [e]; simp)
  have hn := (right_all (order_right levels)).2
  rw [backO_at _ (by rw [orderI_length]; exact hy), backO_at _ (by rw [orderI_length]; exact hx)]
  have e1 : orderI levels = u.map (fun x => ((x : Nat) : Int)) ++ (x : Int) :: (y : Int) :: v.map (fun x => ((x : Nat) : Int)) := by rw [orderI, e]; simp
  have hl : u.length + 1 < (orderI levels).length := by rw [e1]; simp
  have g1 : (orderI levels)[u.length]'(by omega) = (x : Int) := by
    rw [List.getElem_of_eq e1, List.getElem_append_right (by simp)]; simp
  have g2 : (orderI levels)[u.length + 1]'hl = (y : Int) := by
    rw [List.getElem_of_eq e1, List.getElem_append_right (by simp)]; simp
  have i1 := idx_at hn (j := u.length) (by omega)
  have i2 := idx_at hn (j := u.length + 1) hl
  rw [g1] at i1
  rw [g2] at i2
  rw [i1, i2]
  omega
/-! Levels that are all alike. -/
theorem turns_rev {levels : List Int} {n : Nat} : ∀ (m : Nat) (l : List Nat), m ≤ n → (∀ x ∈ l, (n : Int) ≤ lvAt levels x) → turns levels m l = if m % 2 = 0 then l else l.reverse
  | 0, l, _, _ => by simp [turns]
  | m + 1, l, hm, h => by
    have e : revAll (atLeast levels ((m + 1 : Nat) : Int)) l = l.reverse := revAll_all fun x hx => decide_eq_true (by have := h x hx; omega)
    rw [turns, e, turns_rev m l.reverse (by omega) (fun x hx => h x (by simpa using hx)), List.reverse_reverse]
    by_cases hz : m % 2 = 0
    · rw [if_pos hz, if_neg (by omega)]
    · rw [if_neg hz, if_pos (by omega)]
theorem most_same {n : Nat} {v : Int} (hn : 0 < n) (h0 : 0 ≤ v) (h1 : v ≤ 127) : (mostO (List.replicate n v) : Int) = v := by
  have h2 := most_ge (List.replicate n v) v (by simp; omega)
  have H : ∀ (l : List Int) (a : Int), a ≤ v → (∀ x ∈ l, x = v) → l.foldl (fun m x => max m (min x 127)) a ≤ v := by
    intro l
    induction l with
    | nil => intro a ha _; exact ha
    | cons y l ih => intro a ha hl; rw [List.foldl_cons]; exact ih _ (by have := hl y (by simp); omega) fun x hx => hl x (by simp [hx])
  have h3 := H (List.replicate n v) 0 h0 (fun x hx => (List.mem_replicate.1 hx).2)
  unfold mostO at h2 ⊢
  omega
/-- an order of one level is rising, or falling -/
theorem order_same {n : Nat} {v : Int} (h0 : 0 ≤ v) (h1 : v ≤ 127) : orderN (List.replicate n v) = if v % 2 = 0 then List.range n else (List.range n).reverse := by
  by_cases hn : n = 0
  · subst hn
    have : orderN (List.replicate 0 v) = [] := List.eq_nil_of_length_eq_zero (by rw [order_length]; simp)
    rw [this]; simp
  · have hm := most_same (n := n) (by omega) h0 h1
    rw [orderN, List.length_replicate, turns_rev (n := mostO (List.replicate n v)) _ _ (Nat.le_refl _) (fun x hx => by
      rw [lvAt, hm, List.getD_eq_getElem?_getD, List.getElem?_replicate, if_pos (List.mem_range.1 hx)]; exact Int.le_refl _)]
    by_cases hz : v % 2 = 0
    · rw [if_pos hz, if_pos (by omega)]
    · rw [if_neg hz, if_neg (by omega)]
end Go.Proofs.Ytbaaaadjabjfbaa
