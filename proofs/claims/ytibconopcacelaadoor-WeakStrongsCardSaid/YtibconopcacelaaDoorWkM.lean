/- Layer 9: weak: the seven rules, plainly, and what is left behind them. -/
import Derived.Test.YtibconopcacelaaDoorClB
import Derived.Test.YtibconopcacelaaDoorInts2
namespace Go.Proofs.YtibconopcacelaaDoor
open Go.RowKit

/-- what isn't a class counts as L -/
def plainK (k : Int) : Int := if 0 ≤ k ∧ k ≤ 22 then k else 0
def plainL (l : List Int) : List Int := l.map plainK
/-- a direction other than R counts as L -/
def sideK (s : Int) : Int := if s = 1 then 1 else 0
/-- the last strong one of a list; a, if there is none -/
def lastStrong (a : Int) (l : List Int) : Int := l.foldl (fun a k => if isStrong k then k else a) a
def strongI (l : List Int) (i sos : Int) : Int := if i < 0 ∨ (l.length : Int) < i then sideK sos else lastStrong (sideK sos) ((plainL l).take i.toNat)

/-- rule 1, behind what p has become -/
def rW1 : Int → List Int → List Int
  | _, [] => []
  | p, k :: l => (if k = 8 then (if isOpens p ∨ p = 22 then 13 else p) else k) :: rW1 (if k = 8 then (if isOpens p ∨ p = 22 then 13 else p) else k) l
/-- rules 2 and 7: an EN, where the strong one ahead is a, becomes b -/
def rWS (a b : Int) : Int → List Int → List Int
  | _, [] => []
  | s, k :: l => (if k = 3 ∧ s = a then b else k) :: rWS a b (if isStrong k then k else s) l
def rW3 (l : List Int) : List Int := l.map fun k => if k = 2 then 1 else k
/-- rule 4 -/
def rW4 : Int → List Int → List Int
  | _, [] => []
  | p, k :: l => (if (k = 4 ∧ p = 3 ∧ l.head? = some 3) ∨ (k = 7 ∧ (p = 3 ∨ p = 6) ∧ l.head? = some p) then p else k) :: rW4 (if (k = 4 ∧ p = 3 ∧ l.head? = some 3) ∨ (k = 7 ∧ (p = 3 ∨ p = 6) ∧ l.head? = some p) then p else k) l
/-- is there an EN, behind nothing but ET? -/
def nearEN : List Int → Bool
  | [] => false
  | k :: l => k == 3 || k == 5 && nearEN l
/-- rule 5, behind one that has become an EN (or hasn't) -/
def rW5 : Bool → List Int → List Int
  | _, [] => []
  | b, k :: l => (if k = 5 ∧ (b || nearEN l) then 3 else k) :: rW5 (k == 3 || k == 5 && (b || nearEN l)) l
def rW6 (l : List Int) : List Int := l.map fun k => if k = 4 ∨ k = 5 ∨ k = 7 then 13 else k
/-- rule n alone, of plain classes -/
def rulePlain (l : List Int) (s : Int) : Nat → List Int
  | 1 => rW1 s l
  | 2 => rWS 2 6 s l
  | 3 => rW3 l
  | 4 => rW4 (-1) l
  | 5 => rW5 false l
  | 6 => rW6 l
  | 7 => rWS 0 0 s l
  | _ => l
def ruleI (l : List Int) (sos : Int) (n : Nat) : List Int := rulePlain (plainL l) (sideK sos) n
/-- the first n of them, one behind the other -/
def stepsI (l : List Int) (sos : Int) : Nat → List Int
  | 0 => l
  | n + 1 => ruleI (stepsI l sos n) sos (n + 1)
def ofI (l : List Int) (sos : Int) : List Int := stepsI l sos 7

theorem w1_length : ∀ (p : Int) (l : List Int), (rW1 p l).length = l.length
  | _, [] => rfl
  | p, k :: l => by rw [rW1, List.length_cons, List.length_cons, w1_length]
theorem wS_length (a b : Int) : ∀ (s : Int) (l : List Int), (rWS a b s l).length = l.length
  | _, [] => rfl
  | s, k :: l => by rw [rWS, List.length_cons, List.length_cons, wS_length a b]
theorem w4_length : ∀ (p : Int) (l : List Int), (rW4 p l).length = l.length
  | _, [] => rfl
  | p, k :: l => by rw [rW4, List.length_cons, List.length_cons, w4_length]
theorem w5_length : ∀ (b : Bool) (l : List Int), (rW5 b l).length = l.length
  | _, [] => rfl
  | b, k :: l => by rw [rW5, List.length_cons, List.length_cons, w5_length]
theorem rulePlain_length (l : List Int) (s : Int) (n : Nat) : (rulePlain l s n).length = l.length := by
  unfold rulePlain
  split
  · exact w1_length _ _
  · exact wS_length _ _ _ _
  · simp [rW3]
  · exact w4_length _ _
  · exact w5_length _ _
  · simp [rW6]
  · exact wS_length _ _ _ _
  · rfl
theorem ruleI_length (l : List Int) (sos : Int) (n : Nat) : (ruleI l sos n).length = l.length := by rw [ruleI, rulePlain_length, plainL, List.length_map]
theorem stepsI_length (l : List Int) (sos : Int) : ∀ n, (stepsI l sos n).length = l.length
  | 0 => rfl
  | n + 1 => by rw [stepsI, ruleI_length, stepsI_length]
theorem ofI_length (l : List Int) (sos : Int) : (ofI l sos).length = l.length := stepsI_length l sos 7

/-- all of a list are classes, and none of those of bad -/
def Free (bad : List Int) (l : List Int) : Prop := ∀ k ∈ l, 0 ≤ k ∧ k ≤ 22 ∧ k ∉ bad
theorem plainK_range (k : Int) : 0 ≤ plainK k ∧ plainK k ≤ 22 := by unfold plainK; split <;> omega
theorem plainK_of {k : Int} (h : 0 ≤ k ∧ k ≤ 22) : plainK k = k := by rw [plainK, if_pos h]
theorem plainL_free (l : List Int) : Free [] (plainL l) := fun k hk => by
  obtain ⟨x, _, rfl⟩ := List.mem_map.1 hk
  have := plainK_range x
  exact ⟨this.1, this.2, by simp⟩
theorem plainL_of {bad l : List Int} (h : Free bad l) : plainL l = l := by
  unfold plainL
  conv => rhs; rw [← List.map_id l]
  apply List.map_congr_left
  intro k hk
  have := h k hk
  exact plainK_of ⟨this.1, this.2.1⟩
theorem sideK_two (s : Int) : sideK s = 0 ∨ sideK s = 1 := by unfold sideK; split <;> simp
theorem Free.tail {bad l : List Int} {k : Int} (h : Free bad (k :: l)) : (0 ≤ k ∧ k ≤ 22 ∧ k ∉ bad) ∧ Free bad l := ⟨h k (by simp), fun x hx => h x (List.mem_cons_of_mem _ hx)⟩
theorem Free.cons {bad l : List Int} {k : Int} (h : 0 ≤ k ∧ k ≤ 22 ∧ k ∉ bad) (h2 : Free bad l) : Free bad (k :: l) := fun x hx => by
  rcases List.mem_cons.1 hx with rfl | hx
  · exact h
  · exact h2 x hx
theorem free_w1 : ∀ (p : Int) (l : List Int), Free [] l → 0 ≤ p ∧ p ≤ 22 ∧ p ∉ ([8] : List Int) → Free [8] (rW1 p l)
  | _, [], _, _ => fun x hx => by simp [rW1] at hx
  | p, k :: l, h, hp => by
    obtain ⟨h1, h2⟩ := h.tail
    have hk : 0 ≤ (if k = 8 then (if isOpens p ∨ p = 22 then 13 else p) else k) ∧ (if k = 8 then (if isOpens p ∨ p = 22 then 13 else p) else k) ≤ 22 ∧ (if k = 8 then (if isOpens p ∨ p = 22 then 13 else p) else k) ∉ ([8] : List Int) := by
      split
      · split
        · decide
        · exact hp
      · rename_i hne; exact ⟨h1.1, h1.2.1, by simpa using hne⟩
    rw [rW1]
    exact Free.cons hk (free_w1 _ l h2 hk)
theorem free_wS {bad : List Int} {a b : Int} (hb : 0 ≤ b ∧ b ≤ 22 ∧ b ∉ bad) : ∀ (s : Int) (l : List Int), Free bad l → Free bad (rWS a b s l)
  | _, [], _ => fun x hx => by simp [rWS] at hx
  | s, k :: l, h => by
    obtain ⟨h1, h2⟩ := h.tail
    rw [rWS]
    refine Free.cons ?_ (free_wS hb _ l h2)
    split
    · exact hb
    · exact h1
theorem free_w3 {l : List Int} (h : Free [8] l) : Free [2, 8] (rW3 l) := fun x hx => by
  obtain ⟨k, hk, rfl⟩ := List.mem_map.1 hx
  have h1 := h k hk
  split
  · decide
  · rename_i hne
    refine ⟨h1.1, h1.2.1, ?_⟩
    have := h1.2.2
    simp at this ⊢
    exact ⟨hne, this⟩
theorem free_w4 : ∀ (p : Int) (l : List Int), Free [2, 8] l → Free [2, 8] (rW4 p l)
  | _, [], _ => fun x hx => by simp [rW4] at hx
  | p, k :: l, h => by
    obtain ⟨h1, h2⟩ := h.tail
    rw [rW4]
    refine Free.cons ?_ (free_w4 _ l h2)
    split
    · rename_i hc
      have : p = 3 ∨ p = 6 := by
        rcases hc with ⟨_, e, _⟩ | ⟨_, e, _⟩
        · exact .inl e
        · exact e
      rcases this with rfl | rfl <;> decide
    · exact h1
theorem free_w5 : ∀ (b : Bool) (l : List Int), Free [2, 8] l → Free [2, 8] (rW5 b l)
  | _, [], _ => fun x hx => by simp [rW5] at hx
  | b, k :: l, h => by
    obtain ⟨h1, h2⟩ := h.tail
    rw [rW5]
    refine Free.cons ?_ (free_w5 _ l h2)
    split
    · decide
    · exact h1
theorem free_w6 {l : List Int} (h : Free [2, 8] l) : Free [2, 4, 5, 7, 8] (rW6 l) := fun x hx => by
  obtain ⟨k, hk, rfl⟩ := List.mem_map.1 hx
  have h1 := h k hk
  split
  · decide
  · rename_i hne
    refine ⟨h1.1, h1.2.1, ?_⟩
    have := h1.2.2
    simp at this ⊢
    simp only [not_or] at hne
    exact ⟨this.1, hne.1, hne.2.1, hne.2.2, this.2⟩

/-- the seven, as each is of what is plain already -/
theorem ofI_eq (l : List Int) (sos : Int) : ofI l sos = rWS 0 0 (sideK sos) (rW6 (rW5 false (rW4 (-1) (rW3 (rWS 2 6 (sideK sos) (rW1 (sideK sos) (plainL l))))))) ∧ Free [2, 4, 5, 7, 8] (ofI l sos) := by
  have hs : 0 ≤ sideK sos ∧ sideK sos ≤ 22 ∧ sideK sos ∉ ([8] : List Int) := by rcases sideK_two sos with h | h <;> rw [h] <;> decide
  have f1 := free_w1 (sideK sos) _ (plainL_free l) hs
  have f2 := free_wS (a := 2) (b := 6) (by decide) (sideK sos) _ f1
  have f3 := free_w3 f2
  have f4 := free_w4 (-1) _ f3
  have f5 := free_w5 false _ f4
  have f6 := free_w6 f5
  have f7 := free_wS (a := 0) (b := 0) (by decide) (sideK sos) _ f6
  have e : ofI l sos = rWS 0 0 (sideK sos) (rW6 (rW5 false (rW4 (-1) (rW3 (rWS 2 6 (sideK sos) (rW1 (sideK sos) (plainL l))))))) := by
    show ruleI (ruleI (ruleI (ruleI (ruleI (ruleI (ruleI l sos 1) sos 2) sos 3) sos 4) sos 5) sos 6) sos 7 = _
    have r1 : ruleI l sos 1 = rW1 (sideK sos) (plainL l) := rfl
    rw [r1]
    have r2 : ruleI (rW1 (sideK sos) (plainL l)) sos 2 = rWS 2 6 (sideK sos) (rW1 (sideK sos) (plainL l)) := by rw [ruleI, plainL_of f1]; rfl
    rw [r2]
    have r3 : ruleI (rWS 2 6 (sideK sos) (rW1 (sideK sos) (plainL l))) sos 3 = rW3 (rWS 2 6 (sideK sos) (rW1 (sideK sos) (plainL l))) := by rw [ruleI, plainL_of f2]; rfl
    rw [r3]
    have r4 : ∀ x, Free [2, 8] x → ruleI x sos 4 = rW4 (-1) x := fun x hx => by rw [ruleI, plainL_of hx]; rfl
    rw [r4 _ f3]
    have r5 : ∀ x, Free [2, 8] x → ruleI x sos 5 = rW5 false x := fun x hx => by rw [ruleI, plainL_of hx]; rfl
    rw [r5 _ f4]
    have r6 : ∀ x, Free [2, 8] x → ruleI x sos 6 = rW6 x := fun x hx => by rw [ruleI, plainL_of hx]; rfl
    rw [r6 _ f5]
    have r7 : ∀ x, Free [2, 4, 5, 7, 8] x → ruleI x sos 7 = rWS 0 0 (sideK sos) x := fun x hx => by rw [ruleI, plainL_of hx]; rfl
    rw [r7 _ f6]
  exact ⟨e, e ▸ f7⟩

/-- what stays as it is, place by place -/
theorem keep_w1 : ∀ (p : Int) (l : List Int) (i : Nat) (k : Int), l[i]? = some k → k ≠ 8 → (rW1 p l)[i]? = some k
  | _, [], i, k, h, _ => by simp at h
  | p, x :: l, 0, k, h, hk => by
    rw [List.getElem?_cons_zero] at h
    injection h with h
    subst h
    rw [rW1, if_neg hk]; rfl
  | p, x :: l, i + 1, k, h, hk => by
    rw [rW1, List.getElem?_cons_succ]
    exact keep_w1 _ l i k (by simpa using h) hk
theorem keep_wS (a b : Int) : ∀ (s : Int) (l : List Int) (i : Nat) (k : Int), l[i]? = some k → k ≠ 3 → (rWS a b s l)[i]? = some k
  | _, [], i, k, h, _ => by simp at h
  | s, x :: l, 0, k, h, hk => by
    rw [List.getElem?_cons_zero] at h
    injection h with h
    subst h
    rw [rWS, if_neg (fun e => hk e.1)]; rfl
  | s, x :: l, i + 1, k, h, hk => by
    rw [rWS, List.getElem?_cons_succ]
    exact keep_wS a b _ l i k (by simpa using h) hk
theorem keep_w4 : ∀ (p : Int) (l : List Int) (i : Nat) (k : Int), l[i]? = some k → k ≠ 4 → k ≠ 7 → (rW4 p l)[i]? = some k
  | _, [], i, k, h, _, _ => by simp at h
  | p, x :: l, 0, k, h, h4, h7 => by
    rw [List.getElem?_cons_zero] at h
    injection h with h
    subst h
    rw [rW4, if_neg (fun e => e.elim (fun e => h4 e.1) (fun e => h7 e.1))]; rfl
  | p, x :: l, i + 1, k, h, h4, h7 => by
    rw [rW4, List.getElem?_cons_succ]
    exact keep_w4 _ l i k (by simpa using h) h4 h7
theorem keep_w5 : ∀ (b : Bool) (l : List Int) (i : Nat) (k : Int), l[i]? = some k → k ≠ 5 → (rW5 b l)[i]? = some k
  | _, [], i, k, h, _ => by simp at h
  | b, x :: l, 0, k, h, hk => by
    rw [List.getElem?_cons_zero] at h
    injection h with h
    subst h
    rw [rW5, if_neg (fun e => hk e.1)]; rfl
  | b, x :: l, i + 1, k, h, hk => by
    rw [rW5, List.getElem?_cons_succ]
    exact keep_w5 _ l i k (by simpa using h) hk
theorem keep_w6 {l : List Int} {i : Nat} {k : Int} (h : l[i]? = some k) (hk : k ≠ 4 ∧ k ≠ 5 ∧ k ≠ 7) : (rW6 l)[i]? = some k := by
  rw [rW6, List.getElem?_map, h]
  simp [hk]
theorem plainL_at {l : List Int} {i : Nat} {k : Int} (h : l[i]? = some k) (hk : 0 ≤ k ∧ k ≤ 22) : (plainL l)[i]? = some k := by
  rw [plainL, List.getElem?_map, h, Option.map_some, plainK_of hk]
/-- strong and neutral ones, and AN, stay -/
theorem of_keep {l : List Int} {sos : Int} {i : Nat} {k : Int} (h : l[i]? = some k) (hk : k = 0 ∨ k = 1 ∨ k = 6 ∨ (10 ≤ k ∧ k ≤ 22)) : (ofI l sos)[i]? = some k := by
  rw [(ofI_eq l sos).1]
  refine keep_wS 0 0 _ _ i k (keep_w6 (keep_w5 _ _ i k (keep_w4 _ _ i k ?_ (by omega) (by omega)) (by omega)) (by omega)) (by omega)
  rw [rW3, List.getElem?_map, keep_wS 2 6 _ _ i k (keep_w1 _ _ i k (plainL_at h (by omega)) (by omega)) (by omega)]
  simp only [Option.map_some]
  rw [if_neg (by omega)]
theorem of_al {l : List Int} {sos : Int} {i : Nat} (h : l[i]? = some 2) : (ofI l sos)[i]? = some 1 := by
  rw [(ofI_eq l sos).1]
  refine keep_wS 0 0 _ _ i 1 (keep_w6 (keep_w5 _ _ i 1 (keep_w4 _ _ i 1 ?_ (by decide) (by decide)) (by decide)) (by decide)) (by decide)
  rw [rW3, List.getElem?_map, keep_wS 2 6 _ _ i 2 (keep_w1 _ _ i 2 (plainL_at h (by decide)) (by decide)) (by decide)]
  rfl

theorem lastStrong_cons (a k : Int) (l : List Int) : lastStrong a (k :: l) = lastStrong (if isStrong k then k else a) l := rfl
/-- behind rule 7 no EN stands behind L -/
theorem no_en : ∀ (s : Int) (l : List Int) (i : Nat), (rWS 0 0 s l)[i]? = some 3 → lastStrong s ((rWS 0 0 s l).take i) ≠ 0
  | s, [], i, h => by simp [rWS] at h
  | s, k :: l, 0, h => by
    rw [rWS, List.getElem?_cons_zero] at h
    injection h with h
    split at h
    · cases h
    · rename_i hne
      subst h
      intro e
      exact hne ⟨rfl, e⟩
  | s, k :: l, i + 1, h => by
    rw [rWS, List.getElem?_cons_succ] at h
    rw [rWS, List.take_succ_cons, lastStrong_cons]
    have ih := no_en (if isStrong k then k else s) l i h
    by_cases hc : k = 3 ∧ s = 0
    · rw [if_pos hc]
      obtain ⟨rfl, rfl⟩ := hc
      have e1 : (if isStrong (3 : Int) then (3 : Int) else 0) = 0 := by decide
      have e2 : (if isStrong (0 : Int) then (0 : Int) else 0) = 0 := by decide
      rw [e1] at ih ⊢
      rw [e2]; exact ih
    · rw [if_neg hc]; exact ih
theorem of_en {l : List Int} {sos : Int} {i : Nat} (h : (ofI l sos)[i]? = some 3) : strongI (ofI l sos) (i : Int) sos ≠ 0 := by
  have hi : i < (ofI l sos).length := (List.getElem?_eq_some_iff.1 h).1
  rw [strongI, if_neg (by omega), plainL_of (ofI_eq l sos).2, Int.toNat_natCast]
  rw [(ofI_eq l sos).1] at h ⊢
  exact no_en _ _ i h

/-- the last strong one of the first j + 1 -/
theorem strong_step (l : List Int) (s : Int) {j : Nat} (hj : j < l.length) : lastStrong s (l.take (j + 1)) = if isStrong l[j] then l[j] else lastStrong s (l.take j) := by
  rw [List.take_succ_eq_append_getElem hj, lastStrong, List.foldl_append]
  rfl
/-- letters, AN and white space: R for AL, all others as they are -/
theorem of_plain {l : List Int} (sos : Int) (h : ∀ k ∈ l, k ∈ ([0, 1, 2, 6, 13, 12] : List Int)) : ofI l sos = l.map fun k => if k = 2 then 1 else k := by
  apply List.ext_getElem?
  intro i
  rw [List.getElem?_map]
  cases hi : l[i]? with
  | none =>
    rw [Option.map_none, List.getElem?_eq_none_iff, ofI_length]
    exact List.getElem?_eq_none_iff.1 hi
  | some k =>
    rw [Option.map_some]
    have hm := h k (List.mem_of_getElem? hi)
    by_cases h2 : k = 2
    · subst h2; rw [if_pos rfl]; exact of_al hi
    · rw [if_neg h2]
      refine of_keep hi ?_
      simp at hm
      omega
end Go.Proofs.YtibconopcacelaaDoor
