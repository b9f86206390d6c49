/- Layer 8: plain facts of sequences: each place in one, in order, of one level. -/
import Derived.Test.YtajgjloailliiaaSqN
namespace Go.Proofs.Ytajgjloailliiaa
open Go.RowKit

theorem fresh_eq {cl lv : List Int} {k : Nat} (h0 : 0 < k) (hk : k < (seenQ cl).length) :
    freshAt cl lv (seenI cl) k = (at0 lv (seenQ cl)[k] != at0 lv ((seenQ cl)[k - 1]'(by omega)) || at0 cl ((seenQ cl)[k - 1]'(by omega)) == 10) := by
  unfold freshAt
  rw [show (k == 0) = false by simp; omega, Bool.false_or, seenI_getD, seenI_getD, Int.toNat_natCast, Int.toNat_natCast]
  simp only [List.getD_eq_getElem?_getD, List.getElem?_eq_getElem hk, List.getElem?_eq_getElem (show k - 1 < (seenQ cl).length by omega), Option.getD_some]
/-- a place that is looked at has its number among them -/
theorem seenQ_num {cl : List Int} {q : Nat} (h : q < cl.length) (ho : isOut (at0 cl q) = false) : ∃ (x : Nat) (hx : x < (seenQ cl).length), (seenQ cl)[x] = q := by
  have := (seenQ_mem cl q).2 ⟨h, ho⟩
  obtain ⟨x, hx, e⟩ := List.mem_iff_getElem.1 this
  exact ⟨x, hx, e⟩
theorem seenQ_le (l : List Int) {i j : Nat} (hi : i < (seenQ l).length) (hj : j < (seenQ l).length) (h : (seenQ l)[i] ≤ (seenQ l)[j]) : i ≤ j := by
  rcases Nat.lt_or_ge j i with h1 | h1
  · have := seenQ_sorted l h1 hi; omega
  · exact h1
theorem run_level {cl lv : List Int} {L : List (List Int)} {u : Nat → Nat} (h : Split cl lv (seenI cl) (seenQ cl).length L u) {i : Nat} (hi : i < L.length) : ∀ d (_ : u i + d < u (i + 1)) (hs : u i + d < (seenQ cl).length) (hs0 : u i < (seenQ cl).length),
    at0 lv (seenQ cl)[u i + d] = at0 lv (seenQ cl)[u i] := by
  intro d
  induction d with
  | zero => intro _ _ _; rfl
  | succ d ih =>
    intro hx hs hs0
    have h1 := ih (by omega) (by omega) hs0
    have h2 := h.stale i hi (u i + (d + 1)) (by omega) hx
    rw [fresh_eq (by omega) hs] at h2
    simp only [show u i + (d + 1) - 1 = u i + d by omega, Bool.or_eq_false_iff, bne_eq_false_iff_eq] at h2
    rw [h2.1, h1]

/-- the runs of a chain -/
def idxN (cl m : List Int) (L : List (List Int)) : Nat → Int → List Nat
  | 0, _ => []
  | f + 1, k => if k < 0 then [] else k.toNat :: idxN cl m L f (nextI cl m L k.toNat)
def idxI (cl m : List Int) (L : List (List Int)) (k : Nat) : List Nat := idxN cl m L L.length k
theorem idxN_chain (cl m : List Int) (L : List (List Int)) : ∀ f k, chainN cl m L f k = (idxN cl m L f k).flatMap fun j => L.getD j [] := by
  intro f
  induction f with
  | zero => intro k; rfl
  | succ f ih =>
    intro k
    simp only [chainN, idxN]
    split
    · rfl
    · rw [ih, List.flatMap_cons]
theorem idxN_none (cl m : List Int) (L : List (List Int)) (f : Nat) : idxN cl m L f (-1) = [] := by cases f <;> rfl
theorem idxN_more {cl m : List Int} {L : List (List Int)} (h : Onward cl m L) : ∀ (f g k : Nat), k < L.length → L.length ≤ k + f → L.length ≤ k + g → idxN cl m L f k = idxN cl m L g k := by
  intro f
  induction f with
  | zero => intro g k hk hf; omega
  | succ f ih =>
    intro g k hk hf hg
    cases g with
    | zero => omega
    | succ g =>
      simp only [idxN]
      rw [if_neg (by omega), if_neg (by omega), Int.toNat_natCast]
      rcases h k hk with h1 | ⟨k', h1, h2, h3⟩
      · rw [h1, idxN_none, idxN_none]
      · rw [h1, ih g k' h3 (by omega) (by omega)]
theorem idxI_step {cl m : List Int} {L : List (List Int)} (h : Onward cl m L) {k : Nat} (hk : k < L.length) :
    (nextI cl m L k = -1 ∧ idxI cl m L k = [k]) ∨ ∃ k' : Nat, nextI cl m L k = k' ∧ k < k' ∧ k' < L.length ∧ idxI cl m L k = k :: idxI cl m L k' := by
  obtain ⟨n, hn⟩ : ∃ n, L.length = n + 1 := ⟨L.length - 1, by omega⟩
  have hc : idxI cl m L k = k :: idxN cl m L n (nextI cl m L k) := by
    rw [idxI, hn, idxN, if_neg (by omega), Int.toNat_natCast]
  rcases h k hk with h1 | ⟨k', h1, h2, h3⟩
  · exact .inl ⟨h1, by rw [hc, h1, idxN_none]⟩
  · refine .inr ⟨k', h1, h2, h3, ?_⟩
    rw [hc, h1, idxI, idxN_more h n L.length k' h3 (by omega) (by omega)]
/-- what is in a chain -/
theorem idx_mem {cl m : List Int} {L : List (List Int)} (h : Onward cl m L) : ∀ d k, k < L.length → L.length - k ≤ d → (idxI cl m L k).Pairwise (· < ·) ∧
    ∀ j ∈ idxI cl m L k, k ≤ j ∧ j < L.length ∧ (j = k ∨ ∃ i, i ∈ idxI cl m L k ∧ nextI cl m L i = (j : Int)) ∧ ∀ i : Nat, nextI cl m L j = (i : Int) → i ∈ idxI cl m L k := by
  intro d
  induction d with
  | zero => intro k hk hd; omega
  | succ d ih =>
    intro k hk hd
    rcases idxI_step h hk with ⟨h1, e⟩ | ⟨k', h1, h2, h3, e⟩
    · rw [e]
      refine ⟨List.pairwise_singleton _ _, fun j hj => ?_⟩
      rw [List.mem_singleton.1 hj]
      exact ⟨Nat.le_refl _, hk, .inl rfl, fun i hi => by rw [h1] at hi; omega⟩
    · obtain ⟨p1, p2⟩ := ih k' h3 (by omega)
      rw [e]
      refine ⟨List.pairwise_cons.2 ⟨fun j hj => by have := (p2 j hj).1; omega, p1⟩, fun j hj => ?_⟩
      have hk' : k' ∈ idxI cl m L k' := by
        rcases idxI_step h h3 with ⟨_, e2⟩ | ⟨_, _, _, _, e2⟩ <;> rw [e2] <;> exact List.mem_cons_self
      rcases List.mem_cons.1 hj with rfl | hj
      · refine ⟨Nat.le_refl _, hk, .inl rfl, fun i hi => List.mem_cons_of_mem _ ?_⟩
        rw [h1] at hi
        have hii : k' = i := by omega
        rw [← hii]; exact hk'
      · obtain ⟨q1, q2, q3, q4⟩ := p2 j hj
        refine ⟨by omega, q2, .inr ?_, fun i hi => List.mem_cons_of_mem _ (q4 i hi)⟩
        rcases q3 with rfl | ⟨i, hi, hn⟩
        · exact ⟨k, List.mem_cons_self, h1⟩
        · exact ⟨i, List.mem_cons_of_mem _ hi, hn⟩
theorem idx_self {cl m : List Int} {L : List (List Int)} (h : Onward cl m L) {k : Nat} (hk : k < L.length) : k ∈ idxI cl m L k := by
  rcases idxI_step h hk with ⟨_, e2⟩ | ⟨_, _, _, _, e2⟩ <;> rw [e2] <;> exact List.mem_cons_self
/-- no two runs go on in one -/
def Once (cl m : List Int) (L : List (List Int)) : Prop := ∀ i j (k : Nat), i < L.length → j < L.length → nextI cl m L i = k → nextI cl m L j = k → i = j
theorem once_I {cl lv : List Int} {u : Nat → Nat} {L : List (List Int)} (h : Split cl lv (seenI cl) (seenQ cl).length L u) : Once cl (mt cl) L := by
  intro i j k hi hj h1 h2
  rcases next_goes h hi with e | ⟨k1, p1, q1, e1, g1⟩
  · rw [e] at h1; omega
  rcases next_goes h hj with e | ⟨k2, p2, q2, e2, g2⟩
  · rw [e] at h2; omega
  obtain rfl : k1 = k := by omega
  obtain rfl : k2 = k1 := by omega
  have hq : (q1 : Int) = q2 := by rw [← g1.head, ← g2.head]
  obtain rfl : q1 = q2 := by omega
  have hp : (p1 : Int) = p2 := by rw [← g1.mate.fb, ← g2.mate.fb]
  have hl : lastI L[i] = lastI L[j] := by
    have a1 := g1.last; have a2 := g2.last
    rw [show L.getD i [] = L[i] by simp [hi]] at a1
    rw [show L.getD j [] = L[j] by simp [hj]] at a2
    rw [a1, a2, hp]
  obtain ⟨x1, y1⟩ := h.last hi
  obtain ⟨x2, y2⟩ := h.last hj
  rw [y1, y2] at hl
  have hx := seenQ_inj cl x1 x2 (by omega)
  have m1 := h.lt (i := i) (j := i + 1) (by omega) (by omega)
  have m2 := h.lt (i := j) (j := j + 1) (by omega) (by omega)
  rcases Nat.lt_trichotomy i j with hh | hh | hh
  · have := h.lt (i := i + 1) (j := j + 1) (by omega) (by omega); omega
  · exact hh
  · have := h.lt (i := j + 1) (j := i + 1) (by omega) (by omega); omega
/-- the runs that begin a sequence -/
def startsN (cl m : List Int) (L : List (List Int)) (k : Nat) : List Nat := (List.range k).filter fun i => !goneN cl m L L.length i
theorem gone_iff (cl m : List Int) (L : List (List Int)) (j : Nat) : goneN cl m L L.length j = true ↔ ∃ i, i < L.length ∧ nextI cl m L i = (j : Int) := by
  unfold goneN
  rw [List.any_eq_true]
  constructor
  · rintro ⟨i, hi, h⟩; exact ⟨i, List.mem_range.1 hi, by simpa using h⟩
  · rintro ⟨i, hi, h⟩; exact ⟨i, List.mem_range.2 hi, by simpa using h⟩
theorem starts_mem {cl m : List Int} {L : List (List Int)} {k i : Nat} : i ∈ startsN cl m L k ↔ i < k ∧ goneN cl m L L.length i = false := by
  unfold startsN
  rw [List.mem_filter, List.mem_range]
  simp
theorem seqsN_eq (cl lv m : List Int) (base : Int) (L : List (List Int)) : ∀ k, seqsN cl lv m base L k = (startsN cl m L k).map fun i => sqOf cl lv base (chainI cl m L i) := by
  intro k
  induction k with
  | zero => rfl
  | succ k ih =>
    rw [seqsN, startsN, List.range_succ, List.filter_append, List.map_append, ← startsN, ← ih]
    cases hg : goneN cl m L L.length k with
    | true => rw [if_pos rfl]; simp [hg]
    | false => rw [if_neg (by simp)]; simp [hg]
/-- all chains that begin a sequence, one behind the other, are all runs, each once -/
theorem chains_perm {cl m : List Int} {L : List (List Int)} (h : Onward cl m L) (hO : Once cl m L) : ((startsN cl m L L.length).flatMap (idxI cl m L)).Perm (List.range L.length) := by
  have hn : ((startsN cl m L L.length).flatMap (idxI cl m L)).Nodup := by
    unfold List.Nodup
    rw [List.pairwise_flatMap]
    refine ⟨fun i hi => ?_, ?_⟩
    · have := (idx_mem h (L.length - i) i (starts_mem.1 hi).1 (Nat.le_refl _)).1
      exact this.imp (fun hab => by omega)
    · have hs : (startsN cl m L L.length).Pairwise (· < ·) := List.Pairwise.filter _ List.pairwise_lt_range
      have key : ∀ j i i', i < L.length → i' < L.length → goneN cl m L L.length i = false → goneN cl m L L.length i' = false → j ∈ idxI cl m L i → j ∈ idxI cl m L i' → i = i' := by
        intro j
        induction j using Nat.strongRecOn with
        | _ j ih =>
          intro i i' hi hi' g g' hj hj'
          obtain ⟨a1, a2, a3, _⟩ := (idx_mem h (L.length - i) i hi (Nat.le_refl _)).2 j hj
          obtain ⟨b1, b2, b3, _⟩ := (idx_mem h (L.length - i') i' hi' (Nat.le_refl _)).2 j hj'
          rcases a3 with rfl | ⟨x, hx, nx⟩
          · rcases b3 with rfl | ⟨y, hy, ny⟩
            · rfl
            · have hyl := ((idx_mem h (L.length - i') i' hi' (Nat.le_refl _)).2 y hy).2.1
              have := (gone_iff cl m L j).2 ⟨y, hyl, ny⟩
              rw [g] at this; cases this
          · have hxl := ((idx_mem h (L.length - i) i hi (Nat.le_refl _)).2 x hx).2.1
            rcases b3 with rfl | ⟨y, hy, ny⟩
            · have := (gone_iff cl m L j).2 ⟨x, hxl, nx⟩
              rw [g'] at this; cases this
            · have hyl := ((idx_mem h (L.length - i') i' hi' (Nat.le_refl _)).2 y hy).2.1
              obtain rfl := hO x y j hxl hyl nx ny
              have hlt : x < j := by
                rcases h x hxl with e | ⟨k', e, e2, _⟩
                · rw [e] at nx; omega
                · rw [e] at nx; omega
              exact ih x hlt i i' hi hi' g g' hx hy
      refine List.Pairwise.imp_of_mem ?_ hs
      intro i i' hi hi' hlt x hx y hy hxy
      subst hxy
      obtain ⟨c1, c2⟩ := starts_mem.1 hi
      obtain ⟨d1, d2⟩ := starts_mem.1 hi'
      have := key x i i' c1 d1 c2 d2 hx hy
      omega
  have hm : ∀ j, j ∈ (startsN cl m L L.length).flatMap (idxI cl m L) ↔ j ∈ List.range L.length := by
    intro j
    rw [List.mem_flatMap, List.mem_range]
    constructor
    · rintro ⟨i, hi, hj⟩
      exact ((idx_mem h (L.length - i) i (starts_mem.1 hi).1 (Nat.le_refl _)).2 j hj).2.1
    · induction j using Nat.strongRecOn with
      | _ j ih =>
        intro hj
        cases hg : goneN cl m L L.length j with
        | false => exact ⟨j, starts_mem.2 ⟨hj, hg⟩, idx_self h hj⟩
        | true =>
          obtain ⟨x, hxl, nx⟩ := (gone_iff cl m L j).1 hg
          have hlt : x < j := by
            rcases h x hxl with e | ⟨k', e, e2, _⟩
            · rw [e] at nx; omega
            · rw [e] at nx; omega
          obtain ⟨i, hi, hx⟩ := ih x hlt hxl
          exact ⟨i, hi, ((idx_mem h (L.length - i) i (starts_mem.1 hi).1 (Nat.le_refl _)).2 x hx).2.2.2 j nx⟩
  rw [List.perm_iff_count]
  intro a
  rw [hn.count, List.nodup_range.count]
  simp only [hm a]
theorem addLast_flatten {L : List (List Int)} {p : Int} (h : 0 < L.length) : (addLast L p).flatten = L.flatten ++ [p] := by
  rcases List.eq_nil_or_concat L with rfl | ⟨l', b, rfl⟩
  · simp at h
  · rw [List.concat_eq_append]
    unfold addLast
    simp
theorem lists_flatten (cl lv s : List Int) : ∀ k, k ≤ s.length → (listsN cl lv s k).flatten = s.take k := by
  intro k
  induction k with
  | zero => intro _; simp [listsN]
  | succ k ih =>
    intro hk
    have h1 := ih (by omega)
    have h2 := listsN_le cl lv s k
    have hs : s.take (k + 1) = s.take k ++ [s.getD k 0] := by
      rw [List.take_succ_eq_append_getElem (by omega)]
      simp [show k < s.length by omega]
    rw [listsN, hs]
    cases hf : freshAt cl lv s k with
    | true => rw [if_pos rfl, addLast_push, List.flatten_append, h1]; simp
    | false =>
      rw [if_neg (by simp)]
      have hk0 : 0 < k := by
        rcases Nat.eq_zero_or_pos k with h0 | h0
        · subst h0; simp [freshAt] at hf
        · exact h0
      rw [addLast_flatten (h2.2 hk0), h1]
theorem listsI_flatten {cl lv : List Int} (he : cl.length = lv.length) : (listsI cl lv).flatten = seenI cl := by
  rw [listsI, if_pos he, lists_flatten _ _ _ _ (Nat.le_refl _), List.take_length]
theorem range_flatMap (L : List (List Int)) : (List.range L.length).flatMap (fun j => L.getD j []) = L.flatten := by
  rw [List.flatMap_def]
  congr 1
  apply List.ext_getElem
  · simp
  · intro i h1 h2
    simp at h1
    simp [h1]
/-- all sequences' places, one behind the other, are those that are looked at, each once -/
theorem seqs_perm {cl lv : List Int} (he : cl.length = lv.length) (base : Int) : (((seqsI cl lv base).map (·.pl)).flatten).Perm (seenI cl) := by
  obtain ⟨u, hu⟩ := split_I he
  have hp := (chains_perm (onward_I cl lv) (once_I hu)).flatMap_right (fun j => (listsI cl lv).getD j [])
  rw [range_flatMap, listsI_flatten he, List.flatMap_assoc] at hp
  have e : ((seqsI cl lv base).map (·.pl)).flatten = (startsN cl (mt cl) (listsI cl lv) (listsI cl lv).length).flatMap (fun x => (idxI cl (mt cl) (listsI cl lv) x).flatMap fun j => (listsI cl lv).getD j []) := by
    rw [seqsI, seqsN_eq, List.map_map, List.flatMap_def]
    congr 1
    apply List.map_congr_left
    intro i _
    show chainI cl (mt cl) (listsI cl lv) i = _
    rw [chainI, idxN_chain]; rfl
  rw [e]; exact hp
end Go.Proofs.Ytajgjloailliiaa
