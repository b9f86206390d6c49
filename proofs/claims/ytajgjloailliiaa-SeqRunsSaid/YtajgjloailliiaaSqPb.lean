/- Layer 8: plain: the program's sequences are the document's. -/
import Derived.Test.YtajgjloailliiaaSqPa
namespace Go.Proofs.Ytajgjloailliiaa
open Go.RowKit

theorem seenI_at {cl : List Int} {a : Nat} (h : a < (seenQ cl).length) : (seenI cl).getD a 0 = ((seenQ cl)[a] : Nat) := by
  rw [seenI_getD]; congr 1; simp [h]
theorem seenI_ne {cl : List Int} {a b : Nat} (ha : a < (seenQ cl).length) (hb : b < (seenQ cl).length) (hab : a ≠ b) : ((seenI cl).getD a 0 == (seenI cl).getD b 0) = false := by
  rw [seenI_at ha, seenI_at hb]
  simp only [beq_eq_false_iff_ne, ne_eq, Int.natCast_inj]
  exact fun e => hab (seenQ_inj cl ha hb e)
theorem ahead_at (cl lv : List Int) (base : Int) {a : Nat} (ha : a < (seenQ cl).length) : ∀ k, a < k → k ≤ (seenQ cl).length → aheadN lv (seenI cl) base ((seenI cl).getD a 0) k = if 0 < a then lv.getD ((seenI cl).getD (a - 1) 0).toNat 0 else base := by
  intro k
  induction k with
  | zero => intro h; omega
  | succ k ih =>
    intro h1 h2
    rw [aheadN]
    by_cases hk : k = a
    · subst hk
      rw [beq_self_eq_true, Bool.true_and]
      by_cases h0 : 0 < k
      · rw [if_pos (by simpa using h0), if_pos h0]
      · rw [if_neg (by simpa using h0), if_neg h0]
        obtain rfl : k = 0 := by omega
        rfl
    · rw [seenI_ne (by omega) ha hk, Bool.false_and, if_neg (by simp)]
      exact ih (by omega) (by omega)
theorem behind_none (cl lv : List Int) (base : Int) {b : Nat} (hb : b < (seenQ cl).length) : ∀ k, k ≤ b → behindN cl lv (seenI cl) base ((seenI cl).getD b 0) k = base := by
  intro k
  induction k with
  | zero => intro _; rfl
  | succ k ih =>
    intro h1
    rw [behindN, seenI_ne (by omega) hb (by omega), Bool.false_and, if_neg (by simp)]
    exact ih (by omega)
theorem behind_at (cl lv : List Int) (base : Int) {b : Nat} (hb : b < (seenQ cl).length) : ∀ k, b < k → k ≤ (seenQ cl).length → behindN cl lv (seenI cl) base ((seenI cl).getD b 0) k =
    if (decide (b + 1 < (seenI cl).length) && (cl.getD ((seenI cl).getD b 0).toNat 0 != 10 && !isOpens (cl.getD ((seenI cl).getD b 0).toNat 0))) then lv.getD ((seenI cl).getD (b + 1) 0).toNat 0 else base := by
  intro k
  induction k with
  | zero => intro h; omega
  | succ k ih =>
    intro h1 h2
    rw [behindN]
    by_cases hk : k = b
    · subst hk
      rw [beq_self_eq_true, Bool.true_and]
      split
      · rfl
      · exact behind_none cl lv base hb k (Nat.le_refl _)
    · rw [seenI_ne (by omega) hb hk, Bool.false_and, if_neg (by simp)]
      exact ih (by omega) (by omega)
theorem lastI_append (xs : List Int) {r : List Int} (h : r ≠ []) : lastI (xs ++ r) = lastI r := by
  have hp := List.length_pos_iff.2 h
  unfold lastI
  rw [List.length_append, List.getD_eq_getElem?_getD, List.getElem?_append_right (by omega), List.getD_eq_getElem?_getD]
  congr 2
  omega

section
variable {cl lv : List Int} {u : Nat → Nat} {L : List (List Int)}
theorem last_level (h : Split cl lv (seenI cl) (seenQ cl).length L u) {j : Nat} (hj : j < L.length) : lv.getD (lastI L[j]).toNat 0 = lv.getD (headI L[j]).toNat 0 := by
  obtain ⟨ha, e1⟩ := h.head hj
  obtain ⟨hb, e2⟩ := h.last hj
  have hlt := h.lt (i := j) (j := j + 1) (by omega) (by omega)
  rw [e1, e2, Int.toNat_natCast, Int.toNat_natCast]
  have := run_level h hj (u (j + 1) - 1 - u j) (by omega) (by omega) ha
  simp only [show u j + (u (j + 1) - 1 - u j) = u (j + 1) - 1 by omega] at this
  exact this
theorem sos_eq (h : Split cl lv (seenI cl) (seenQ cl).length L u) {i : Nat} (hi : i < L.length) (base : Int) {pl : List Int} (hp : headI pl = headI L[i]) : sosI cl lv pl (levW lv base L i) base = sosW lv base L i := by
  obtain ⟨ha, e1⟩ := h.head hi
  rw [sosI, sosW, hp, e1, ← seenI_at ha, seenI_length, ahead_at cl lv base ha _ ha (Nat.le_refl _)]
  congr 2
  by_cases h0 : 0 < i
  · have hu := h.lt (i := 0) (j := i) h0 (by omega)
    obtain ⟨hb, e2⟩ := h.last (j := i - 1) (by omega)
    simp only [show i - 1 + 1 = i by omega] at hb e2
    rw [if_pos (by omega), seenI_at hb, ← e2, last_level h (by omega), show ((i : Int) - 1) = ((i - 1 : Nat) : Int) by omega, levW_in (by omega)]
  · obtain rfl : i = 0 := by omega
    rw [h.zero, if_neg (by omega), levW_out (.inl (by omega))]
theorem eos_eq (h : Split cl lv (seenI cl) (seenQ cl).length L u) {j : Nat} (hj : j < L.length) (base : Int) {pl : List Int} (hp : lastI pl = lastI L[j]) : eosI cl lv pl base = eosW cl lv base L j := by
  obtain ⟨hb, e2⟩ := h.last hj
  have hlt := h.lt (i := j) (j := j + 1) (by omega) (by omega)
  have hg : L.getD j [] = L[j] := by simp [hj]
  rw [eosI, eosW, hg, hp, last_level h hj, levW_in hj]
  congr 2
  rw [e2, ← seenI_at hb, seenI_length, behind_at cl lv base hb _ hb (Nat.le_refl _), behW]
  obtain ⟨k, hk⟩ : ∃ k, cl.getD ((seenI cl).getD (u (j + 1) - 1) 0).toNat 0 = k := ⟨_, rfl⟩
  rw [hk, show u (j + 1) - 1 + 1 = u (j + 1) by omega, seenI_length]
  rcases h10 : (k == 10) with _ | _
  · rcases hop : isOpens k with _ | _
    · have hne : (k != 10) = true := by simpa using h10
      rw [hne]
      simp only [Bool.not_false, Bool.and_true, Bool.or_self]
      by_cases hn : j + 1 < L.length
      · obtain ⟨hx, e3⟩ := h.head hn
        rw [if_pos (by simpa using hx), seenI_at hx, ← e3, if_neg (by simp), show ((j : Int) + 1) = ((j + 1 : Nat) : Int) by omega, levW_in hn]
      · have he : j + 1 = L.length := by omega
        rw [he, h.top, if_neg (by simp), if_neg (by simp), levW_out (.inr (by omega))]
    · simp
  · have hne : (k != 10) = false := by simpa using h10
    rw [hne]
    simp
end
theorem part_all {cl lv : List Int} {u : Nat → Nat} {L : List (List Int)} (h : Split cl lv (seenI cl) (seenQ cl).length L u) (hW : Onward cl (mt cl) L) (hN : Within L cl.length) (base : Int) {i : Nat} (hi : i < L.length) :
    part cl lv (mt cl) base L L.length i = sqOf cl lv base (chainI cl (mt cl) L i) := by
  have hm := idx_mem hW (L.length - i) i hi (Nat.le_refl _)
  have e : idxP cl (mt cl) L L.length i = idxI cl (mt cl) L i := List.filter_eq_self.2 fun x hx => by have := (hm.2 x hx).2.1; simpa using this
  have hc : chainI cl (mt cl) L i = (idxI cl (mt cl) L i).flatMap fun j => L.getD j [] := by rw [chainI, idxN_chain]; rfl
  have hne := chainI_ne hW hN hi
  rw [part, e, ← hc, sqOf, hne.2, ← levW_in hi (lv := lv) (base := base), sos_eq h hi base hne.2]
  congr 1
  rcases List.eq_nil_or_concat (idxI cl (mt cl) L i) with e0 | ⟨l', j, e0⟩
  · have := idx_self hW hi
    rw [e0] at this; simp at this
  · rw [List.concat_eq_append] at e0
    have hjm : j ∈ idxI cl (mt cl) L i := by rw [e0]; simp
    have hjl := (hm.2 j hjm).2.1
    have hg : L.getD j [] = L[j] := by simp [hjl]
    have hl : lastI (chainI cl (mt cl) L i) = lastI L[j] := by
      rw [hc, e0, List.flatMap_append, List.flatMap_cons, List.flatMap_nil, List.append_nil, hg]
      exact lastI_append _ (hN _ (List.getElem_mem hjl)).1
    rw [e0, List.getLastD_concat]
    exact (eos_eq h hjl base hl).symm
theorem pst_seqs (cl lv : List Int) (base : Int) : (pst cl lv (mt cl) base (listsI cl lv) (listsI cl lv).length).2 = seqsI cl lv base := by
  by_cases he : cl.length = lv.length
  · obtain ⟨u, h⟩ := split_I he
    rw [seqsI, seqsN_eq, (half h (onward_I cl lv) base _ (Nat.le_refl _)).seqs]
    apply List.map_congr_left
    intro i hi
    exact part_all h (onward_I cl lv) (within_I cl lv) base (starts_mem.1 hi).1
  · rw [seqsI, lists_none he]; rfl
end Go.Proofs.Ytajgjloailliiaa
