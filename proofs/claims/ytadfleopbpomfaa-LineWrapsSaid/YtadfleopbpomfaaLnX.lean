/- Layer 13, plainly: lines of one length. -/
import Derived.Test.YtadfleopbpomfaaLnS
namespace Go.Proofs.Ytadfleopbpomfaa
open Go.RowKit

/-- the multiples of v up to the j-th -/
def mulB (v j : Nat) : List Int := (List.range j).map fun i => (((i + 1) * v : Nat) : Int)
theorem mul_length (v j : Nat) : (mulB v j).length = j := by simp [mulB]
theorem mul_snoc (v j : Nat) : mulB v (j + 1) = mulB v j ++ [(((j + 1) * v : Nat) : Int)] := by simp [mulB, List.range_succ]
theorem mul_get {v j i : Nat} (h : i < j) : (mulB v j).getD i 0 = (((i + 1) * v : Nat) : Int) := by
  rw [getD_at (by rw [mul_length]; exact h)]; simp [mulB]
theorem wrap_mul (m v : Nat) (hv : 1 ≤ v) : ∀ j, j * v < m → wrapN m v (j * v) = mulB v j
  | 0, _ => by rw [Nat.zero_mul]; rfl
  | j + 1, h => by
    have h' : j * v < m := Nat.lt_of_le_of_lt (Nat.mul_le_mul_right _ (Nat.le_succ j)) h
    rw [wrapN_mul m v j hv h, wrap_mul m v hv j h', mul_snoc]
theorem div_facts (m v : Nat) (hm : 1 ≤ m) (hv : 1 ≤ v) : (m - 1) / v * v < m ∧ m ≤ ((m - 1) / v + 1) * v := by
  have h1 := Nat.div_mul_le_self (m - 1) v
  have h2 := Nat.lt_div_mul_add (a := m - 1) (b := v) (by omega)
  rw [Nat.add_mul, Nat.one_mul]
  omega
theorem wrap_form (m v : Nat) (hm : 1 ≤ m) (hm4 : m ≤ 4000) (hv : 1 ≤ v) : wrapI m v = mulB v ((m - 1) / v) ++ [(m : Int)] := by
  obtain ⟨h1, h2⟩ := div_facts m v hm hv
  rw [wrapI, if_neg (by omega), Int.toNat_natCast, wrapN_last m v _ h1 h2, wrap_mul m v hv _ h1]
theorem wrap_len (m v : Nat) (hm : 1 ≤ m) (hm4 : m ≤ 4000) (hv : 1 ≤ v) : (wrapI m v).length = (m - 1) / v + 1 := by
  rw [wrap_form m v hm hm4 hv, List.length_append, mul_length]; rfl
theorem rises_mulB (v : Nat) (hv : 1 ≤ v) : ∀ j, risesFrom 0 (mulB v j) = true ∧ lastB (mulB v j) 0 = ((j * v : Nat) : Int)
  | 0 => ⟨rfl, by rw [Nat.zero_mul]; rfl⟩
  | j + 1 => by
    obtain ⟨h1, h2⟩ := rises_mulB v hv j
    rw [mul_snoc, rises_snoc, h1, h2, lastB_snoc]
    refine ⟨?_, rfl⟩
    rw [Bool.true_and]
    refine decide_eq_true ?_
    rw [Nat.add_mul]
    omega
theorem wrap_right (m v : Nat) (hm : 1 ≤ m) (hm4 : m ≤ 4000) (hv : 1 ≤ v) : rightI (wrapI m v) m = true := by
  obtain ⟨h1, -⟩ := div_facts m v hm hv
  obtain ⟨h3, h4⟩ := rises_mulB v hv ((m - 1) / v)
  rw [wrap_form m v hm hm4 hv, rightI, rises_snoc, h3, h4, lastB_snoc]
  simp only [Bool.true_and, Bool.and_eq_true, decide_eq_true_eq, beq_self_eq_true, and_true]
  omega
theorem wrap_get {m v i : Nat} (hm : 1 ≤ m) (hm4 : m ≤ 4000) (hv : 1 ≤ v) (hi : i < (m - 1) / v + 1) : (wrapI m v).getD i 0 = if i = (m - 1) / v then (m : Int) else (((i + 1) * v : Nat) : Int) := by
  rw [wrap_form m v hm hm4 hv]
  by_cases e : i = (m - 1) / v
  · rw [if_pos e, e, List.getD_eq_getElem?_getD, List.getElem?_append_right (by rw [mul_length]; exact Nat.le_refl _), mul_length, Nat.sub_self]; rfl
  · rw [if_neg e, List.getD_eq_getElem?_getD, List.getElem?_append_left (by rw [mul_length]; omega), ← List.getD_eq_getElem?_getD, mul_get (by omega)]
theorem wrap_begin {m v i : Nat} (hm : 1 ≤ m) (hm4 : m ≤ 4000) (hv : 1 ≤ v) (hi : i < (m - 1) / v + 1) : beginI (wrapI m v) i = ((i * v : Nat) : Int) := by
  cases i with
  | zero => rw [Nat.zero_mul]; rfl
  | succ i => rw [begin_succ, wrap_get hm hm4 hv (by omega), if_neg (by omega)]
/-- a line's length: of one width, but for the last -/
theorem wrap_line {m v i : Nat} (hm : 1 ≤ m) (hm4 : m ≤ 4000) (hv : 1 ≤ v) (hi : i < (m - 1) / v + 1) :
    ∃ a x : Nat, beginI (wrapI m v) i = (a : Int) ∧ (wrapI m v).getD i 0 = (x : Int) ∧ a ≤ x ∧ x ≤ 4000 ∧ x ≤ a + v ∧ (i = (m - 1) / v ∨ x = a + v) := by
  obtain ⟨h1, h2⟩ := div_facts m v hm hv
  by_cases e : i = (m - 1) / v
  · refine ⟨i * v, m, wrap_begin hm hm4 hv hi, by rw [wrap_get hm hm4 hv hi, if_pos e], by rw [e]; omega, hm4, ?_, .inl e⟩
    rw [Nat.add_mul, Nat.one_mul] at h2
    rw [e]; exact h2
  · refine ⟨i * v, (i + 1) * v, wrap_begin hm hm4 hv hi, by rw [wrap_get hm hm4 hv hi, if_neg e], Nat.mul_le_mul_right _ (Nat.le_succ i), ?_, by rw [Nat.add_mul, Nat.one_mul]; exact Nat.le_refl _, .inr (by rw [Nat.add_mul, Nat.one_mul])⟩
    have : (i + 1) * v ≤ (m - 1) / v * v := Nat.mul_le_mul_right _ (by omega)
    omega
theorem wrap_count {m v : Nat} (hm : 1 ≤ m) (hv : 1 ≤ v) : Int.tdiv ((m : Int) + (v : Int) - 1) (v : Int) = (((m - 1) / v + 1 : Nat) : Int) := by
  rw [show (m : Int) + (v : Int) - 1 = ((m - 1 + v : Nat) : Int) by omega, Int.tdiv_eq_ediv_of_nonneg (by omega), ← Int.natCast_ediv, Nat.add_div_right _ (by omega)]

/-- a line of breaks that may be lies within the text -/
theorem begin_nonneg {l : List Int} (h : risesFrom 0 l = true) : ∀ k, k ≤ l.length → 0 ≤ beginI l k
  | 0, _ => by rw [beginI, if_pos rfl]; exact Int.le_refl _
  | k + 1, hk => by
    have h1 := begin_nonneg h k (by omega)
    have h2 := begin_lt h (k := k) (by omega)
    rw [begin_succ]
    omega
theorem right_span {l : List Int} {n : Int} (h : rightI l n = true) {k : Nat} (hk : k < l.length) : ∃ a x : Nat, beginI l k = (a : Int) ∧ l.getD k 0 = (x : Int) ∧ a < x ∧ (x : Int) ≤ n := by
  rw [rightI, Bool.and_eq_true] at h
  have h0 := begin_nonneg h.1 k (by omega)
  have h1 := begin_lt h.1 hk
  have h2 := breaks_le h.1 (i := k) (j := l.length - 1) (by omega) (by omega)
  have h3 : lastB l 0 = n := by simpa using h.2
  rw [← last_get, h3] at h2
  exact ⟨(beginI l k).toNat, (l.getD k 0).toNat, by omega, by omega, by omega, by omega⟩
theorem wrap_right0 (m v : Nat) (hm4 : m ≤ 4000) (hv : 1 ≤ v) : rightI (wrapI m v) m = true := by
  by_cases h : m = 0
  · subst h; rw [wrapI, if_pos (.inl (by decide))]; rfl
  · exact wrap_right m v (by omega) hm4 hv
theorem wrap_le (m v : Nat) : (wrapI m v).length ≤ m := by
  rw [wrapI]
  split
  · exact Nat.zero_le _
  · rw [Int.toNat_natCast]; exact wrapN_le _ _ _
end Go.Proofs.Ytadfleopbpomfaa
