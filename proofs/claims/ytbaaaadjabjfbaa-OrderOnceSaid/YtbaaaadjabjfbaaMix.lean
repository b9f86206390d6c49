/- A list that is gone through in place: k places are done. -/
import Derived.Test.YtbaaaadjabjfbaaKit
namespace Go.Proofs.Ytbaaaadjabjfbaa
open Go.RowKit

theorem getD_at {l : List Int} {k : Nat} (h : k < l.length) : l.getD k 0 = l[k] := by rw [List.getD_eq_getElem?_getD, List.getElem?_eq_getElem h, Option.getD_some]
/-- k places are done -/
def mixL (l l' : List Int) (k : Nat) : List Int := l'.take k ++ l.drop k
theorem mixL_length {l l' : List Int} (hl : l'.length = l.length) {k : Nat} (hk : k ≤ l.length) : (mixL l l' k).length = l.length := by
  simp [mixL]; omega
theorem mixL_get {pre l l' post : List Int} (hl : l'.length = l.length) {k : Nat} (hk : k < l.length) : (pre ++ mixL l l' k ++ post)[pre.length + k]? = some l[k] := by
  have h1 : (l'.take k).length = k := by rw [List.length_take]; omega
  rw [List.getElem?_append_left (by rw [List.length_append, mixL_length hl (by omega)]; omega), List.getElem?_append_right (by omega), Nat.add_sub_cancel_left, mixL,
    List.getElem?_append_right (by omega), h1, Nat.sub_self, List.getElem?_drop, Nat.add_zero, List.getElem?_eq_getElem hk]
theorem mixL_set {pre l l' post : List Int} (hl : l'.length = l.length) {k : Nat} (hk : k < l.length) : (pre ++ mixL l l' k ++ post).set (pre.length + k) (l'.getD k 0) = pre ++ mixL l l' (k + 1) ++ post := by
  have h1 : (l'.take k).length = k := by rw [List.length_take]; omega
  have h2 : l'.getD k 0 = l'[k]'(by omega) := by rw [List.getD_eq_getElem?_getD, List.getElem?_eq_getElem (by omega), Option.getD_some]
  rw [List.set_append_left _ _ (by rw [List.length_append, mixL_length hl (by omega)]; omega), List.set_append_right _ _ (by omega), Nat.add_sub_cancel_left, mixL,
    List.set_append_right _ _ (by omega), h1, Nat.sub_self, mixL, take_snoc l' k (by omega), List.drop_eq_getElem_cons hk, List.set_cons_zero, h2]
  simp only [List.append_assoc, List.singleton_append]
theorem mixL_all {l l' : List Int} (hl : l'.length = l.length) (k : Nat) : (mixL l l' k).length = l.length := by
  simp [mixL]; omega
theorem mixL_zero (l l' : List Int) : mixL l l' 0 = l := by simp [mixL]
theorem mixL_end {l l' : List Int} (hl : l'.length = l.length) {k : Nat} (hk : l.length ≤ k) : mixL l l' k = l' := by
  rw [mixL, List.take_of_length_le (by omega), List.drop_of_length_le hk, List.append_nil]
/-- places that stay needn't be done -/
theorem mixL_skip {l l' : List Int} (hl : l'.length = l.length) {a b : Nat} (hab : a ≤ b) (hb : b ≤ l.length) (h : ∀ i, a ≤ i → i < b → l'[i]? = l[i]?) : mixL l l' a = mixL l l' b := by
  apply List.ext_getElem?
  intro i
  have e1 : (l'.take a).length = a := by rw [List.length_take]; omega
  have e2 : (l'.take b).length = b := by rw [List.length_take]; omega
  rw [mixL, mixL]
  by_cases h1 : i < a
  · rw [List.getElem?_append_left (by omega), List.getElem?_append_left (by omega), List.getElem?_take_of_lt h1, List.getElem?_take_of_lt (by omega)]
  · rw [List.getElem?_append_right (by omega), e1, List.getElem?_drop, show a + (i - a) = i by omega]
    by_cases h2 : i < b
    · rw [List.getElem?_append_left (by omega), List.getElem?_take_of_lt h2, h i (by omega) h2]
    · rw [List.getElem?_append_right (by omega), e2, List.getElem?_drop, show b + (i - b) = i by omega]
theorem mix_at {l l' : List Int} (hl : l'.length = l.length) {k t : Nat} (hk : k ≤ l.length) (ht : k ≤ t) : (mixL l l' k)[t]? = l[t]? := by
  have e3 : (l'.take k).length = k := by rw [List.length_take]; omega
  rw [mixL, List.getElem?_append_right (by omega), e3, List.getElem?_drop, show k + (t - k) = t by omega]
theorem mix_done {l l' : List Int} (hl : l'.length = l.length) {k t : Nat} (hk : k ≤ l.length) (ht : t < k) : (mixL l l' k)[t]? = some (l'.getD t 0) := by
  rw [mixL, List.getElem?_append_left (by rw [List.length_take]; omega), List.getElem?_take_of_lt ht, getD_at (by omega), List.getElem?_eq_getElem (by omega)]
theorem mix_put {l l' : List Int} (hl : l'.length = l.length) {k : Nat} (hk : k < l.length) : (mixL l l' k).set k (l'.getD k 0) = mixL l l' (k + 1) := by
  have h := mixL_set (pre := []) (post := []) hl hk
  simpa using h
theorem mix_stay {l l' : List Int} (hl : l'.length = l.length) {k : Nat} (hk : k < l.length) (h : l'.getD k 0 = l.getD k 0) : mixL l l' k = mixL l l' (k + 1) :=
  mixL_skip hl (by omega) (by omega) fun i h1 h2 => by
    obtain rfl : i = k := by omega
    rw [getD_at (by omega), getD_at hk] at h
    rw [List.getElem?_eq_getElem (by omega), List.getElem?_eq_getElem hk, h]
end Go.Proofs.Ytbaaaadjabjfbaa
