/- The document's own calls on brackets and what is mirrored. -/
import Derived.Test.YtbaaaadjabjfbaaPrB
import Derived.Test.YtbaaaadjabjfbaaReg
namespace Go.Proofs.Ytbaaaadjabjfbaa
open Go.RowKit Go.Maps

/-- the pairs, one number behind the other -/
def flat : List (Int × Int) → List Int
  | [] => []
  | (a, b) :: r => a :: b :: flat r
theorem flat_len : ∀ l : List (Int × Int), (flat l).length = 2 * l.length
  | [] => rfl
  | (a, b) :: r => by simp [flat, flat_len r]; omega
theorem flat_at : ∀ (l : List (Int × Int)) (j : Nat) (h : j < l.length), (flat l)[2 * j]? = some l[j].1 ∧ (flat l)[2 * j + 1]? = some l[j].2
  | (a, b) :: r, 0, _ => ⟨rfl, rfl⟩
  | (a, b) :: r, j + 1, h => by
    have := flat_at r j (by simpa using h)
    rw [show 2 * (j + 1) = 2 * j + 1 + 1 by omega]
    simpa [flat] using this
theorem othL_drop (l : List (Int × Int)) (j : Nat) (h : j < l.length) (c : Int) : othL (l.drop j) c = if c = l[j].1 then (l[j].2, true, true) else if c = l[j].2 then (l[j].1, false, true) else othL (l.drop (j + 1)) c := by
  rw [List.drop_eq_getElem_cons h]
  rfl

theorem rbrackets_any (w : World) : Calls Try.prog 23 #[] w (Rowed w w.heap.size 3 (ints .i64 (flat brs))) := by
  go_enter Try.func23, Try.ntmps23
  go_wp2
  go_ret
  exact rowed_ret (Own.ofLit (w := w) (B := w.heap.size) (e := 3) _ (Nat.le_refl _) (by simp [maxLen])) (below_alloc _ _) (by simp [ints, flat, brs])

/-- where a loop over pairs stands: behind the first j of them -/
def Stands (l : List (Int × Int)) (c : Int) (k : Nat) : Prop := ∃ j, j ≤ l.length ∧ k = 2 * j ∧ othL (l.drop j) c = othL l c

theorem Stands.step {l : List (Int × Int)} {c : Int} {k : Nat} (h : Stands l c k) (hk : k < 2 * l.length) :
    ∃ a b, (flat l)[k]? = some a ∧ (flat l)[k + 1]? = some b ∧ k + 2 ≤ 2 * l.length ∧ othL l c = if c = a then (b, true, true) else if c = b then (a, false, true) else othL (l.drop (k / 2 + 1)) c := by
  obtain ⟨j, _, rfl, hd⟩ := h
  have hj : j < l.length := by omega
  obtain ⟨f1, f2⟩ := flat_at l j hj
  refine ⟨_, _, f1, f2, by omega, ?_⟩
  rw [← hd, othL_drop l j hj c, show 2 * j / 2 + 1 = j + 1 by omega]
theorem Stands.next {l : List (Int × Int)} {c a b : Int} {k : Nat} (h : Stands l c k) (hk : k < 2 * l.length) (e : othL l c = if c = a then (b, true, true) else if c = b then (a, false, true) else othL (l.drop (k / 2 + 1)) c) (h1 : c ≠ a) (h2 : c ≠ b) : Stands l c (k + 2) := by
  obtain ⟨j, _, rfl, hd⟩ := h
  rw [if_neg h1, if_neg h2, show 2 * j / 2 + 1 = j + 1 by omega] at e
  exact ⟨j + 1, by omega, by omega, e.symm⟩
theorem Stands.done {l : List (Int × Int)} {c : Int} {k : Nat} (h : Stands l c k) (hk : ¬ k < 2 * l.length) : othL l c = (0, false, false) := by
  obtain ⟨j, hj, rfl, hd⟩ := h
  rw [← hd, List.drop_of_length_le (by omega)]
  rfl

theorem cells_of {w : World} {B : Nat} {A : Option Addr} {l : List Int} (h : Lies w B A (ints .i64 l)) {i : Nat} {x y : Int} (e : l[i]? = some x) (e' : l[i + 1]? = some y) :
    ∃ b off, A = some ⟨b, off, none⟩ ∧ b < B ∧ w.cell? ⟨b, off + i, none⟩ = some (.int .i64 x) ∧ w.cell? ⟨b, off + (i + 1), none⟩ = some (.int .i64 y) := by
  obtain ⟨hi, rfl⟩ := List.getElem?_eq_some_iff.1 e
  obtain ⟨hi', rfl⟩ := List.getElem?_eq_some_iff.1 e'
  obtain ⟨b, off, hA, hb, hc⟩ := h.plainInts (by omega)
  exact ⟨b, off, hA, hb, hc i hi, hc (i + 1) hi'⟩

end Go.Proofs.Ytbaaaadjabjfbaa
