/- Pairs of numbers as cells: [][2]int. -/
import Derived.Test.YtadfleopbpomfaaWide
import Derived.Test.YtadfleopbpomfaaSlc
namespace Go.Proofs.Ytadfleopbpomfaa
open Go.RowKit

theorem prT : SliceOfN Try.prog 81 83 (.agg #[.int .i64 0, .int .i64 0]) 2 16 := ⟨by kernel_rfl, by kernel_rfl, rfl, by decide⟩
/-- pairs as cells -/
def prC (L : List (Int × Int)) : List Value := L.flatMap fun p => [.int .i64 p.1, .int .i64 p.2]
theorem prC_append (a b : List (Int × Int)) : prC (a ++ b) = prC a ++ prC b := by simp [prC]
theorem prC_one (L : List (Int × Int)) : ∀ u ∈ prC L, u.oneCell' = true := by
  intro u hu
  unfold prC at hu
  obtain ⟨r, _, hu⟩ := List.mem_flatMap.1 hu
  simp at hu
  rcases hu with rfl | rfl <;> rfl
theorem prC_length (L : List (Int × Int)) : (prC L).length = L.length * 2 := by
  induction L with
  | nil => rfl
  | cons r L ih => rw [show prC (r :: L) = [.int .i64 r.1, .int .i64 r.2] ++ prC L from rfl, List.length_append, ih]; simp; omega
theorem prC_take (L : List (Int × Int)) : ∀ k, prC (L.take k) = (prC L).take (k * 2) := by
  induction L with
  | nil => intro k; simp [prC]
  | cons r L ih =>
    intro k
    cases k with
    | zero => simp [prC]
    | succ k =>
      rw [List.take_succ_cons, show prC (r :: L.take k) = [.int .i64 r.1, .int .i64 r.2] ++ prC (L.take k) from rfl, show prC (r :: L) = [.int .i64 r.1, .int .i64 r.2] ++ prC L from rfl, ih, show (k + 1) * 2 = k * 2 + 2 by omega]
      rfl
theorem prC_drop (L : List (Int × Int)) : ∀ k, prC (L.drop k) = (prC L).drop (k * 2) := by
  induction L with
  | nil => intro k; simp [prC]
  | cons r L ih =>
    intro k
    cases k with
    | zero => simp
    | succ k =>
      rw [List.drop_succ_cons, show prC (r :: L) = [.int .i64 r.1, .int .i64 r.2] ++ prC L from rfl, ih, show (k + 1) * 2 = k * 2 + 2 by omega]
      rfl
theorem prC_get (L : List (Int × Int)) : ∀ j (hj : j < L.length), (prC L)[j * 2]? = some (.int .i64 L[j].1) ∧ (prC L)[j * 2 + 1]? = some (.int .i64 L[j].2) := by
  induction L with
  | nil => intro j hj; simp at hj
  | cons r L ih =>
    intro j hj
    rw [show prC (r :: L) = [.int .i64 r.1, .int .i64 r.2] ++ prC L from rfl]
    cases j with
    | zero => exact ⟨rfl, rfl⟩
    | succ j =>
      obtain ⟨h1, h2⟩ := ih j (by simpa using hj)
      rw [List.getElem?_append_right (by simp; omega), List.getElem?_append_right (by simp; omega)]
      simp only [List.length_cons, List.length_nil, List.getElem_cons_succ]
      rw [show (j + 1) * 2 - (0 + 1 + 1) = j * 2 by omega, show (j + 1) * 2 + 1 - (0 + 1 + 1) = j * 2 + 1 by omega]
      exact ⟨h1, h2⟩
theorem prC_at {w : World} {B : Nat} {A : Option Addr} {L : List (Int × Int)} (h : Lies w B A (prC L)) {j : Nat} (hj : j < L.length) :
    ∃ g off, A = some ⟨g, off, none⟩ ∧ g < B ∧ w.cell? ⟨g, off + j * 2, none⟩ = some (.int .i64 L[j].1) ∧ w.cell? ⟨g, off + j * 2 + 1, none⟩ = some (.int .i64 L[j].2) := by
  have hl := prC_length L
  obtain ⟨g, off, hA, hg, hc⟩ := Lies.plain h (by omega)
  obtain ⟨h1, h2⟩ := prC_get L j hj
  have k1 := hc (j * 2) (by omega)
  have k2 := hc (j * 2 + 1) (by omega)
  rw [← Nat.add_assoc] at k2
  refine ⟨g, off, hA, hg, ?_, ?_⟩
  · rw [k1, ← List.getElem?_eq_getElem, h1]
  · rw [k2, ← List.getElem?_eq_getElem, h2]
theorem lies_takeN {w : World} {B : Nat} {A : Option Addr} {xs : List Value} (h : Lies w B A xs) (n : Nat) : Lies w B A (xs.take n) := fun hne => by
  obtain ⟨p, hA, hp, hc⟩ := h (by intro e; subst e; simp at hne)
  refine ⟨p, hA, hp, fun i u hu => hc i u ?_⟩
  rw [List.getElem?_take] at hu
  split at hu
  · exact hu
  · cases hu
theorem lies_dropN {w : World} {B : Nat} {A : Option Addr} {L : List (Int × Int)} (h : Lies w B A (prC L)) (k c : Nat) (hc : L.length ≤ c) :
    Lies w B (if c = k then A else Option.map (fun x => { block := x.block, off := x.off + k * 2 }) A) (prC (L.drop k)) := fun hne => by
  have hk : k < L.length := by
    apply Classical.byContradiction
    intro hk
    apply hne
    rw [List.drop_of_length_le (by omega)]; rfl
  have hl := prC_length L
  obtain ⟨g, off, rfl, hg, hcell⟩ := Lies.plain h (by omega)
  rw [if_neg (by omega)]
  refine ⟨_, rfl, hg, fun i u hu => ?_⟩
  rw [add_plain]
  rw [prC_drop, List.getElem?_drop] at hu
  obtain ⟨hlt, rfl⟩ := List.getElem?_eq_some_iff.1 hu
  have := hcell (k * 2 + i) hlt
  rw [show off + k * 2 + i = off + (k * 2 + i) by omega]
  exact this
/-- a literal's cells stay while another row grows -/
theorem lies_kept2 {w0 w w' : World} {g : Nat} {cs : List Value} {row : Option Nat} (hg : w.grownBy w' row) (h : Lies w0 (g + 1) (some ⟨g, 0, none⟩) cs) (hh : w.heap = w0.heap) (hlt : g < w0.heap.size) (hr : row ≠ some g) : Lies w' (g + 1) (some ⟨g, 0, none⟩) cs := fun hn => by
  obtain ⟨p, hA, hp, hc⟩ := (h.sameHeap hh) hn
  rw [← hh] at hlt
  injection hA with hA
  subst hA
  refine ⟨_, rfl, by simp, fun i u hu => ?_⟩
  rw [World.cell?_of_block (hg.block _ (by rw [add_block]; exact hlt) (by rw [add_block]; exact fun e => hr e.symm))]
  exact hc i u hu
/-- what a call of one result hands back: pairs -/
def RowedPr (w : World) (P : List (Int × Int)) (ed : Ending) (w' : World) : Prop := ∃ A c, ed = .returned (.slice A P.length c) ∧ Lies w' w'.heap.size A (prC P) ∧ Below w.heap.size w w'
end Go.Proofs.Ytadfleopbpomfaa
