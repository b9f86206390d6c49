/- Layer 10: the document's turn: a bracket becomes a side, and marks behind it. -/
import Derived.Test.YtoiolgpbecgfkaaBrA
import Derived.Test.YtoiolgpbecgfkaaPrM
namespace Go.Proofs.Ytoiolgpbecgfkaa
open Go.RowKit

/-- the places from a up to b become s -/
def setR (l : List Int) (a b : Nat) (s : Int) : List Int := (List.range l.length).map fun k => if a ≤ k ∧ k < b then s else l.getD k 0
theorem setR_length (l : List Int) (a b : Nat) (s : Int) : (setR l a b s).length = l.length := by simp [setR]
theorem setR_get (l : List Int) (a b : Nat) (s : Int) {k : Nat} (h : k < (setR l a b s).length) (h' : k < l.length) : (setR l a b s)[k] = if a ≤ k ∧ k < b then s else l[k] := by
  simp [setR, h']
theorem setR_none (l : List Int) (a : Nat) (s : Int) : setR l a a s = l := by
  apply List.ext_getElem
  · rw [setR_length]
  · intro i h1 h2
    rw [setR_get _ _ _ _ h1 h2, if_neg (by omega)]
theorem setR_next (l : List Int) (a b : Nat) (s : Int) (h : a ≤ b) : (setR l a b s).set b s = setR l a (b + 1) s := by
  apply List.ext_getElem
  · rw [List.length_set, setR_length, setR_length]
  · intro i h1 h2
    have hl : i < l.length := by rw [setR_length] at h2; exact h2
    rw [List.getElem_set, setR_get _ _ _ _ h2 hl]
    split
    · rw [if_pos (by omega)]
    · rw [setR_get _ _ _ _ (by rw [setR_length]; exact hl) hl]
      by_cases hh : a ≤ i ∧ i < b
      · rw [if_pos hh, if_pos (by omega)]
      · rw [if_neg hh, if_neg (by omega)]
/-- how many marks stand right behind place i -/
def marksB (first : List Int) (i : Nat) : Nat := ((first.drop (i + 1)).takeWhile fun c => c == 8).length
theorem marksB_stop (first : List Int) (i m : Nat) (hm : i + 1 + m ≤ first.length) (h : ∀ j (_ : j < m), first.getD (i + 1 + j) 0 = 8) (hs : i + 1 + m = first.length ∨ first.getD (i + 1 + m) 0 ≠ 8) : marksB first i = m := by
  unfold marksB
  obtain ⟨r, hr⟩ : ∃ r, first.drop (i + 1) = r := ⟨_, rfl⟩
  have hg : ∀ j, r.getD j 0 = first.getD (i + 1 + j) 0 := fun j => by
    rw [← hr, List.getD_eq_getElem?_getD, List.getElem?_drop, List.getD_eq_getElem?_getD]
  have hl : r.length = first.length - (i + 1) := by rw [← hr, List.length_drop]
  have h1 : ∀ j, j < m → r.getD j 0 = 8 := fun j hj => by rw [hg]; exact h j hj
  have h2 : m = r.length ∨ r.getD m 0 ≠ 8 := by
    rcases hs with hs | hs
    · exact .inl (by omega)
    · exact .inr (by rw [hg]; exact hs)
  have h3 : m ≤ r.length := by omega
  rw [hr]
  clear hr hg hl h hs hm
  induction r generalizing m with
  | nil => simp at h3 ⊢; omega
  | cons x r ih =>
    cases m with
    | zero =>
      rcases h2 with h2 | h2
      · simp at h2
      · simp at h2; simp [h2]
    | succ m =>
      have hx : x = 8 := by simpa using h1 0 (by omega)
      subst hx
      rw [List.takeWhile_cons_of_pos (by decide), List.length_cons, ih m (fun j hj => by simpa using h1 (j + 1) (by omega)) ?_ (by simpa using h3)]
      rcases h2 with h2 | h2
      · exact .inl (by simpa using h2)
      · exact .inr (by simpa using h2)
def turnL (l first : List Int) (i : Nat) (s : Int) : List Int := setR l i (i + 1 + marksB first i) s
theorem turnL_length (l first : List Int) (i : Nat) (s : Int) : (turnL l first i s).length = l.length := setR_length _ _ _ _

set_option maxHeartbeats 4000000 in
theorem rturn_any (g c : Nat) (l : List Int) (A' : Option Addr) (first : List Int) (c' : Nat) (i : Nat) (s : Int) (B : Nat) (w : World) (h : Row w B 3 g c (ints .i64 l)) (h' : Lies w B A' (ints .i64 first)) (hl : l.length ≤ 1000000) (he : first.length = l.length) (hi : i < l.length) :
    Calls Try.prog 32 #[.slice (some ⟨g, 0, none⟩) l.length c, .slice A' first.length c', .int .i64 (i : Int), .int .i64 s] w
      fun ed w' => ed = .returned (.tuple #[]) ∧ Row w' B 3 g c (ints .i64 (turnL l first i s)) ∧ Below B w w' ∧ w.grownBy w' (some g) := by
  have H := Lib.hid h
  have H' := Lib.hid h'
  have HE := Lib.hid he
  have hin := h.inside
  obtain ⟨u0, hc0⟩ : ∃ u, w.cell? ⟨g, i, none⟩ = some u := ⟨_, h.cell (by simpa using hi)⟩
  have hf0 := h.free i
  have b0 : (0 : Int) ≤ (i : Int) := by omega
  have b1 : (i : Int) < (l.length : Int) := by omega
  clear h h' he
  go_enter Try.func32, Try.ntmps32
  go_wp2_with (first
    | (refine store_row intsT w B _ _ g i c .i64 s (ints .i64 l) w rfl rfl rfl rfl rfl H.out (by simpa using hi) (Below.refl _ _) ?_; intro w1 r1 b1' g1; rw [ints_set, ← setR_none l i s, setR_next l i i s (Nat.le_refl _)] at r1; have R1 := Lib.hid r1; have B1 := Lib.hid b1'; have G1 := Lib.hid g1; clear r1 b1' g1)
    | fail)
  go_loopw [8] (fun kv wr => ∃ m : Nat, i + 1 + m ≤ l.length ∧ kv = .int .i64 ((i + 1 + m : Nat) : Int) ∧ Hid (∀ j (h : j < m), first.getD (i + 1 + j) 0 = 8) ∧ Row wr B 3 g c (ints .i64 (setR l i (i + 1 + m) s)) ∧ Below B w wr ∧ w.grownBy wr (some g)) (fun kv _ => l.length - (intOf kv).toNat)
  case atStart => exact ⟨0, by omega, by go_num, Lib.hid (fun j h => absurd h (by omega)), R1.out, B1.out, G1.out⟩
  case round =>
    obtain ⟨m, hm, rfl, HM, hr, hb, hg⟩ := hrel
    have HR := Lib.hid hr
    have HB := Lib.hid hb
    have HG := Lib.hid hg
    obtain ⟨k, hk⟩ : ∃ k, i + 1 + m = k := ⟨_, rfl⟩
    have hki : i < k := by omega
    rw [hk] at hm HR ⊢
    have HK := Lib.hid hk
    clear hr hb hg hk
    by_cases hlt : k < l.length
    · have hlf : k < first.length := by have := HE.out; omega
      obtain ⟨p, hp, _, hc⟩ := (H'.out.below HB.out).int hlf
      subst hp
      obtain ⟨x, hx⟩ : ∃ x, first[k] = x := ⟨_, rfl⟩
      rw [hx] at hc
      have HX : Hid (first.getD k 0 = x) := Lib.hid (by simp [hlf, hx])
      have d0 : (0 : Int) ≤ (k : Int) := by omega
      have d1 : (k : Int) < (l.length : Int) := by omega
      have d2 : (k : Int) < (first.length : Int) := by omega
      clear hx
      rcases h8 : (x == 8) with _ | _
      · have HS : Hid (turnL l first i s = setR l i k s) := Lib.hid (by
          have h9 := HK.out
          rw [turnL, marksB_stop first i m (by omega) HM.out (.inr (by rw [h9, HX.out]; simpa using h8)), h9])
        go_wp2_with fail
        (try simp only [Exit.inBlock, Exit.then])
        exact bodyPost_end (results_none rfl _ _ _) rfl ⟨rfl, by rw [HS.out]; exact HR.out, HB.out, HG.out⟩
      · obtain ⟨u1, hc1⟩ : ∃ u, wr.cell? ⟨g, k, none⟩ = some u := ⟨_, HR.out.cell (by simp [setR_length]; omega)⟩
        have hf1 := HR.out.free k
        go_wp2_with (first
          | (refine store_row intsT wr B _ _ g k c .i64 s (ints .i64 (setR l i k s)) w rfl rfl rfl rfl rfl HR.out (by simp [setR_length]; omega) HB.out ?_; intro w2 r2 b2' g2; rw [ints_set, setR_next l i k s (by omega)] at r2; have R2 := Lib.hid r2; have B2 := Lib.hid b2'; have G2 := Lib.hid g2; clear r2 b2' g2)
          | fail)
        go_roundw
        case rel =>
          have h9 := HK.out
          refine ⟨m + 1, by omega, by rw [show i + 1 + (m + 1) = k + 1 by omega]; go_num, Lib.hid (fun j hj => ?_), by rw [show i + 1 + (m + 1) = k + 1 by omega]; exact R2.out, B2.out, HG.out.trans G2.out⟩
          by_cases hjm : j = m
          · subst hjm; rw [h9, HX.out]; simpa using h8
          · exact HM.out j (by omega)
        case measure => simp [intOf]; omega
    · have HS : Hid (turnL l first i s = setR l i k s) := Lib.hid (by
        have h9 := HK.out
        have h10 := HE.out
        rw [turnL, marksB_stop first i m (by omega) HM.out (.inl (by omega)), h9])
      go_wp2_with fail
      (try simp only [Exit.inBlock, Exit.then])
      exact bodyPost_end (results_none rfl _ _ _) rfl ⟨rfl, by rw [HS.out]; exact HR.out, HB.out, HG.out⟩
end Go.Proofs.Ytoiolgpbecgfkaa
