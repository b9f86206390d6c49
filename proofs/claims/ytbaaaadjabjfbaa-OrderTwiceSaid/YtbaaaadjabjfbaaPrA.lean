/- Brackets and what is mirrored: the tables, the program's own calls. -/
import Derived.Test.YtbaaaadjabjfbaaMaps
import Derived.OwnWalk
namespace Go.Proofs.Ytbaaaadjabjfbaa
open Go.RowKit Go.Maps

/-- the one that stands with c in a list of pairs, whether c is the first of both, and whether there is one -/
def othL : List (Int × Int) → Int → Int × Bool × Bool
  | [], _ => (0, false, false)
  | (a, b) :: r, c => if c = a then (b, true, true) else if c = b then (a, false, true) else othL r c
theorem othL_none : ∀ (l : List (Int × Int)) (c : Int), (∀ p ∈ l, c ≠ p.1 ∧ c ≠ p.2) → othL l c = (0, false, false)
  | [], _, _ => rfl
  | (a, b) :: r, c, h => by
    have h0 := h (a, b) (by simp)
    simp only [othL, if_neg h0.1, if_neg h0.2]
    exact othL_none r c fun p hp => h p (by simp [hp])
def brs : List (Int × Int) := [(40, 41), (91, 93), (123, 125), (9001, 9002), (12296, 12297), (12298, 12299), (12300, 12301), (12302, 12303), (12304, 12305)]
def sgn : List (Int × Int) := [(60, 62), (171, 187), (8804, 8805), (8810, 8811)]
def mrs : List (Int × Int) := brs ++ sgn
/-- no number stands in two of the pairs -/
def Apart2 (l : List (Int × Int)) : Prop := ∀ p ∈ l, othL l p.1 = (p.2, true, true) ∧ othL l p.2 = (p.1, false, true)
theorem brs_apart : Apart2 brs := by unfold Apart2; decide +kernel
theorem mrs_apart : Apart2 mrs := by unfold Apart2; decide +kernel
/-- a map that holds the pairs of a list -/
def HoldsL (M : Int → Option Int) (l : List (Int × Int)) : Prop := (∀ x y, M x = some y → (x, y) ∈ l) ∧ ∀ p ∈ l, M p.1 = some p.2
def brM : Int → Option Int := lkp brs.reverse
def mrM : Int → Option Int := fun x => (lkp brs.reverse x).or (lkp sgn.reverse x)
theorem brM_holds : HoldsL brM brs := ⟨fun x y h => List.mem_reverse.1 (lkp_mem h), by unfold brM; decide +kernel⟩
theorem mrM_eq (x : Int) : mrM x = lkp (brs.reverse ++ sgn.reverse) x := (lkp_append _ _ x).symm
theorem mrM_holds : HoldsL mrM mrs := by
  refine ⟨fun x y h => ?_, ?_⟩
  · rw [mrM_eq] at h
    have := lkp_mem h
    rcases List.mem_append.1 this with h | h
    · exact List.mem_append_left _ (List.mem_reverse.1 h)
    · exact List.mem_append_right _ (List.mem_reverse.1 h)
  · unfold mrM; decide +kernel

theorem ret_3 {a b : Int × Bool × Bool} (h : a = b) : Ending.returned (.tuple #[.int .i64 a.1, .bool a.2.1, .bool a.2.2]) = .returned (.tuple #[.int .i64 b.1, .bool b.2.1, .bool b.2.2]) := by rw [h]

set_option maxHeartbeats 1000000 in
theorem otherOf_any (l : List (Int × Int)) (hl : Apart2 l) (M : Int → Option Int) (hM : HoldsL M l) (b n : Nat) (c : Int) (w : World) (h : MapAt w b n M) :
    Calls Try.prog 25 #[.map (some b), .int .i64 c] w fun e w' => e = .returned (.tuple #[.int .i64 (othL l c).1, .bool (othL l c).2.1, .bool (othL l c).2.2]) ∧ Below w.heap.size w w' := by
  have H := Lib.hid h
  have HL := Lib.hid hl
  have HM := Lib.hid hM
  have hlt := h.lt
  clear h hl hM
  go_enter Try.func25, Try.ntmps25
  go_wp2_with (first
    | (at_range; refine range_at rfl rfl Try.underlying43 rfl H.out ?_; intro w0 left0 cnt0 hr0 hs0 _ hg0 hz0)
    | go_in)
  go_frame
  have HR0 := Lib.hid hr0
  have HS0 := Lib.hid hs0
  have HZ0 := Lib.hid hz0
  have hb0 := (Below.refl w.heap.size w).grown hg0 (Nat.le_refl _) (fun k hk => by cases hk)
  have HB0 := Lib.hid hb0
  clear hr0 hs0 hg0 hb0 hz0
  go_loopw [7] (fun _ wr => ∃ (left : Int → Bool) (cnt : Nat), Ranging wr b w.heap.size n M left cnt ∧ Hid (∀ x y, M x = some y → left x = false → c ≠ x ∧ c ≠ y) ∧ Below w.heap.size w wr)
    (fun _ wr => wr.rangeLeft b w.heap.size)
  case atStart => exact ⟨_, _, HR0.out, fun x y e h => absurd ((HS0.out x y e).symm.trans h) (by simp), HB0.out⟩
  case round =>
    obtain ⟨left, cnt, hrg, HN, hb⟩ := hrel
    have HR := Lib.hid hrg
    have HB := Lib.hid hb
    have hsz := hb.size
    clear hrg hb
    go_wp2_with (first
      | (at_next; refine next_at rfl rfl rfl HR.out ?_ ?_)
      | go_in)
    · intro hl0 _
      have HL0 := Lib.hid hl0
      clear hl0
      go_wp2
      go_ret3
      refine ⟨?_, HB.out⟩
      refine ret_3 (a := (0, false, false)) (othL_none l c fun p hp => ?_).symm
      exact HN.out p.1 p.2 (HM.out.2 p hp) (HL0.out _)
    · intro x y w1 left1 cnt1 hwx hwy hxy hlx hlx1 hlo hrg1 hlt1 hg1 hs1 hen
      have HXY := Lib.hid hxy
      have HX1 := Lib.hid hlx1
      have HLO := Lib.hid hlo
      have HR1 := Lib.hid hrg1
      have HB1 := Lib.hid (HB.out.grown hg1 hsz (fun k hk => by cases hk; exact Nat.le_refl _))
      clear hxy hlx hlx1 hlo hrg1 hg1 hs1
      by_cases e1 : c = x
      · have hd1 : (c == x) = true := by simp [e1]
        have E1 := Lib.hid e1
        clear e1
        go_wp2
        go_ret3
        refine ⟨?_, HB1.out⟩
        have hm := HM.out.1 x y HXY.out
        exact ret_3 (a := (y, true, true)) (by rw [E1.out]; exact (HL.out _ hm).1.symm)
      · have hd1 : (c == x) = false := by simp [e1]
        by_cases e2 : c = y
        · have hd2 : (c == y) = true := by simp [e2]
          have E2 := Lib.hid e2
          clear e1 e2
          go_wp2
          go_ret3
          refine ⟨?_, HB1.out⟩
          have hm := HM.out.1 x y HXY.out
          exact ret_3 (a := (x, false, true)) (by rw [E2.out]; exact (HL.out _ hm).2.symm)
        · have hd2 : (c == y) = false := by simp [e2]
          have E1 := Lib.hid e1
          have E2 := Lib.hid e2
          clear e1 e2
          go_wp2
          go_roundw
          case rel =>
            refine ⟨left1, cnt1, HR1.out, ?_, HB1.out⟩
            intro x' y' hm' hl'
            by_cases e : x' = x
            · subst e
              have : y' = y := Option.some.inj (hm'.symm.trans HXY.out)
              subst this
              exact ⟨E1.out, E2.out⟩
            · exact HN.out x' y' hm' (by rw [← HLO.out x' e]; exact hl')
          case measure => rw [HR1.out.left_eq, HR.out.left_eq]; exact hlt1

theorem ins_step {w w' w0 : World} {b : Nat} (h : Below w0.heap.size w0 w) (hg : w.grownBy w' (some b)) (hb : w0.heap.size ≤ b) : Below w0.heap.size w0 w' := h.grown hg h.size (fun k hk => by cases hk; exact hb)

set_option maxHeartbeats 1000000 in
theorem brackets_any (w : World) : Calls Try.prog 28 #[] w fun e w' => e = .returned (.map (some w.heap.size)) ∧ MapAt w' w.heap.size 9 brM ∧ Below w.heap.size w w' := by
  have hmm := @run_makeMap Try.prog
  have HM := Lib.hid (mapAt_made w)
  have HB := Lib.hid (below_alloc w (.map #[] 0))
  go_enter Try.func28, Try.ntmps28
  go_wp2_with (refine insert_at rfl rfl Try.underlying43 rfl HM.out (by decide) rfl rfl (by decide) (by decide) ?_; intro w1 h1 g1; replace HM := Lib.hid h1; replace HB := Lib.hid (ins_step HB.out g1 (Nat.le_refl _)); clear h1 g1; go_frame)
  go_ret
  exact ⟨rfl, HM.out, HB.out⟩
end Go.Proofs.Ytbaaaadjabjfbaa
