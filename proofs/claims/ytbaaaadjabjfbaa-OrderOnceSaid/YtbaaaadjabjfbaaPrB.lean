/- The program's own calls on brackets and what is mirrored. -/
import Derived.Test.YtbaaaadjabjfbaaPrA
import Derived.Test.YtbaaaadjabjfbaaFill
namespace Go.Proofs.Ytbaaaadjabjfbaa
open Go.RowKit Go.Maps

set_option maxHeartbeats 1000000 in
theorem copy_any (d s nd ns : Nat) (M1 M2 : Int → Option Int) (w : World) (B : Nat) (hB : B ≤ d) (h1 : MapAt w d nd M1) (h2 : MapAt w s ns M2) (hne : d ≠ s) (hn : nd + ns < 1000) :
    Calls Try.prog 27 #[.map (some d), .map (some s)] w fun e w' => e = .returned (.tuple #[]) ∧ MapAt w' d (nd + ns) (fun x => (M2 x).or (M1 x)) ∧ Below B w w' := by
  have H1 := Lib.hid h1
  have H2 := Lib.hid h2
  have hl1 := h1.lt
  have hl2 := h2.lt
  have HNE := Lib.hid hne
  clear h1 h2 hne
  go_enter Try.func27, Try.ntmps27
  go_wp2_with (first
    | (at_range; refine range_at rfl rfl Try.underlying43 rfl H2.out ?_; intro w0 left0 cnt0 hr0 hs0 hc0 hg0 hz0)
    | go_in)
  go_frame
  have HR0 := Lib.hid hr0
  have HS0 := Lib.hid hs0
  have H10 := Lib.hid (H1.out.kept hg0 (by simp))
  have HB0 := Lib.hid ((Below.refl B w).grown hg0 (by omega) (fun k hk => by cases hk))
  clear hr0 hs0 hg0 hz0
  go_loopw [4] (fun _ wr => ∃ (left : Int → Bool) (cnt : Nat), Ranging wr s w.heap.size ns M2 left cnt ∧ cnt ≤ ns ∧ MapAt wr d (nd + (ns - cnt)) (fun x => if left x then M1 x else (M2 x).or (M1 x)) ∧ Below B w wr)
    (fun _ wr => wr.rangeLeft s w.heap.size)
  case atStart =>
    refine ⟨left0, cnt0, HR0.out, hc0, ?_, HB0.out⟩
    have h : MapAt w0 d (nd + (ns - cnt0)) M1 := by
      obtain ⟨D, h, hR⟩ := H10.out
      exact ⟨D, h.mono (by omega), hR⟩
    refine h.cong fun x => ?_
    show M1 x = if left0 x = true then M1 x else (M2 x).or (M1 x)
    cases hl : left0 x with
    | true => simp
    | false =>
      have : M2 x = none := by
        cases hm : M2 x with
        | none => rfl
        | some y => exact absurd ((HS0.out x y hm).symm.trans hl) (by simp)
      simp [this]
  case round =>
    obtain ⟨left, cnt, hrg, hcn, hma, hb⟩ := hrel
    have HR := Lib.hid hrg
    have HB := Lib.hid hb
    have HMA := Lib.hid hma
    have hsz := hb.size
    clear hrg hb hma
    go_wp2_with (first
      | (at_next; refine next_at rfl rfl rfl HR.out ?_ ?_)
      | go_in)
    · intro hl0 hc
      have HL0 := Lib.hid hl0
      have HC := Lib.hid hc
      clear hl0 hc
      go_wp2
      go_end0
      refine ⟨rfl, ?_, HB.out⟩
      have := HMA.out
      rw [HC.out] at this
      exact this.cong fun x => by rw [HL0.out x]; simp
    · intro x y w1 left1 cnt1 hwx hwy hxy hlx hlx1 hlo hrg1 hlt1 hg1 hs1 hen
      have HXY := Lib.hid hxy
      have HX1 := Lib.hid hlx1
      have HLX := Lib.hid hlx
      have HLO := Lib.hid hlo
      have HR1 := Lib.hid hrg1
      have hnd : some d ≠ some w.heap.size := by
        intro e; injection e with e; omega
      have HMA1 := Lib.hid (HMA.out.kept hg1 hnd)
      have HB1 := Lib.hid (HB.out.grown hg1 (by omega) (fun k hk => by cases hk; omega))
      have hs1' : w1.heap.size ≥ w.heap.size := by have := HB1.out.size; omega
      clear hxy hlx hlx1 hlo hrg1 hg1 hs1 hnd
      go_wp2_with (first
        | (at_mapUpdate; refine update_at rfl rfl Try.underlying43 rfl HMA1.out (by unfold maxLen; omega) rfl rfl hwx hwy ?_; intro w2 h2 g2; go_frame)
        | go_in)
      have HR2 := Lib.hid (HR1.out.kept g2 (fun e => by injection e with e; exact HNE.out e.symm) (fun e => by injection e with e; omega))
      have HB2 := Lib.hid (HB1.out.grown g2 (by omega) (fun k hk => by cases hk; omega))
      have HM2 := Lib.hid h2
      clear h2 g2
      go_roundw
      case rel =>
        refine ⟨left1, cnt1, HR2.out, by omega, ?_, HB2.out⟩
        obtain ⟨D, h, hR⟩ := HM2.out
        refine MapAt.cong ⟨D, h.mono (by omega), hR⟩ fun z => ?_
        show (if z = x then some y else if left z = true then M1 z else (M2 z).or (M1 z)) = if left1 z = true then M1 z else (M2 z).or (M1 z)
        by_cases e : z = x
        · subst e
          rw [if_pos rfl, HX1.out, HXY.out]
          rfl
        · rw [if_neg e, HLO.out z e]
      case measure => rw [HR2.out.left_eq, HR.out.left_eq]; exact hlt1

set_option maxHeartbeats 1000000 in
theorem mirrors_any (w : World) : Calls Try.prog 26 #[] w fun e w' => e = .returned (.map (some w.heap.size)) ∧ MapAt w' w.heap.size 13 mrM ∧ Below w.heap.size w w' := by
  have hmm := @run_makeMap Try.prog
  have HM := Lib.hid (mapAt_made w)
  have HB := Lib.hid (below_alloc w (.map #[] 0))
  go_enter Try.func26, Try.ntmps26
  go_wp2_with (first
    | (refine insert_at rfl rfl Try.underlying43 rfl HM.out (by decide) rfl rfl (by decide) (by decide) ?_; intro w1 h1 g1; replace HM := Lib.hid h1; replace HB := Lib.hid (ins_step HB.out g1 (Nat.le_refl _)); clear h1 g1; go_frame)
    | fail)
  refine (brackets_any _).mono ?_
  rintro e w2 ⟨rfl, hb2, bb2⟩
  have hlt := HM.out.lt
  have HM2 := Lib.hid (HM.out.below bb2 hlt (Nat.le_refl _))
  have HB2 := Lib.hid (below_then HB.out bb2)
  have HBR := Lib.hid hb2
  clear bb2 hb2
  go_wp2_with fail
  refine (copy_any _ _ _ _ _ _ _ w.heap.size (Nat.le_refl _) HM2.out HBR.out (by omega) (by decide)).mono ?_
  rintro e w3 ⟨rfl, hm3, b3⟩
  have HM3 := Lib.hid hm3
  have HB3 := Lib.hid (HB2.out.trans b3)
  clear hm3 b3
  go_wp2
  go_ret
  refine ⟨rfl, HM3.out.cong fun x => ?_, HB3.out⟩
  show (lkp brs.reverse x).or _ = (lkp brs.reverse x).or (lkp sgn.reverse x)
  rfl

/-- a bracket's other one, whether it opens, and whether it is one -/
def oth (c : Int) : Int × Bool × Bool := othL brs c
/-- what a number is as a bracket -/
def asB (c : Int) : Int := if c = 9001 then 12296 else if c = 9002 then 12297 else c
def isB (c : Int) : Bool := (oth c).2.2
/-- are they one bracket? -/
def sameB (a b : Int) : Bool := isB a && (asB a == asB b)
/-- what c is mirrored into -/
def othM (c : Int) : Int × Bool × Bool := othL mrs c
def mir (c : Int) : Int := if (othM c).2.2 then (othM c).1 else c
def isM (c : Int) : Bool := (othM c).2.2
set_option maxHeartbeats 1000000 in
theorem mirror_any (c : Int) (w : World) : Calls Try.prog 22 #[.int .i64 c] w fun e w' => e = .returned (.int .i64 (mir c)) ∧ Below w.heap.size w w' := by
  obtain ⟨o, ho⟩ : ∃ o, othM c = o := ⟨_, rfl⟩
  obtain ⟨x, p, k⟩ := o
  have HO := Lib.hid ho
  clear ho
  cases k
  all_goals
    go_enter Try.func22, Try.ntmps22
    go_wp2_with fail
    refine (mirrors_any w).mono ?_
    rintro e w1 ⟨rfl, h1, b1⟩
    have H1 := Lib.hid h1
    have B1 := Lib.hid b1
    clear h1 b1
    go_wp2_with fail
    refine (otherOf_any mrs mrs_apart mrM mrM_holds _ _ c w1 H1.out).mono ?_
    rintro e w2 ⟨rfl, b2⟩
    rw [show othL mrs c = _ from HO.out]
    have B2 := Lib.hid (below_then B1.out b2)
    clear b2
    go_wp2
    go_ret
    exact ⟨ret_int (by rw [mir, HO.out]; rfl), B2.out⟩
/-- the lesser one of two that are mirrored -/
def pln (c : Int) : Int := min c (mir c)

end Go.Proofs.Ytbaaaadjabjfbaa
