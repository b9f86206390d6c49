/- Shared texts, shaken for one claim. -/
import Derived.OwnWalk
import Derived.Test.YtcbaahlahohfmaaGreatDoorZB1
import Derived.Test.YtcbaahlahohfmaaGreatDoorZB4
import Derived.Test.YtcbaahlahohfmaaGreatDoorZB7
import Derived.Test.YtcbaahlahohfmaaGreatDoorZB8
namespace Go.Proofs.YtcbaahlahohfmaaGreatDoor
open Go.RowKit Go.Maps
def othL : List (Int × Int) → Int → Int × Bool × Bool
 | [], _ => (0, false, false)
 | (a, b) :: r, c => if c = a then (b, true, true) else if c = b then (a, false, true) else othL r c
theorem othL_none : ∀ (l : List (Int × Int)) (c : Int), (∀ p ∈ l, c ≠ p.1 ∧ c ≠ p.2) → othL l c = (0, false, false)
 | [], _, _ => rfl
 | (a, b) :: r, c, h => by
  have h0 := h (a, b) (by simp)
  simp only [othL, if_neg h0.1, if_neg h0.2]
  exact othL_none r c fun p hp => h p (by simp [hp])
def brs : List (Int × Int) := [(40, 41), (91, 93), (123, 125), (9001, 9002), (12296, 12297), (12298, 12299), (12300, 12301), (12302, 12303), (12304, 12305)]
def sgn : List (Int × Int) := [(60, 62), (171, 187), (8804, 8805), (8810, 8811)]
def mrs : List (Int × Int) := brs ++ sgn
def Apart2 (l : List (Int × Int)) : Prop := ∀ p ∈ l, othL l p.1 = (p.2, true, true) ∧ othL l p.2 = (p.1, false, true)
theorem brs_apart : Apart2 brs := by unfold Apart2; decide +kernel
def HoldsL (M : Int → Option Int) (l : List (Int × Int)) : Prop := (∀ x y, M x = some y → (x, y) ∈ l) ∧ ∀ p ∈ l, M p.1 = some p.2
def brM : Int → Option Int := lkp brs.reverse
theorem brM_holds : HoldsL brM brs := ⟨fun x y h => List.mem_reverse.1 (lkp_mem h), by unfold brM; decide +kernel⟩
theorem ret_3 {a b : Int × Bool × Bool} (h : a = b) : Ending.returned (.tuple #[.int .i64 a.1, .bool a.2.1, .bool a.2.2]) = .returned (.tuple #[.int .i64 b.1, .bool b.2.1, .bool b.2.2]) := by rw [h]
set_option maxHeartbeats 1000000 in
theorem otherOf_any (l : List (Int × Int)) (hl : Apart2 l) (M : Int → Option Int) (hM : HoldsL M l) (b n : Nat) (c : Int) (w : World) (h : MapAt w b n M) :
 Calls Tryz.prog 176 #[.map (some b), .int .i64 c] w fun e w' => e = .returned (.tuple #[.int .i64 (othL l c).1, .bool (othL l c).2.1, .bool (othL l c).2.2]) ∧ Below w.heap.size w w' := by
 have H := Lib.hid h
 have HL := Lib.hid hl
 have HM := Lib.hid hM
 have hlt := h.lt
 clear h hl hM
 go_enter Tryz.func176, Tryz.ntmps176
 go_wp2_with (first
  | (at_range; refine range_at rfl rfl Tryz.underlying65 rfl H.out ?_; intro w0 left0 cnt0 hr0 hs0 _ hg0 hz0)
  | go_in)
 go_frame
 have HR0 := Lib.hid hr0
 have HS0 := Lib.hid hs0
 have HZ0 := Lib.hid hz0
 have hb0 := (Below.refl w.heap.size w).grown hg0 (Nat.le_refl _) (fun k hk => by cases hk)
 have HB0 := Lib.hid hb0
 clear hr0 hs0 hg0 hb0 hz0
 go_loopw [7] (fun _ wr => ∃ (left : Int → Bool) (cnt : Nat), Ranging wr b w.heap.size n M left cnt ∧ Hid (∀ x y, M x = some y → left x = false → c ≠ x ∧ c ≠ y) ∧ Below w.heap.size w wr)
  (fun _ wr => wr.rangeLeft b w.heap.size)
 case atStart => exact ⟨_, _, HR0.out, fun x y e h => absurd ((HS0.out x y e).symm.trans h) (by simp), HB0.out⟩
 case round =>
  obtain ⟨left, cnt, hrg, HN, hb⟩ := hrel
  have HR := Lib.hid hrg
  have HB := Lib.hid hb
  have hsz := hb.size
  clear hrg hb
  go_wp2_with (first
   | (at_next; refine next_at rfl rfl rfl HR.out ?_ ?_)
   | go_in)
  ·intro hl0 _
   have HL0 := Lib.hid hl0
   clear hl0
   go_wp2
   go_ret3
   refine ⟨?_, HB.out⟩
   refine ret_3 (a := (0, false, false)) (othL_none l c fun p hp => ?_).symm
   exact HN.out p.1 p.2 (HM.out.2 p hp) (HL0.out _)
  ·intro x y w1 left1 cnt1 hwx hwy hxy hlx hlx1 hlo hrg1 hlt1 hg1 hs1 hen
   have HXY := Lib.hid hxy
   have HX1 := Lib.hid hlx1
   have HLO := Lib.hid hlo
   have HR1 := Lib.hid hrg1
   have HB1 := Lib.hid (HB.out.grown hg1 hsz (fun k hk => by cases hk; exact Nat.le_refl _))
   clear hxy hlx hlx1 hlo hrg1 hg1 hs1
   by_cases e1 : c = x
   ·have hd1 : (c == x) = true := by simp [e1]
    have E1 := Lib.hid e1
    clear e1
    go_wp2
    go_ret3
    refine ⟨?_, HB1.out⟩
    have hm := HM.out.1 x y HXY.out
    exact ret_3 (a := (y, true, true)) (by rw [E1.out]; exact (HL.out _ hm).1.symm)
   ·have hd1 : (c == x) = false := by simp [e1]
    by_cases e2 : c = y
    ·have hd2 : (c == y) = true := by simp [e2]
     have E2 := Lib.hid e2
     clear e1 e2
     go_wp2
     go_ret3
     refine ⟨?_, HB1.out⟩
     have hm := HM.out.1 x y HXY.out
     exact ret_3 (a := (x, false, true)) (by rw [E2.out]; exact (HL.out _ hm).2.symm)
    ·have hd2 : (c == y) = false := by simp [e2]
     have E1 := Lib.hid e1
     have E2 := Lib.hid e2
     clear e1 e2
     go_wp2
     go_roundw
     case rel =>
      refine ⟨left1, cnt1, HR1.out, ?_, HB1.out⟩
      intro x' y' hm' hl'
      by_cases e : x' = x
      ·subst e
       have : y' = y := Option.some.inj (hm'.symm.trans HXY.out)
       subst this
       exact ⟨E1.out, E2.out⟩
      ·exact HN.out x' y' hm' (by rw [← HLO.out x' e]; exact hl')
     case measure => rw [HR1.out.left_eq, HR.out.left_eq]; exact hlt1
theorem ins_step {w w' w0 : World} {b : Nat} (h : Below w0.heap.size w0 w) (hg : w.grownBy w' (some b)) (hb : w0.heap.size ≤ b) : Below w0.heap.size w0 w' := h.grown hg h.size (fun k hk => by cases hk; exact hb)
set_option maxHeartbeats 1000000 in
theorem brackets_any (w : World) : Calls Tryz.prog 177 #[] w fun e w' => e = .returned (.map (some w.heap.size)) ∧ MapAt w' w.heap.size 9 brM ∧ Below w.heap.size w w' := by
 have hmm := @run_makeMap Tryz.prog
 have HM := Lib.hid (mapAt_made w)
 have HB := Lib.hid (below_alloc w (.map #[] 0))
 go_enter Tryz.func177, Tryz.ntmps177
 go_wp2_with (refine insert_at rfl rfl Tryz.underlying65 rfl HM.out (by decide) rfl rfl (by decide) (by decide) ?_; intro w1 h1 g1; replace HM := Lib.hid h1; replace HB := Lib.hid (ins_step HB.out g1 (Nat.le_refl _)); clear h1 g1; go_frame)
 go_ret
 exact ⟨rfl, HM.out, HB.out⟩
end Go.Proofs.YtcbaahlahohfmaaGreatDoor
namespace Go.Proofs.YtcbaahlahohfmaaGreatDoor
open Go.RowKit Go.Maps
def oth (c : Int) : Int × Bool × Bool := othL brs c
theorem other_any (c : Int) (w : World) : Calls Tryz.prog 168 #[.int .i64 c] w fun e w' => e = .returned (.tuple #[.int .i64 (oth c).1, .bool (oth c).2.1, .bool (oth c).2.2]) ∧ Below w.heap.size w w' := by
 go_enter Tryz.func168, Tryz.ntmps168
 go_wp2_with fail
 refine (brackets_any w).mono ?_
 rintro e w1 ⟨rfl, h1, b1⟩
 have H1 := Lib.hid h1
 have B1 := Lib.hid b1
 clear h1 b1
 go_wp2_with fail
 refine (otherOf_any brs brs_apart brM brM_holds _ _ c w1 H1.out).mono ?_
 rintro e w2 ⟨rfl, b2⟩
 have B2 := Lib.hid (below_then B1.out b2)
 clear b2
 go_wp2
 go_ret3
 exact ⟨rfl, B2.out⟩
def asB (c : Int) : Int := if c = 9001 then 12296 else if c = 9002 then 12297 else c
theorem asB_any (c : Int) (w : World) : Calls Tryz.prog 179 #[.int .i64 c] w fun e w' => e = .returned (.int .i64 (asB c)) ∧ w = w' := by
 by_cases h1 : c = 9001
 ·subst h1
  go_enter Tryz.func179, Tryz.ntmps179
  go_wp2
  go_ret
  exact ⟨rfl, rfl⟩
 have d1 : (c == 9001) = false := by simp [h1]
 by_cases h2 : c = 9002
 ·subst h2
  go_enter Tryz.func179, Tryz.ntmps179
  go_wp2
  go_ret
  exact ⟨rfl, rfl⟩
 have d2 : (c == 9002) = false := by simp [h2]
 have H1 := Lib.hid h1
 have H2 := Lib.hid h2
 clear h1 h2
 go_enter Tryz.func179, Tryz.ntmps179
 go_wp2
 go_ret
 exact ⟨ret_int (by rw [asB, if_neg H1.out, if_neg H2.out]), rfl⟩
def isB (c : Int) : Bool := (oth c).2.2
def sameB (a b : Int) : Bool := isB a && (asB a == asB b)
set_option maxHeartbeats 1000000 in
theorem same_any (a b : Int) (w : World) : Calls Tryz.prog 170 #[.int .i64 a, .int .i64 b] w fun e w' => e = .returned (.bool (sameB a b)) ∧ Below w.heap.size w w' := by
 obtain ⟨o, ho⟩ : ∃ o, oth a = o := ⟨_, rfl⟩
 obtain ⟨x, p, k⟩ := o
 have HO := Lib.hid ho
 clear ho
 obtain ⟨u, hu⟩ : ∃ u, asB a = u := ⟨_, rfl⟩
 obtain ⟨v, hv⟩ : ∃ v, asB b = v := ⟨_, rfl⟩
 have HU := Lib.hid hu
 have HV := Lib.hid hv
 clear hu hv
 cases k with
 | false =>
  go_enter Tryz.func170, Tryz.ntmps170
  go_wp2_with fail
  refine (other_any a w).mono ?_
  rintro e w1 ⟨rfl, b1⟩
  rw [HO.out]
  have B1 := Lib.hid b1
  clear b1
  go_wp2
  go_ret
  exact ⟨ret_bool (by rw [sameB, isB, HO.out]; rfl), B1.out⟩
 | true =>
  go_enter Tryz.func170, Tryz.ntmps170
  go_wp2_with fail
  refine (other_any a w).mono ?_
  rintro e w1 ⟨rfl, b1⟩
  rw [HO.out]
  have B1 := Lib.hid b1
  clear b1
  go_wp2_with fail
  refine (asB_any a _).mono ?_
  rintro e w2 ⟨rfl, rfl⟩
  rw [HU.out]
  go_wp2_with fail
  refine (asB_any b _).mono ?_
  rintro e w2 ⟨rfl, rfl⟩
  rw [HV.out]
  go_wp2
  go_ret
  exact ⟨ret_bool (by rw [sameB, isB, HO.out, HU.out, HV.out]; rfl), B1.out⟩
def othM (c : Int) : Int × Bool × Bool := othL mrs c
def mir (c : Int) : Int := if (othM c).2.2 then (othM c).1 else c
end Go.Proofs.YtcbaahlahohfmaaGreatDoor
namespace Go.Proofs.YtcbaahlahohfmaaGreatDoor
open Go.RowKit Go.Maps
def flat : List (Int × Int) → List Int
 | [] => []
 | (a, b) :: r => a :: b :: flat r
theorem flat_at : ∀ (l : List (Int × Int)) (j : Nat) (h : j < l.length), (flat l)[2 * j]? = some l[j].1 ∧ (flat l)[2 * j + 1]? = some l[j].2
 | (a, b) :: r, 0, _ => ⟨rfl, rfl⟩
 | (a, b) :: r, j + 1, h => by
  have := flat_at r j (by simpa using h)
  rw [show 2 * (j + 1) = 2 * j + 1 + 1 by omega]
  simpa [flat] using this
theorem othL_drop (l : List (Int × Int)) (j : Nat) (h : j < l.length) (c : Int) : othL (l.drop j) c = if c = l[j].1 then (l[j].2, true, true) else if c = l[j].2 then (l[j].1, false, true) else othL (l.drop (j + 1)) c := by
 rw [List.drop_eq_getElem_cons h]
 rfl
def Stands (l : List (Int × Int)) (c : Int) (k : Nat) : Prop := ∃ j, j ≤ l.length ∧ k = 2 * j ∧ othL (l.drop j) c = othL l c
theorem Stands.step {l : List (Int × Int)} {c : Int} {k : Nat} (h : Stands l c k) (hk : k < 2 * l.length) :
 ∃ a b, (flat l)[k]? = some a ∧ (flat l)[k + 1]? = some b ∧ k + 2 ≤ 2 * l.length ∧ othL l c = if c = a then (b, true, true) else if c = b then (a, false, true) else othL (l.drop (k / 2 + 1)) c := by
 obtain ⟨j, _, rfl, hd⟩ := h
 have hj : j < l.length := by omega
 obtain ⟨f1, f2⟩ := flat_at l j hj
 refine ⟨_, _, f1, f2, by omega, ?_⟩
 rw [← hd, othL_drop l j hj c, show 2 * j / 2 + 1 = j + 1 by omega]
theorem Stands.next {l : List (Int × Int)} {c a b : Int} {k : Nat} (h : Stands l c k) (hk : k < 2 * l.length) (e : othL l c = if c = a then (b, true, true) else if c = b then (a, false, true) else othL (l.drop (k / 2 + 1)) c) (h1 : c ≠ a) (h2 : c ≠ b) : Stands l c (k + 2) := by
 obtain ⟨j, _, rfl, hd⟩ := h
 rw [if_neg h1, if_neg h2, show 2 * j / 2 + 1 = j + 1 by omega] at e
 exact ⟨j + 1, by omega, by omega, e.symm⟩
theorem Stands.done {l : List (Int × Int)} {c : Int} {k : Nat} (h : Stands l c k) (hk : ¬ k < 2 * l.length) : othL l c = (0, false, false) := by
 obtain ⟨j, hj, rfl, hd⟩ := h
 rw [← hd, List.drop_of_length_le (by omega)]
 rfl
end Go.Proofs.YtcbaahlahohfmaaGreatDoor
namespace Go.Proofs.YtcbaahlahohfmaaGreatDoor
open Go.RowKit Go.Maps
theorem brs_or (c : Int) : othL brs c = (0, false, false) ∨ ∃ p ∈ brs, c = p.1 ∨ c = p.2 := by
 by_cases h : ∀ p ∈ brs, c ≠ p.1 ∧ c ≠ p.2
 ·exact .inl (othL_none _ _ h)
 ·refine .inr ?_
  false_or_by_contra
  rename_i hn
  exact h fun p hp => ⟨fun e => hn ⟨p, hp, .inl e⟩, fun e => hn ⟨p, hp, .inr e⟩⟩
theorem all_brs {Q : Int → Prop} (h0 : ∀ c, othL brs c = (0, false, false) → Q c) (h1 : ∀ p ∈ brs, Q p.1 ∧ Q p.2) (c : Int) : Q c := by
 rcases brs_or c with h | ⟨p, hp, rfl | rfl⟩
 ·exact h0 c h
 ·exact (h1 p hp).1
 ·exact (h1 p hp).2
theorem oth_facts (c : Int) (h : isB c = true) : (oth (oth c).1).2.2 = true ∧ (oth (oth c).1).1 = c ∧ ((oth c).2.1 != (oth (oth c).1).2.1) = true ∧ mir c = (oth c).1 ∧ sameB c c = true ∧ sameB c (oth c).1 = false := by
 revert h
 refine all_brs (Q := fun c => isB c = true → (oth (oth c).1).2.2 = true ∧ (oth (oth c).1).1 = c ∧ ((oth c).2.1 != (oth (oth c).1).2.1) = true ∧ mir c = (oth c).1 ∧ sameB c c = true ∧ sameB c (oth c).1 = false) (fun c h hb => ?_) (by decide +kernel) c
 rw [isB, oth, h] at hb
 cases hb
theorem isB_asB (c : Int) : isB (asB c) = isB c := by
 by_cases h1 : c = 9001
 ·subst h1; decide +kernel
 by_cases h2 : c = 9002
 ·subst h2; decide +kernel
 rw [asB, if_neg h1, if_neg h2]
theorem isB_of {a b : Int} (h : asB a = asB b) : isB a = isB b := by rw [← isB_asB a, ← isB_asB b, h]
theorem sameB_iff {a b : Int} : sameB a b = true ↔ isB a = true ∧ asB a = asB b := by simp [sameB]
theorem same_facts : ∀ p ∈ brs, ∀ q ∈ brs, ∀ a ∈ [p.1, p.2], ∀ b ∈ [q.1, q.2], sameB a b = true → (oth a).2.1 = (oth b).2.1 ∧ sameB (oth a).1 (oth b).1 = true := by decide +kernel
theorem same_others {a b : Int} (h : sameB a b = true) : (oth a).2.1 = (oth b).2.1 ∧ sameB (oth a).1 (oth b).1 = true := by
 have ha := (sameB_iff.1 h).1
 have hb : isB b = true := by rw [← isB_of (sameB_iff.1 h).2]; exact ha
 rcases brs_or a with h0 | ⟨p, hp, h0⟩
 ·rw [isB, oth, h0] at ha; cases ha
 rcases brs_or b with h1 | ⟨q, hq, h1⟩
 ·rw [isB, oth, h1] at hb; cases hb
 exact same_facts p hp q hq a (by simpa using h0) b (by simpa using h1) h
end Go.Proofs.YtcbaahlahohfmaaGreatDoor
namespace Go.Proofs.YtcbaahlahohfmaaGreatDoor
open Go.RowKit
def setR (l : List Int) (a b : Nat) (s : Int) : List Int := (List.range l.length).map fun k => if a ≤ k ∧ k < b then s else l.getD k 0
theorem setR_length (l : List Int) (a b : Nat) (s : Int) : (setR l a b s).length = l.length := by simp [setR]
theorem setR_get (l : List Int) (a b : Nat) (s : Int) {k : Nat} (h : k < (setR l a b s).length) (h' : k < l.length) : (setR l a b s)[k] = if a ≤ k ∧ k < b then s else l[k] := by
 simp [setR, h']
theorem setR_none (l : List Int) (a : Nat) (s : Int) : setR l a a s = l := by
 apply List.ext_getElem
 ·rw [setR_length]
 ·intro i h1 h2
  rw [setR_get _ _ _ _ h1 h2, if_neg (by omega)]
theorem setR_next (l : List Int) (a b : Nat) (s : Int) (h : a ≤ b) : (setR l a b s).set b s = setR l a (b + 1) s := by
 apply List.ext_getElem
 ·rw [List.length_set, setR_length, setR_length]
 ·intro i h1 h2
  have hl : i < l.length := by rw [setR_length] at h2; exact h2
  rw [List.getElem_set, setR_get _ _ _ _ h2 hl]
  split
  ·rw [if_pos (by omega)]
  ·rw [setR_get _ _ _ _ (by rw [setR_length]; exact hl) hl]
   by_cases hh : a ≤ i ∧ i < b
   ·rw [if_pos hh, if_pos (by omega)]
   ·rw [if_neg hh, if_neg (by omega)]
def marksB (first : List Int) (i : Nat) : Nat := ((first.drop (i + 1)).takeWhile fun c => c == 8).length
theorem marksB_stop (first : List Int) (i m : Nat) (hm : i + 1 + m ≤ first.length) (h : ∀ j (_ : j < m), first.getD (i + 1 + j) 0 = 8) (hs : i + 1 + m = first.length ∨ first.getD (i + 1 + m) 0 ≠ 8) : marksB first i = m := by
 unfold marksB
 obtain ⟨r, hr⟩ : ∃ r, first.drop (i + 1) = r := ⟨_, rfl⟩
 have hg : ∀ j, r.getD j 0 = first.getD (i + 1 + j) 0 := fun j => by
  rw [← hr, List.getD_eq_getElem?_getD, List.getElem?_drop, List.getD_eq_getElem?_getD]
 have hl : r.length = first.length - (i + 1) := by rw [← hr, List.length_drop]
 have h1 : ∀ j, j < m → r.getD j 0 = 8 := fun j hj => by rw [hg]; exact h j hj
 have h2 : m = r.length ∨ r.getD m 0 ≠ 8 := by
  rcases hs with hs | hs
  ·exact .inl (by omega)
  ·exact .inr (by rw [hg]; exact hs)
 have h3 : m ≤ r.length := by omega
 rw [hr]
 clear hr hg hl h hs hm
 induction r generalizing m with
 | nil => simp at h3 ⊢; omega
 | cons x r ih =>
  cases m with
  | zero =>
   rcases h2 with h2 | h2
   ·simp at h2
   ·simp at h2; simp [h2]
  | succ m =>
   have hx : x = 8 := by simpa using h1 0 (by omega)
   subst hx
   rw [List.takeWhile_cons_of_pos (by decide), List.length_cons, ih m (fun j hj => by simpa using h1 (j + 1) (by omega)) ?_ (by simpa using h3)]
   rcases h2 with h2 | h2
   ·exact .inl (by simpa using h2)
   ·exact .inr (by simpa using h2)
def turnL (l first : List Int) (i : Nat) (s : Int) : List Int := setR l i (i + 1 + marksB first i) s
theorem turnL_length (l first : List Int) (i : Nat) (s : Int) : (turnL l first i s).length = l.length := setR_length _ _ _ _
end Go.Proofs.YtcbaahlahohfmaaGreatDoor
namespace Go.Proofs.YtcbaahlahohfmaaGreatDoor
open Go.RowKit
theorem prT : SliceOfN Tryz.prog 77 79 (.agg #[.int .i64 0, .int .i64 0]) 2 16 := ⟨by kernel_rfl, by kernel_rfl, rfl, by decide⟩
def prC (L : List (Int × Int)) : List Value := L.flatMap fun p => [.int .i64 p.1, .int .i64 p.2]
theorem prC_append (a b : List (Int × Int)) : prC (a ++ b) = prC a ++ prC b := by simp [prC]
theorem prC_length (L : List (Int × Int)) : (prC L).length = L.length * 2 := by
 induction L with
 | nil => rfl
 | cons r L ih => rw [show prC (r :: L) = [.int .i64 r.1, .int .i64 r.2] ++ prC L from rfl, List.length_append, ih]; simp; omega
theorem prC_get (L : List (Int × Int)) : ∀ j (hj : j < L.length), (prC L)[j * 2]? = some (.int .i64 L[j].1) ∧ (prC L)[j * 2 + 1]? = some (.int .i64 L[j].2) := by
 induction L with
 | nil => intro j hj; simp at hj
 | cons r L ih =>
  intro j hj
  rw [show prC (r :: L) = [.int .i64 r.1, .int .i64 r.2] ++ prC L from rfl]
  cases j with
  | zero => exact ⟨rfl, rfl⟩
  | succ j =>
   obtain ⟨h1, h2⟩ := ih j (by simpa using hj)
   rw [List.getElem?_append_right (by simp; omega), List.getElem?_append_right (by simp; omega)]
   simp only [List.length_cons, List.length_nil, List.getElem_cons_succ]
   rw [show (j + 1) * 2 - (0 + 1 + 1) = j * 2 by omega, show (j + 1) * 2 + 1 - (0 + 1 + 1) = j * 2 + 1 by omega]
   exact ⟨h1, h2⟩
theorem prC_at {w : World} {B : Nat} {A : Option Addr} {L : List (Int × Int)} (h : Lies w B A (prC L)) {j : Nat} (hj : j < L.length) :
 ∃ g off, A = some ⟨g, off, none⟩ ∧ g < B ∧ w.cell? ⟨g, off + j * 2, none⟩ = some (.int .i64 L[j].1) ∧ w.cell? ⟨g, off + j * 2 + 1, none⟩ = some (.int .i64 L[j].2) := by
 have hl := prC_length L
 obtain ⟨g, off, hA, hg, hc⟩ := Lies.plain h (by omega)
 obtain ⟨h1, h2⟩ := prC_get L j hj
 have k1 := hc (j * 2) (by omega)
 have k2 := hc (j * 2 + 1) (by omega)
 rw [← Nat.add_assoc] at k2
 refine ⟨g, off, hA, hg, ?_, ?_⟩
 ·rw [k1, ← List.getElem?_eq_getElem, h1]
 ·rw [k2, ← List.getElem?_eq_getElem, h2]
theorem lies_kept2 {w0 w w' : World} {g : Nat} {cs : List Value} {row : Option Nat} (hg : w.grownBy w' row) (h : Lies w0 (g + 1) (some ⟨g, 0, none⟩) cs) (hh : w.heap = w0.heap) (hlt : g < w0.heap.size) (hr : row ≠ some g) : Lies w' (g + 1) (some ⟨g, 0, none⟩) cs := fun hn => by
 obtain ⟨p, hA, hp, hc⟩ := (h.sameHeap hh) hn
 rw [← hh] at hlt
 injection hA with hA
 subst hA
 refine ⟨_, rfl, by simp, fun i u hu => ?_⟩
 rw [World.cell?_of_block (hg.block _ (by rw [add_block]; exact hlt) (by rw [add_block]; exact fun e => hr e.symm))]
 exact hc i u hu
end Go.Proofs.YtcbaahlahohfmaaGreatDoor
namespace Go.Proofs.YtcbaahlahohfmaaGreatDoor
open Go.RowKit
def putK (L : List (Int × Int)) (x : Int) : Nat := (L.takeWhile fun p => decide (p.1 < x)).length
def putP (L : List (Int × Int)) (p : Int × Int) : List (Int × Int) := L.take (putK L p.1) ++ [p] ++ L.drop (putK L p.1)
theorem putK_le (L : List (Int × Int)) (x : Int) : putK L x ≤ L.length := (List.takeWhile_prefix _).length_le
end Go.Proofs.YtcbaahlahohfmaaGreatDoor
namespace Go.Proofs.YtcbaahlahohfmaaGreatDoor
open Go.RowKit
def cAt (l : List Int) (i : Nat) : Int := l.getD i 0
structure PS where
 out : List (Int × Int)
 waits : List Nat
 ended : Bool
def findW (chars : List Int) (o : Int) : List Nat → Option (Nat × List Nat)
 | [] => none
 | w :: ws => if sameB (cAt chars w) o then some (w, ws) else findW chars o ws
def pStep (chars classes : List Int) (st : PS) (i : Nat) : PS :=
 if st.ended then st
 else if (oth (cAt chars i)).2.2 = false ∨ cAt classes i ≠ 13 then st
 else if (oth (cAt chars i)).2.1 then (if st.waits.length = 63 then { st with ended := true } else { st with waits := i :: st.waits })
 else match findW chars (oth (cAt chars i)).1 st.waits with
  | none => st
  | some (w, ws) => { st with out := putP st.out ((w : Int), (i : Int)), waits := ws }
def pairsN (chars classes : List Int) : Nat → PS
 | 0 => ⟨[], [], false⟩
 | k + 1 => pStep chars classes (pairsN chars classes k) k
def pairsI (chars classes : List Int) : List (Int × Int) := if chars.length = classes.length then (pairsN chars classes chars.length).out else []
theorem findW_some (chars : List Int) (o : Int) : ∀ (W : List Nat) w ws, findW chars o W = some (w, ws) → sameB (cAt chars w) o = true ∧ w ∈ W ∧ (∀ x ∈ ws, x ∈ W) ∧ (W.Pairwise (· > ·) → ws.Pairwise (· > ·) ∧ ∀ x ∈ ws, x < w) := by
 intro W
 induction W with
 | nil => intro w ws h; cases h
 | cons v W ih =>
  intro w ws h
  unfold findW at h
  split at h
  ·rename_i hs
   injection h with h
   injection h with h1 h2
   subst h1 h2
   exact ⟨hs, List.mem_cons_self, fun x hx => List.mem_cons_of_mem _ hx, fun hp => ⟨(List.pairwise_cons.1 hp).2, fun x hx => (List.pairwise_cons.1 hp).1 x hx⟩⟩
  ·obtain ⟨h1, h2, h3, h4⟩ := ih w ws h
   exact ⟨h1, List.mem_cons_of_mem _ h2, fun x hx => List.mem_cons_of_mem _ (h3 x hx), fun hp => h4 (List.pairwise_cons.1 hp).2⟩
def Beside (p q : Int × Int) : Prop := p.1 < q.1 ∧ ¬ (q.1 < p.2 ∧ p.2 < q.2) ∧ p.2 ≠ q.1 ∧ p.2 ≠ q.2
structure PInv (chars classes : List Int) (k : Nat) (st : PS) : Prop where
 falls : st.waits.Pairwise (· > ·)
 wait : ∀ w ∈ st.waits, w < k ∧ cAt classes w = 13 ∧ (oth (cAt chars w)).2.1 = true ∧ (oth (cAt chars w)).2.2 = true
 each : ∀ p ∈ st.out, ∃ a b : Nat, p = ((a : Int), (b : Int)) ∧ a < b ∧ b < k ∧ cAt classes a = 13 ∧ cAt classes b = 13 ∧ (oth (cAt chars a)).2.1 = true ∧ (oth (cAt chars a)).2.2 = true ∧ sameB (oth (cAt chars a)).1 (cAt chars b) = true
 apart : ∀ p ∈ st.out, ∀ w ∈ st.waits, (w : Int) ≠ p.1 ∧ (w : Int) ≠ p.2 ∧ ¬ (p.1 < w ∧ (w : Int) < p.2)
 order : st.out.Pairwise Beside
theorem mem_putP {L : List (Int × Int)} {p q : Int × Int} : q ∈ putP L p ↔ q ∈ L ∨ q = p := by
 unfold putP
 rw [List.mem_append, List.mem_append, List.mem_singleton]
 constructor
 ·rintro ((h | h) | h)
  ·exact .inl (List.mem_of_mem_take h)
  ·exact .inr h
  ·exact .inl (List.mem_of_mem_drop h)
 ·rintro (h | h)
  ·rw [← List.take_append_drop (putK L p.1) L, List.mem_append] at h
   rcases h with h | h
   ·exact .inl (.inl h)
   ·exact .inr h
  ·exact .inl (.inr h)
theorem putK_split (x : Int) : ∀ L : List (Int × Int), L.Pairwise (fun p q => p.1 < q.1) → (∀ q ∈ L.take (putK L x), q.1 < x) ∧ ∀ q ∈ L.drop (putK L x), x ≤ q.1 := by
 intro L
 induction L with
 | nil => intro _; simp
 | cons r L ih =>
  intro h
  obtain ⟨h1, h2⟩ := List.pairwise_cons.1 h
  obtain ⟨i1, i2⟩ := ih h2
  unfold putK at *
  by_cases hr : r.1 < x
  ·rw [List.takeWhile_cons_of_pos (by simpa using hr), List.length_cons, List.take_succ_cons, List.drop_succ_cons]
   refine ⟨fun q hq => ?_, i2⟩
   rcases List.mem_cons.1 hq with rfl | hq
   ·exact hr
   ·exact i1 q hq
  ·rw [List.takeWhile_cons_of_neg (by simpa using hr)]
   refine ⟨fun q hq => by simp at hq, fun q hq => ?_⟩
   simp only [List.length_nil, List.drop_zero] at hq
   rcases List.mem_cons.1 hq with rfl | hq
   ·omega
   ·have := h1 q hq; omega
theorem order_putP {L : List (Int × Int)} {p : Int × Int} (h : L.Pairwise Beside) (h1 : ∀ q ∈ L, q.1 < p.1 → Beside q p) (h2 : ∀ q ∈ L, p.1 ≤ q.1 → Beside p q) : (putP L p).Pairwise Beside := by
 obtain ⟨s1, s2⟩ := putK_split p.1 L (h.imp fun hh => hh.1)
 have hL := h
 rw [← List.take_append_drop (putK L p.1) L, List.pairwise_append] at hL
 obtain ⟨a1, a2, a3⟩ := hL
 unfold putP
 rw [List.append_assoc, List.pairwise_append]
 refine ⟨a1, ?_, ?_⟩
 ·show ([p] ++ _).Pairwise Beside
  rw [List.singleton_append, List.pairwise_cons]
  exact ⟨fun q hq => h2 q (List.mem_of_mem_drop hq) (s2 q hq), a2⟩
 ·intro x hx y hy
  rw [List.singleton_append, List.mem_cons] at hy
  rcases hy with rfl | hy
  ·exact h1 x (List.mem_of_mem_take hx) (s1 x hx)
  ·exact a3 x hx y hy
theorem pinv (chars classes : List Int) : ∀ k, PInv chars classes k (pairsN chars classes k) := by
 intro k
 induction k with
 | zero => exact ⟨List.Pairwise.nil, fun w h => (by cases h), fun p h => (by cases h), fun p h => (by cases h), List.Pairwise.nil⟩
 | succ k ih =>
  rw [pairsN]
  obtain ⟨f1, f2, f3, f4, f5⟩ := ih
  have stay : PInv chars classes (k + 1) (pairsN chars classes k) :=
   ⟨f1, fun w hw => (by obtain ⟨h1, h2⟩ := f2 w hw; exact ⟨by omega, h2⟩), fun p hp => (by obtain ⟨a, b, e, h1, h2, h3⟩ := f3 p hp; exact ⟨a, b, e, h1, by omega, h3⟩), f4, f5⟩
  generalize pairsN chars classes k = st at *
  unfold pStep
  split
  ·exact stay
  ·split
   ·exact stay
   ·rename_i hE hN
    have hok : (oth (cAt chars k)).2.2 = true := by
     cases hh : (oth (cAt chars k)).2.2 with
     | true => rfl
     | false => exact absurd (.inl hh) hN
    have h13 : cAt classes k = 13 := Classical.byContradiction fun hh => hN (.inr hh)
    split
    ·rename_i hop
     split
     ·exact ⟨stay.falls, stay.wait, stay.each, stay.apart, stay.order⟩
     ·refine ⟨List.pairwise_cons.2 ⟨fun w hw => (f2 w hw).1, f1⟩, fun w hw => ?_, stay.each, fun p hp w hw => ?_, f5⟩
      ·rcases List.mem_cons.1 hw with rfl | hw
       ·exact ⟨by omega, h13, hop, hok⟩
       ·exact stay.wait w hw
      ·rcases List.mem_cons.1 hw with rfl | hw
       ·obtain ⟨a, b, rfl, h1, h2, _⟩ := f3 p hp
        simp only; omega
       ·exact f4 p hp w hw
    ·rename_i hop
     split
     ·exact stay
     ·rename_i w ws hf
      obtain ⟨g1, g2, g3, g4⟩ := findW_some chars _ _ w ws hf
      obtain ⟨g5, g6⟩ := g4 f1
      obtain ⟨w1, w2, w3, w4⟩ := f2 w g2
      have hsame : sameB (oth (cAt chars w)).1 (cAt chars k) = true := by
       have hb := oth_facts (cAt chars k) hok
       have := (same_others g1).2
       rwa [hb.2.1] at this
      refine ⟨g5, fun x hx => stay.wait x (g3 x hx), fun p hp => ?_, fun p hp x hx => ?_, ?_⟩
      ·rcases mem_putP.1 hp with hp | rfl
       ·exact stay.each p hp
       ·exact ⟨w, k, rfl, w1, by omega, w2, h13, w3, w4, hsame⟩
      ·rcases mem_putP.1 hp with hp | rfl
       ·exact f4 p hp x (g3 x hx)
       ·have := g6 x hx
        simp only; omega
      ·refine order_putP f5 (fun q hq hlt => ?_) (fun q hq hle => ?_)
       ·obtain ⟨a, b, rfl, h1, h2, _⟩ := f3 q hq
        obtain ⟨c1, c2, c3⟩ := f4 _ hq w g2
        unfold Beside
        simp only at hlt c1 c2 c3 ⊢
        omega
       ·obtain ⟨a, b, rfl, h1, h2, _⟩ := f3 q hq
        obtain ⟨c1, c2, c3⟩ := f4 _ hq w g2
        unfold Beside
        simp only at hle c1 c2 c3 ⊢
        omega
end Go.Proofs.YtcbaahlahohfmaaGreatDoor
namespace Go.Proofs.YtcbaahlahohfmaaGreatDoor
open Go.RowKit
theorem pairs_le (chars classes : List Int) : ∀ k, (pairsN chars classes k).out.length ≤ k ∧ (pairsN chars classes k).waits.length ≤ k := by
 intro k
 induction k with
 | zero => exact ⟨Nat.le_refl _, Nat.le_refl _⟩
 | succ k ih =>
  rw [pairsN]
  obtain ⟨h1, h2⟩ := ih
  generalize pairsN chars classes k = st at *
  unfold pStep
  split
  ·exact ⟨by omega, by omega⟩
  ·split
   ·exact ⟨by omega, by omega⟩
   ·split
    ·split
     ·exact ⟨by show st.out.length ≤ _; omega, by show st.waits.length ≤ _; omega⟩
     ·exact ⟨by show st.out.length ≤ _; omega, by simp; omega⟩
    ·split
     ·exact ⟨by omega, by omega⟩
     ·rename_i w ws hf
      have hp : (putP st.out ((w : Int), (k : Int))).length = st.out.length + 1 := by
       have := putK_le st.out w
       unfold putP; simp; omega
      have hw : ∀ W : List Nat, ∀ w ws, findW chars (oth (cAt chars k)).1 W = some (w, ws) → ws.length ≤ W.length := by
       intro W
       induction W with
       | nil => intro w ws h; cases h
       | cons v W ih =>
        intro w ws h
        unfold findW at h
        split at h
        ·injection h with h; injection h with h3 h4; subst h4; simp
        ·have := ih w ws h; simp; omega
      have := hw _ w ws hf
      exact ⟨by show (putP st.out _).length ≤ _; omega, by show ws.length ≤ _; omega⟩
def waitL (W : List Nat) : List Int := W.reverse.map fun (w : Nat) => (w : Int)
theorem waitL_length (W : List Nat) : (waitL W).length = W.length := by simp [waitL]
theorem waitL_cons (w : Nat) (W : List Nat) : waitL (w :: W) = waitL W ++ [(w : Int)] := by simp [waitL]
theorem waitL_get (W : List Nat) (j : Nat) (h : j < (waitL W).length) (h' : W.length - 1 - j < W.length) : (waitL W)[j] = (W[W.length - 1 - j] : Nat) := by simp [waitL]
end Go.Proofs.YtcbaahlahohfmaaGreatDoor
namespace Go.Proofs.YtcbaahlahohfmaaGreatDoor
open Go.RowKit
def aheadS (l : List Int) (sos : Int) : Nat → Int
 | 0 => if sos = 1 then 1 else 0
 | k + 1 => if 0 ≤ sdB (cAt l k) then sdB (cAt l k) else aheadS l sos k
theorem sdB_range (k : Int) : sdB k = -1 ∨ sdB k = 0 ∨ sdB k = 1 := by
 unfold sdB
 split
 ·exact .inr (.inl rfl)
 ·split
  ·exact .inr (.inr rfl)
  ·exact .inl rfl
theorem aheadS_range (l : List Int) (sos : Int) : ∀ k, aheadS l sos k = 0 ∨ aheadS l sos k = 1 := by
 intro k
 induction k with
 | zero => unfold aheadS; split <;> simp
 | succ k ih =>
  rw [aheadS]
  split
  ·rename_i hh
   rcases sdB_range (cAt l k) with h | h | h
   ·omega
   ·exact .inl h
   ·exact .inr h
  ·exact ih
def sameS (l : List Int) (e : Int) (p : Int × Int) : Bool := if e = 1 then hasR l (p.1 + 1) p.2 else hasL l (p.1 + 1) p.2
def otherS (l : List Int) (e : Int) (p : Int × Int) : Bool := if e = 1 then hasL l (p.1 + 1) p.2 else hasR l (p.1 + 1) p.2
def sideOf (l : List Int) (e sos : Int) (p : Int × Int) : Option Int :=
 match sameS l e p, otherS l e p with
 | true, _ => some e
 | false, true => some (if aheadS l sos p.1.toNat ≠ e then aheadS l sos p.1.toNat else e)
 | false, false => none
def ofStepB (first : List Int) (e sos : Int) (l : List Int) (p : Int × Int) : List Int := match sideOf l e sos p with
 | none => l
 | some s => turnL (turnL l first p.1.toNat s) first p.2.toNat s
def ofB (chars classes first : List Int) (level sos : Int) : List Int :=
 if chars.length = classes.length ∧ first.length = classes.length then (pairsI chars classes).foldl (ofStepB first (dirL level) sos) classes else classes
theorem dirL_range (k : Int) : dirL k = 0 ∨ dirL k = 1 := by unfold dirL; split <;> simp
theorem sideOf_range {l : List Int} {e sos s : Int} {p : Int × Int} (he : e = 0 ∨ e = 1) (h : sideOf l e sos p = some s) : s = 0 ∨ s = 1 := by
 have ha := aheadS_range l sos p.1.toNat
 unfold sideOf at h
 cases h1 : sameS l e p with
 | true => rw [h1] at h; injection h with h; subst h; exact he
 | false =>
  cases h2 : otherS l e p with
  | true =>
   rw [h1, h2] at h
   injection h with h
   by_cases h3 : aheadS l sos p.1.toNat ≠ e
   ·rw [if_pos h3] at h; subst h; exact ha
   ·rw [if_neg h3] at h; subst h; exact he
  | false => rw [h1, h2] at h; cases h
def Marked (first : List Int) (i k : Nat) : Prop := i ≤ k ∧ k < i + 1 + marksB first i
instance (first : List Int) (i k : Nat) : Decidable (Marked first i k) := inferInstanceAs (Decidable (_ ∧ _))
theorem turnL_get (l first : List Int) (i : Nat) (s : Int) {k : Nat} (h : k < l.length) : (turnL l first i s)[k]'(by rw [turnL_length]; exact h) = if Marked first i k then s else l[k] := by
 unfold turnL
 rw [setR_get _ _ _ _ _ h]
 rfl
theorem ofStepB_length (first : List Int) (e sos : Int) (l : List Int) (p : Int × Int) : (ofStepB first e sos l p).length = l.length := by
 unfold ofStepB
 split
 ·rfl
 ·rw [turnL_length, turnL_length]
theorem ofStepB_get (first : List Int) {e : Int} (he : e = 0 ∨ e = 1) (sos : Int) (l : List Int) (p : Int × Int) {k : Nat} (h : k < l.length) :
 (¬ Marked first p.1.toNat k ∧ ¬ Marked first p.2.toNat k → (ofStepB first e sos l p)[k]'(by rw [ofStepB_length]; exact h) = l[k]) ∧
 ((ofStepB first e sos l p)[k]'(by rw [ofStepB_length]; exact h) = l[k] ∨ (ofStepB first e sos l p)[k]'(by rw [ofStepB_length]; exact h) = 0 ∨ (ofStepB first e sos l p)[k]'(by rw [ofStepB_length]; exact h) = 1) := by
 cases hs : sideOf l e sos p with
 | none =>
  have e1 : ofStepB first e sos l p = l := by rw [ofStepB, hs]
  simp only [e1]
  exact ⟨fun _ => trivial, .inl trivial⟩
 | some s =>
  have e1 : ofStepB first e sos l p = turnL (turnL l first p.1.toNat s) first p.2.toNat s := by rw [ofStepB, hs]
  have hr := sideOf_range he hs
  simp only [e1]
  rw [turnL_get _ _ _ _ (by rw [turnL_length]; exact h), turnL_get _ _ _ _ h]
  refine ⟨fun ⟨h1, h2⟩ => by rw [if_neg h2, if_neg h1], ?_⟩
  split
  ·exact .inr hr
  ·split
   ·exact .inr hr
   ·exact .inl rfl
theorem fold_keeps (first : List Int) {e : Int} (he : e = 0 ∨ e = 1) (sos : Int) : ∀ (P : List (Int × Int)) (l : List Int), (P.foldl (ofStepB first e sos) l).length = l.length ∧
 ∀ (k : Nat) (h : k < l.length) (h' : k < (P.foldl (ofStepB first e sos) l).length),
  ((∀ p ∈ P, ¬ Marked first p.1.toNat k ∧ ¬ Marked first p.2.toNat k) → (P.foldl (ofStepB first e sos) l)[k] = l[k]) ∧
  ((P.foldl (ofStepB first e sos) l)[k] = l[k] ∨ (P.foldl (ofStepB first e sos) l)[k] = 0 ∨ (P.foldl (ofStepB first e sos) l)[k] = 1) := by
 intro P
 induction P with
 | nil => intro l; exact ⟨rfl, fun k h h' => ⟨fun _ => rfl, .inl rfl⟩⟩
 | cons p P ih =>
  intro l
  obtain ⟨i1, i2⟩ := ih (ofStepB first e sos l p)
  rw [ofStepB_length] at i1
  simp only [List.foldl_cons]
  refine ⟨i1, fun k h h' => ?_⟩
  obtain ⟨j1, j2⟩ := i2 k (by rw [ofStepB_length]; exact h) h'
  obtain ⟨s1, s2⟩ := ofStepB_get first he sos l p h
  refine ⟨fun hm => ?_, ?_⟩
  ·rw [j1 (fun q hq => hm q (List.mem_cons_of_mem _ hq))]
   exact s1 (hm p List.mem_cons_self)
  ·rcases j2 with j2 | j2
   ·rcases s2 with s2 | s2
    ·exact .inl (j2.trans s2)
    ·exact .inr (by rw [j2]; exact s2)
   ·exact .inr j2
theorem ofB_keeps (chars classes first : List Int) (level sos : Int) : (ofB chars classes first level sos).length = classes.length ∧
 ∀ (k : Nat) (h : k < classes.length) (h' : k < (ofB chars classes first level sos).length),
  ((∀ p ∈ pairsI chars classes, ¬ Marked first p.1.toNat k ∧ ¬ Marked first p.2.toNat k) → (ofB chars classes first level sos)[k] = classes[k]) ∧
  ((ofB chars classes first level sos)[k] = classes[k] ∨ (ofB chars classes first level sos)[k] = 0 ∨ (ofB chars classes first level sos)[k] = 1) := by
 unfold ofB
 split
 ·exact fold_keeps first (dirL_range level) sos _ classes
 ·exact ⟨rfl, fun k h h' => ⟨fun _ => rfl, .inl rfl⟩⟩
end Go.Proofs.YtcbaahlahohfmaaGreatDoor
namespace Go.Proofs.YtcbaahlahohfmaaGreatDoor
open Go.RowKit
theorem getD_at {l : List Int} {k : Nat} (h : k < l.length) : l.getD k 0 = l[k] := by rw [List.getD_eq_getElem?_getD, List.getElem?_eq_getElem h, Option.getD_some]
def mixL (l l' : List Int) (k : Nat) : List Int := l'.take k ++ l.drop k
theorem mixL_length {l l' : List Int} (hl : l'.length = l.length) {k : Nat} (hk : k ≤ l.length) : (mixL l l' k).length = l.length := by
 simp [mixL]; omega
theorem mixL_get {pre l l' post : List Int} (hl : l'.length = l.length) {k : Nat} (hk : k < l.length) : (pre ++ mixL l l' k ++ post)[pre.length + k]? = some l[k] := by
 have h1 : (l'.take k).length = k := by rw [List.length_take]; omega
 rw [List.getElem?_append_left (by rw [List.length_append, mixL_length hl (by omega)]; omega), List.getElem?_append_right (by omega), Nat.add_sub_cancel_left, mixL,
  List.getElem?_append_right (by omega), h1, Nat.sub_self, List.getElem?_drop, Nat.add_zero, List.getElem?_eq_getElem hk]
theorem mixL_set {pre l l' post : List Int} (hl : l'.length = l.length) {k : Nat} (hk : k < l.length) : (pre ++ mixL l l' k ++ post).set (pre.length + k) (l'.getD k 0) = pre ++ mixL l l' (k + 1) ++ post := by
 have h1 : (l'.take k).length = k := by rw [List.length_take]; omega
 have h2 : l'.getD k 0 = l'[k]'(by omega) := by rw [List.getD_eq_getElem?_getD, List.getElem?_eq_getElem (by omega), Option.getD_some]
 rw [List.set_append_left _ _ (by rw [List.length_append, mixL_length hl (by omega)]; omega), List.set_append_right _ _ (by omega), Nat.add_sub_cancel_left, mixL,
  List.set_append_right _ _ (by omega), h1, Nat.sub_self, mixL, take_snoc l' k (by omega), List.drop_eq_getElem_cons hk, List.set_cons_zero, h2]
 simp only [List.append_assoc, List.singleton_append]
theorem mixL_all {l l' : List Int} (hl : l'.length = l.length) (k : Nat) : (mixL l l' k).length = l.length := by
 simp [mixL]; omega
theorem mixL_zero (l l' : List Int) : mixL l l' 0 = l := by simp [mixL]
theorem mixL_end {l l' : List Int} (hl : l'.length = l.length) {k : Nat} (hk : l.length ≤ k) : mixL l l' k = l' := by
 rw [mixL, List.take_of_length_le (by omega), List.drop_of_length_le hk, List.append_nil]
theorem mixL_skip {l l' : List Int} (hl : l'.length = l.length) {a b : Nat} (hab : a ≤ b) (hb : b ≤ l.length) (h : ∀ i, a ≤ i → i < b → l'[i]? = l[i]?) : mixL l l' a = mixL l l' b := by
 apply List.ext_getElem?
 intro i
 have e1 : (l'.take a).length = a := by rw [List.length_take]; omega
 have e2 : (l'.take b).length = b := by rw [List.length_take]; omega
 rw [mixL, mixL]
 by_cases h1 : i < a
 ·rw [List.getElem?_append_left (by omega), List.getElem?_append_left (by omega), List.getElem?_take_of_lt h1, List.getElem?_take_of_lt (by omega)]
 ·rw [List.getElem?_append_right (by omega), e1, List.getElem?_drop, show a + (i - a) = i by omega]
  by_cases h2 : i < b
  ·rw [List.getElem?_append_left (by omega), List.getElem?_take_of_lt h2, h i (by omega) h2]
  ·rw [List.getElem?_append_right (by omega), e2, List.getElem?_drop, show b + (i - b) = i by omega]
end Go.Proofs.YtcbaahlahohfmaaGreatDoor
