/- Shared texts, shaken for one claim. -/
import Derived.Maps.RangeWalk
import Derived.Maps.Ext
import Derived.OwnWalk
import Derived.Test.YtcbaahlahohfmaaGreatDoorZA1
import Derived.Test.YtcbaahlahohfmaaGreatDoorZA7
import Derived.Test.YtcbaahlahohfmaaGreatDoorZA14
import Derived.Test.YtcbaahlahohfmaaGreatDoorZA17
namespace Go.Proofs.YtcbaahlahohfmaaGreatDoor
open Go.RowKit Go.Maps
theorem keyI : Keyed Tryz.prog 3 := int_keyed Tryz.underlying3
def Reads (D : DataW Unit) (M : Int → Option Int) : Prop :=
 IsMap D ∧ ∀ x, match M x with
  | some y => ∀ z, D.atKey (.int .i64 x) z = .lit (.int .i64 y)
  | none => has D (.int .i64 x) = false
theorem reads_none : Reads (.map []) fun _ => none := ⟨⟨[], rfl⟩, fun _ => rfl⟩
theorem reads_put {D : DataW Unit} {M : Int → Option Int} (h : Reads D M) (k v : Int) : Reads (D.put (.int .i64 k) (.lit (.int .i64 v))) (fun x => if x = k then some v else M x) := by
 refine ⟨h.1.put _ _, fun x => ?_⟩
 have hx := h.2 x
 by_cases e : x = k
 ·subst e
  simp only [if_true]
  exact fun z => atKey_put_same h.1 (k := .int .i64 x) trivial _ z
 ·have ne : (Lit.int .i64 x) ≠ .int .i64 k := fun h => e (by injection h)
  simp only [if_neg e]
  cases hM : M x with
  | none => rw [hM] at hx; exact (has_put_other ne _).trans hx
  | some y => rw [hM] at hx; exact fun z => (atKey_put_other ne _ z).trans (hx z)
theorem Reads.has {D : DataW Unit} {M : Int → Option Int} (h : Reads D M) {x y : Int} (e : M x = some y) : Maps.has D (.int .i64 x) = true := by
 have := h.2 x
 rw [e] at this
 exact has_true_of_atKey this
theorem Reads.eq {D : DataW Unit} {M : Int → Option Int} (h : Reads D M) {x y : Int} (e : ∀ z, D.atKey (.int .i64 x) z = .lit (.int .i64 y)) : M x = some y := by
 have hx := h.2 x
 cases hM : M x with
 | none => rw [hM] at hx; exact absurd ((has_true_of_atKey e).symm.trans hx) (by simp)
 | some c =>
  rw [hM] at hx
  have := (hx .nil).symm.trans (e .nil)
  injection this with this
  injection this with _ this
  rw [this]
def lkp : List (Int × Int) → Int → Option Int
 | [], _ => none
 | (a, b) :: r, x => if x = a then some b else lkp r x
theorem lkp_mem : ∀ {l : List (Int × Int)} {x y : Int}, lkp l x = some y → (x, y) ∈ l
 | (a, b) :: r, x, y, h => by
  unfold lkp at h
  split at h
  ·rename_i e; subst e; injection h with h; subst h; simp
  ·exact List.mem_cons_of_mem _ (lkp_mem h)
def MapAt (w : World) (b n : Nat) (M : Int → Option Int) : Prop := ∃ D : DataW Unit, w.ownsMap Tryz.prog 3 (plainElem Tryz.prog 3) b n D ∧ Reads D M
section
variable {w w' : World} {b n : Nat} {M M' : Int → Option Int}
theorem MapAt.lt (h : MapAt w b n M) : b < w.heap.size := h.elim fun _ h => h.1.lt
theorem MapAt.kept {row : Option Nat} (h : MapAt w b n M) (hg : w.grownBy w' row) (hb : some b ≠ row) : MapAt w' b n M := h.elim fun D h => ⟨D, h.1.kept hg hb, h.2⟩
theorem MapAt.alloc (h : MapAt w b n M) (o : Obj) : MapAt (w.alloc o) b n M := h.elim fun D h => ⟨D, h.1.alloc o, h.2⟩
theorem MapAt.below (h : MapAt w b n M) {B : Nat} (hb : Below B w w') (_hB : b < B) (hB' : w.heap.size ≤ B) : MapAt w' b n M := by
 refine h.kept (row := none) ⟨hb.os, hb.tape, hb.output, hb.size, fun k hk _ => hb.block k (by omega)⟩ (by simp)
theorem mapAt_made (w : World) : MapAt (w.alloc (.map #[] 0)) w.heap.size 0 fun _ => none := ⟨_, World.ownsMap_made _ _ _ _, reads_none⟩
variable {ops : Array Oper} {rest : List Oper} {o : Oper} {a : Act} {Q : Exit → Act → World → Prop}
theorem insert_at (hg : o.guard = none) {t : TypeId} {m x v : Operand} (hop : o.op = Op.insert t m x v) (ht : Tryz.prog.underlying t = some (.map 3 3))
 (hm : a.eval m = .map (some b)) (h : MapAt w b n M) (hn : n < maxLen) {k y : Int} (hx : a.eval x = .int .i64 k) (hv : a.eval v = .int .i64 y) (hk : (Lit.int .i64 k).wf = true) (hy : (Lit.int .i64 y).wf = true)
 (hK : ∀ w', MapAt w' b (n + 1) (fun z => if z = k then some y else M z) → w.grownBy w' (some b) → wpList Tryz.prog ops Q rest (a.put o.dst undef) w') :
 wpList Tryz.prog ops Q (o :: rest) a w := by
 obtain ⟨D, hown, hR⟩ := h
 refine wpList_plain hg fun K' hK' => ?_
 obtain ⟨w', hrun, r1, r2⟩ := hown.update keyI ht hn (keyOf_int_mk Tryz.underlying3 hk) (plainElem_int Tryz.underlying3 hy)
 unfold Oper.wp
 simp [execOp, hop, hm, hx, hv, hrun, Result.andThen]
 exact hK' _ _ (hK w' ⟨_, r1, reads_put hR _ _⟩ r2)
theorem update_at (hg : o.guard = none) {t : TypeId} {m x v : Operand} (hop : o.op = Op.mapUpdate t m x v) (ht : Tryz.prog.underlying t = some (.map 3 3))
 (hm : a.eval m = .map (some b)) (h : MapAt w b n M) (hn : n < maxLen) {k y : Int} (hx : a.eval x = .int .i64 k) (hv : a.eval v = .int .i64 y) (hk : (Lit.int .i64 k).wf = true) (hy : (Lit.int .i64 y).wf = true)
 (hK : ∀ w', MapAt w' b (n + 1) (fun z => if z = k then some y else M z) → w.grownBy w' (some b) → wpList Tryz.prog ops Q rest (a.put o.dst undef) w') :
 wpList Tryz.prog ops Q (o :: rest) a w := by
 obtain ⟨D, hown, hR⟩ := h
 refine wpList_plain hg fun K' hK' => ?_
 obtain ⟨w', hrun, r1, r2⟩ := hown.update keyI ht hn (keyOf_int_mk Tryz.underlying3 hk) (plainElem_int Tryz.underlying3 hy)
 unfold Oper.wp
 simp [execOp, hop, hm, hx, hv, hrun, Result.andThen]
 exact hK' _ _ (hK w' ⟨_, r1, reads_put hR _ _⟩ r2)
def Ranging (w : World) (b r n : Nat) (M : Int → Option Int) (left : Int → Bool) (cnt : Nat) : Prop :=
 ∃ (D : DataW Unit) (lf : Lit → Bool), w.ranges Tryz.prog 3 (plainElem Tryz.prog 3) b r n D lf cnt ∧ Reads D M ∧ ∀ x, left x = lf (.int .i64 x)
theorem Ranging.left_eq {r cnt : Nat} {left : Int → Bool} (h : Ranging w b r n M left cnt) : w.rangeLeft b r = cnt := h.elim fun _ ⟨_, h, _⟩ => h.left_eq
theorem Ranging.kept {r cnt : Nat} {left : Int → Bool} {row : Option Nat} (h : Ranging w b r n M left cnt) (hg : w.grownBy w' row) (hb : some b ≠ row) (hr : some r ≠ row) : Ranging w' b r n M left cnt := by
 obtain ⟨D, lf, h1, h2, h3⟩ := h
 exact ⟨D, lf, h1.kept hg hb hr, h2, h3⟩
theorem Ranging.map {r cnt : Nat} {left : Int → Bool} (h : Ranging w b r n M left cnt) : MapAt w b n M := h.elim fun D ⟨_, h, hR, _⟩ => ⟨D, h.owns, hR⟩
theorem range_at (hg : o.guard = none) {m : Operand} {t : TypeId} (hop : o.op = Op.range t m) (ht : Tryz.prog.underlying t = some (.map 3 3)) (hm : a.eval m = .map (some b)) (h : MapAt w b n M)
 (hK : ∀ w' left cnt, Ranging w' b w.heap.size n M left cnt → (∀ x y, M x = some y → left x = true) → cnt ≤ n → w.grownBy w' none → w'.heap.size = w.heap.size + 1 → wpList Tryz.prog ops Q rest (a.put o.dst (.pointer (some ⟨w.heap.size, 0, none⟩))) w') :
 wpList Tryz.prog ops Q (o :: rest) a w := by
 obtain ⟨D, hown, hR⟩ := h
 refine wpList_range_own w hg m t hop 3 3 keyI ht _ b n D hm hown ?_
 intro w' h1 h2 h3
 exact hK w' (fun x => Maps.has D (.int .i64 x)) _ ⟨D, _, h1, hR, fun _ => rfl⟩ (fun x y e => hR.has e) hown.size_le h2 h3
theorem next_at {r cnt : Nat} {left : Int → Bool} (hg : o.guard = none) {it : Operand} (hop : o.op = Op.next it false) (hit : a.eval it = .pointer (some ⟨r, 0, none⟩)) (h : Ranging w b r n M left cnt)
 (hDone : (∀ x, left x = false) → cnt = 0 → wpList Tryz.prog ops Q rest (a.put o.dst (.tuple #[.bool false])) w)
 (hMore : ∀ (x y : Int) (w' : World) (left' : Int → Bool) (cnt' : Nat), (Lit.int .i64 x).wf = true → (Lit.int .i64 y).wf = true → M x = some y → left x = true → left' x = false → (∀ z, z ≠ x → left' z = left z) → Ranging w' b r n M left' cnt' → cnt' < cnt →
  w.grownBy w' (some r) → w'.heap.size = w.heap.size → (Instr.entry (.pointer (some ⟨r, 0, none⟩))).run Tryz.prog w' = .ok (.tuple #[.int .i64 x, .int .i64 y]) w' → wpList Tryz.prog ops Q rest (a.put o.dst (.tuple #[.bool true, .int .i64 x, .int .i64 y])) w') :
 wpList Tryz.prog ops Q (o :: rest) a w := by
 obtain ⟨D, lf, h1, hR, hl⟩ := h
 refine wpList_next_ranges_ii w hg it hop 3 3 .i64 .i64 keyI Tryz.underlying3 Tryz.underlying3 b r n D lf cnt hit h1 (fun h0 h => hDone (fun x => (hl x).trans (h _)) h0) ?_
 intro x c w' cnt' hwx hwc hlx hat h2 hlt hgr hsz hen
 refine hMore x c w' (fun z => lf (.int .i64 z) && !(Lit.int .i64 z).sameKey (.int .i64 x)) cnt' hwx hwc (hR.eq hat) ((hl x).trans hlx) ?_ ?_ ⟨D, _, h2, hR, fun _ => rfl⟩ hlt hgr hsz hen
 ·rw [WideAt.sameKey_self (a := .int .i64 x) trivial]; simp
 ·intro z hz
  rw [Maps.sameKey_ne (fun e => hz (by injection e)), hl z]
  simp
end
end Go.Proofs.YtcbaahlahohfmaaGreatDoor
namespace Go.Proofs.YtcbaahlahohfmaaGreatDoor
open Go.RowKit Go.Maps
def othL : List (Int × Int) → Int → Int × Bool × Bool
 | [], _ => (0, false, false)
 | (a, b) :: r, c => if c = a then (b, true, true) else if c = b then (a, false, true) else othL r c
theorem othL_none : ∀ (l : List (Int × Int)) (c : Int), (∀ p ∈ l, c ≠ p.1 ∧ c ≠ p.2) → othL l c = (0, false, false)
 | [], _, _ => rfl
 | (a, b) :: r, c, h => by
  have h0 := h (a, b) (by simp)
  simp only [othL, if_neg h0.1, if_neg h0.2]
  exact othL_none r c fun p hp => h p (by simp [hp])
def brs : List (Int × Int) := [(40, 41), (91, 93), (123, 125), (9001, 9002), (12296, 12297), (12298, 12299), (12300, 12301), (12302, 12303), (12304, 12305)]
def sgn : List (Int × Int) := [(60, 62), (171, 187), (8804, 8805), (8810, 8811)]
def mrs : List (Int × Int) := brs ++ sgn
def Apart2 (l : List (Int × Int)) : Prop := ∀ p ∈ l, othL l p.1 = (p.2, true, true) ∧ othL l p.2 = (p.1, false, true)
theorem brs_apart : Apart2 brs := by unfold Apart2; decide +kernel
def HoldsL (M : Int → Option Int) (l : List (Int × Int)) : Prop := (∀ x y, M x = some y → (x, y) ∈ l) ∧ ∀ p ∈ l, M p.1 = some p.2
def brM : Int → Option Int := lkp brs.reverse
theorem brM_holds : HoldsL brM brs := ⟨fun x y h => List.mem_reverse.1 (lkp_mem h), by unfold brM; decide +kernel⟩
theorem ret_3 {a b : Int × Bool × Bool} (h : a = b) : Ending.returned (.tuple #[.int .i64 a.1, .bool a.2.1, .bool a.2.2]) = .returned (.tuple #[.int .i64 b.1, .bool b.2.1, .bool b.2.2]) := by rw [h]
set_option maxHeartbeats 1000000 in
theorem otherOf_any (l : List (Int × Int)) (hl : Apart2 l) (M : Int → Option Int) (hM : HoldsL M l) (b n : Nat) (c : Int) (w : World) (h : MapAt w b n M) :
 Calls Tryz.prog 176 #[.map (some b), .int .i64 c] w fun e w' => e = .returned (.tuple #[.int .i64 (othL l c).1, .bool (othL l c).2.1, .bool (othL l c).2.2]) ∧ Below w.heap.size w w' := by
 have H := Lib.hid h
 have HL := Lib.hid hl
 have HM := Lib.hid hM
 have hlt := h.lt
 clear h hl hM
 go_enter Tryz.func176, Tryz.ntmps176
 go_wp2_with (first
  | (at_range; refine range_at rfl rfl Tryz.underlying65 rfl H.out ?_; intro w0 left0 cnt0 hr0 hs0 _ hg0 hz0)
  | go_in)
 go_frame
 have HR0 := Lib.hid hr0
 have HS0 := Lib.hid hs0
 have HZ0 := Lib.hid hz0
 have hb0 := (Below.refl w.heap.size w).grown hg0 (Nat.le_refl _) (fun k hk => by cases hk)
 have HB0 := Lib.hid hb0
 clear hr0 hs0 hg0 hb0 hz0
 go_loopw [7] (fun _ wr => ∃ (left : Int → Bool) (cnt : Nat), Ranging wr b w.heap.size n M left cnt ∧ Hid (∀ x y, M x = some y → left x = false → c ≠ x ∧ c ≠ y) ∧ Below w.heap.size w wr)
  (fun _ wr => wr.rangeLeft b w.heap.size)
 case atStart => exact ⟨_, _, HR0.out, fun x y e h => absurd ((HS0.out x y e).symm.trans h) (by simp), HB0.out⟩
 case round =>
  obtain ⟨left, cnt, hrg, HN, hb⟩ := hrel
  have HR := Lib.hid hrg
  have HB := Lib.hid hb
  have hsz := hb.size
  clear hrg hb
  go_wp2_with (first
   | (at_next; refine next_at rfl rfl rfl HR.out ?_ ?_)
   | go_in)
  ·intro hl0 _
   have HL0 := Lib.hid hl0
   clear hl0
   go_wp2
   go_ret3
   refine ⟨?_, HB.out⟩
   refine ret_3 (a := (0, false, false)) (othL_none l c fun p hp => ?_).symm
   exact HN.out p.1 p.2 (HM.out.2 p hp) (HL0.out _)
  ·intro x y w1 left1 cnt1 hwx hwy hxy hlx hlx1 hlo hrg1 hlt1 hg1 hs1 hen
   have HXY := Lib.hid hxy
   have HX1 := Lib.hid hlx1
   have HLO := Lib.hid hlo
   have HR1 := Lib.hid hrg1
   have HB1 := Lib.hid (HB.out.grown hg1 hsz (fun k hk => by cases hk; exact Nat.le_refl _))
   clear hxy hlx hlx1 hlo hrg1 hg1 hs1
   by_cases e1 : c = x
   ·have hd1 : (c == x) = true := by simp [e1]
    have E1 := Lib.hid e1
    clear e1
    go_wp2
    go_ret3
    refine ⟨?_, HB1.out⟩
    have hm := HM.out.1 x y HXY.out
    exact ret_3 (a := (y, true, true)) (by rw [E1.out]; exact (HL.out _ hm).1.symm)
   ·have hd1 : (c == x) = false := by simp [e1]
    by_cases e2 : c = y
    ·have hd2 : (c == y) = true := by simp [e2]
     have E2 := Lib.hid e2
     clear e1 e2
     go_wp2
     go_ret3
     refine ⟨?_, HB1.out⟩
     have hm := HM.out.1 x y HXY.out
     exact ret_3 (a := (x, false, true)) (by rw [E2.out]; exact (HL.out _ hm).2.symm)
    ·have hd2 : (c == y) = false := by simp [e2]
     have E1 := Lib.hid e1
     have E2 := Lib.hid e2
     clear e1 e2
     go_wp2
     go_roundw
     case rel =>
      refine ⟨left1, cnt1, HR1.out, ?_, HB1.out⟩
      intro x' y' hm' hl'
      by_cases e : x' = x
      ·subst e
       have : y' = y := Option.some.inj (hm'.symm.trans HXY.out)
       subst this
       exact ⟨E1.out, E2.out⟩
      ·exact HN.out x' y' hm' (by rw [← HLO.out x' e]; exact hl')
     case measure => rw [HR1.out.left_eq, HR.out.left_eq]; exact hlt1
theorem ins_step {w w' w0 : World} {b : Nat} (h : Below w0.heap.size w0 w) (hg : w.grownBy w' (some b)) (hb : w0.heap.size ≤ b) : Below w0.heap.size w0 w' := h.grown hg h.size (fun k hk => by cases hk; exact hb)
set_option maxHeartbeats 1000000 in
theorem brackets_any (w : World) : Calls Tryz.prog 177 #[] w fun e w' => e = .returned (.map (some w.heap.size)) ∧ MapAt w' w.heap.size 9 brM ∧ Below w.heap.size w w' := by
 have hmm := @run_makeMap Tryz.prog
 have HM := Lib.hid (mapAt_made w)
 have HB := Lib.hid (below_alloc w (.map #[] 0))
 go_enter Tryz.func177, Tryz.ntmps177
 go_wp2_with (refine insert_at rfl rfl Tryz.underlying65 rfl HM.out (by decide) rfl rfl (by decide) (by decide) ?_; intro w1 h1 g1; replace HM := Lib.hid h1; replace HB := Lib.hid (ins_step HB.out g1 (Nat.le_refl _)); clear h1 g1; go_frame)
 go_ret
 exact ⟨rfl, HM.out, HB.out⟩
end Go.Proofs.YtcbaahlahohfmaaGreatDoor
namespace Go.Proofs.YtcbaahlahohfmaaGreatDoor
open Go.RowKit Go.Maps
def oth (c : Int) : Int × Bool × Bool := othL brs c
theorem other_any (c : Int) (w : World) : Calls Tryz.prog 168 #[.int .i64 c] w fun e w' => e = .returned (.tuple #[.int .i64 (oth c).1, .bool (oth c).2.1, .bool (oth c).2.2]) ∧ Below w.heap.size w w' := by
 go_enter Tryz.func168, Tryz.ntmps168
 go_wp2_with fail
 refine (brackets_any w).mono ?_
 rintro e w1 ⟨rfl, h1, b1⟩
 have H1 := Lib.hid h1
 have B1 := Lib.hid b1
 clear h1 b1
 go_wp2_with fail
 refine (otherOf_any brs brs_apart brM brM_holds _ _ c w1 H1.out).mono ?_
 rintro e w2 ⟨rfl, b2⟩
 have B2 := Lib.hid (below_then B1.out b2)
 clear b2
 go_wp2
 go_ret3
 exact ⟨rfl, B2.out⟩
def asB (c : Int) : Int := if c = 9001 then 12296 else if c = 9002 then 12297 else c
theorem asB_any (c : Int) (w : World) : Calls Tryz.prog 179 #[.int .i64 c] w fun e w' => e = .returned (.int .i64 (asB c)) ∧ w = w' := by
 by_cases h1 : c = 9001
 ·subst h1
  go_enter Tryz.func179, Tryz.ntmps179
  go_wp2
  go_ret
  exact ⟨rfl, rfl⟩
 have d1 : (c == 9001) = false := by simp [h1]
 by_cases h2 : c = 9002
 ·subst h2
  go_enter Tryz.func179, Tryz.ntmps179
  go_wp2
  go_ret
  exact ⟨rfl, rfl⟩
 have d2 : (c == 9002) = false := by simp [h2]
 have H1 := Lib.hid h1
 have H2 := Lib.hid h2
 clear h1 h2
 go_enter Tryz.func179, Tryz.ntmps179
 go_wp2
 go_ret
 exact ⟨ret_int (by rw [asB, if_neg H1.out, if_neg H2.out]), rfl⟩
theorem rasB_any (c : Int) (w : World) : Calls Tryz.prog 158 #[.int .i64 c] w fun e w' => e = .returned (.int .i64 (asB c)) ∧ w = w' := by
 by_cases h1 : c = 9001
 ·subst h1
  go_enter Tryz.func158, Tryz.ntmps158
  go_wp2
  go_ret
  exact ⟨rfl, rfl⟩
 have d1 : (c == 9001) = false := by simp [h1]
 by_cases h2 : c = 9002
 ·subst h2
  go_enter Tryz.func158, Tryz.ntmps158
  go_wp2
  go_ret
  exact ⟨rfl, rfl⟩
 have d2 : (c == 9002) = false := by simp [h2]
 have H1 := Lib.hid h1
 have H2 := Lib.hid h2
 clear h1 h2
 go_enter Tryz.func158, Tryz.ntmps158
 go_wp2
 go_ret
 exact ⟨ret_int (by rw [asB, if_neg H1.out, if_neg H2.out]), rfl⟩
def isB (c : Int) : Bool := (oth c).2.2
def sameB (a b : Int) : Bool := isB a && (asB a == asB b)
set_option maxHeartbeats 1000000 in
theorem same_any (a b : Int) (w : World) : Calls Tryz.prog 170 #[.int .i64 a, .int .i64 b] w fun e w' => e = .returned (.bool (sameB a b)) ∧ Below w.heap.size w w' := by
 obtain ⟨o, ho⟩ : ∃ o, oth a = o := ⟨_, rfl⟩
 obtain ⟨x, p, k⟩ := o
 have HO := Lib.hid ho
 clear ho
 obtain ⟨u, hu⟩ : ∃ u, asB a = u := ⟨_, rfl⟩
 obtain ⟨v, hv⟩ : ∃ v, asB b = v := ⟨_, rfl⟩
 have HU := Lib.hid hu
 have HV := Lib.hid hv
 clear hu hv
 cases k with
 | false =>
  go_enter Tryz.func170, Tryz.ntmps170
  go_wp2_with fail
  refine (other_any a w).mono ?_
  rintro e w1 ⟨rfl, b1⟩
  rw [HO.out]
  have B1 := Lib.hid b1
  clear b1
  go_wp2
  go_ret
  exact ⟨ret_bool (by rw [sameB, isB, HO.out]; rfl), B1.out⟩
 | true =>
  go_enter Tryz.func170, Tryz.ntmps170
  go_wp2_with fail
  refine (other_any a w).mono ?_
  rintro e w1 ⟨rfl, b1⟩
  rw [HO.out]
  have B1 := Lib.hid b1
  clear b1
  go_wp2_with fail
  refine (asB_any a _).mono ?_
  rintro e w2 ⟨rfl, rfl⟩
  rw [HU.out]
  go_wp2_with fail
  refine (asB_any b _).mono ?_
  rintro e w2 ⟨rfl, rfl⟩
  rw [HV.out]
  go_wp2
  go_ret
  exact ⟨ret_bool (by rw [sameB, isB, HO.out, HU.out, HV.out]; rfl), B1.out⟩
def othM (c : Int) : Int × Bool × Bool := othL mrs c
def mir (c : Int) : Int := if (othM c).2.2 then (othM c).1 else c
end Go.Proofs.YtcbaahlahohfmaaGreatDoor
namespace Go.Proofs.YtcbaahlahohfmaaGreatDoor
open Go.RowKit Go.Maps
def flat : List (Int × Int) → List Int
 | [] => []
 | (a, b) :: r => a :: b :: flat r
theorem flat_at : ∀ (l : List (Int × Int)) (j : Nat) (h : j < l.length), (flat l)[2 * j]? = some l[j].1 ∧ (flat l)[2 * j + 1]? = some l[j].2
 | (a, b) :: r, 0, _ => ⟨rfl, rfl⟩
 | (a, b) :: r, j + 1, h => by
  have := flat_at r j (by simpa using h)
  rw [show 2 * (j + 1) = 2 * j + 1 + 1 by omega]
  simpa [flat] using this
theorem othL_drop (l : List (Int × Int)) (j : Nat) (h : j < l.length) (c : Int) : othL (l.drop j) c = if c = l[j].1 then (l[j].2, true, true) else if c = l[j].2 then (l[j].1, false, true) else othL (l.drop (j + 1)) c := by
 rw [List.drop_eq_getElem_cons h]
 rfl
theorem rbrackets_any (w : World) : Calls Tryz.prog 157 #[] w (Rowed w w.heap.size 3 (ints .i64 (flat brs))) := by
 go_enter Tryz.func157, Tryz.ntmps157
 go_wp2
 go_ret
 exact rowed_ret (Own.ofLit (w := w) (B := w.heap.size) (e := 3) _ (Nat.le_refl _) (by simp [maxLen])) (below_alloc _ _) (by simp [ints, flat, brs])
def Stands (l : List (Int × Int)) (c : Int) (k : Nat) : Prop := ∃ j, j ≤ l.length ∧ k = 2 * j ∧ othL (l.drop j) c = othL l c
theorem Stands.step {l : List (Int × Int)} {c : Int} {k : Nat} (h : Stands l c k) (hk : k < 2 * l.length) :
 ∃ a b, (flat l)[k]? = some a ∧ (flat l)[k + 1]? = some b ∧ k + 2 ≤ 2 * l.length ∧ othL l c = if c = a then (b, true, true) else if c = b then (a, false, true) else othL (l.drop (k / 2 + 1)) c := by
 obtain ⟨j, _, rfl, hd⟩ := h
 have hj : j < l.length := by omega
 obtain ⟨f1, f2⟩ := flat_at l j hj
 refine ⟨_, _, f1, f2, by omega, ?_⟩
 rw [← hd, othL_drop l j hj c, show 2 * j / 2 + 1 = j + 1 by omega]
theorem Stands.next {l : List (Int × Int)} {c a b : Int} {k : Nat} (h : Stands l c k) (hk : k < 2 * l.length) (e : othL l c = if c = a then (b, true, true) else if c = b then (a, false, true) else othL (l.drop (k / 2 + 1)) c) (h1 : c ≠ a) (h2 : c ≠ b) : Stands l c (k + 2) := by
 obtain ⟨j, _, rfl, hd⟩ := h
 rw [if_neg h1, if_neg h2, show 2 * j / 2 + 1 = j + 1 by omega] at e
 exact ⟨j + 1, by omega, by omega, e.symm⟩
theorem Stands.done {l : List (Int × Int)} {c : Int} {k : Nat} (h : Stands l c k) (hk : ¬ k < 2 * l.length) : othL l c = (0, false, false) := by
 obtain ⟨j, hj, rfl, hd⟩ := h
 rw [← hd, List.drop_of_length_le (by omega)]
 rfl
theorem cells_of {w : World} {B : Nat} {A : Option Addr} {l : List Int} (h : Lies w B A (ints .i64 l)) {i : Nat} {x y : Int} (e : l[i]? = some x) (e' : l[i + 1]? = some y) :
 ∃ b off, A = some ⟨b, off, none⟩ ∧ b < B ∧ w.cell? ⟨b, off + i, none⟩ = some (.int .i64 x) ∧ w.cell? ⟨b, off + (i + 1), none⟩ = some (.int .i64 y) := by
 obtain ⟨hi, rfl⟩ := List.getElem?_eq_some_iff.1 e
 obtain ⟨hi', rfl⟩ := List.getElem?_eq_some_iff.1 e'
 obtain ⟨b, off, hA, hb, hc⟩ := h.plainInts (by omega)
 exact ⟨b, off, hA, hb, hc i hi, hc (i + 1) hi'⟩
set_option maxRecDepth 20000 in
set_option maxHeartbeats 1000000 in
theorem rother_any (c : Int) (w : World) : Calls Tryz.prog 118 #[.int .i64 c] w fun e w' => e = .returned (.tuple #[.int .i64 (oth c).1, .bool (oth c).2.1, .bool (oth c).2.2]) ∧ Below w.heap.size w w' := by
 go_enter Tryz.func118, Tryz.ntmps118
 go_wp2_with fail
 refine (rbrackets_any w).mono ?_
 rintro e w1 ⟨v1, rfl, o1, b1⟩
 obtain ⟨A1, c1, rfl, l1, _, _⟩ := o1.form
 have L1 := Lib.hid l1
 have B1 := Lib.hid b1
 have hlen : (ints .i64 (flat brs)).length = 18 := by decide
 rw [hlen]
 clear o1 l1 b1 hlen
 go_wp2
 go_loopw [6] (fun i wr => ∃ (k : Nat), k ≤ 18 ∧ i = .int .i64 k ∧ Stands brs c k ∧ wr = w1) (fun i _ => 18 - (intOf i).toNat)
 case atStart => exact ⟨0, by omega, rfl, ⟨0, by decide, rfl, rfl⟩, rfl⟩
 case round =>
  obtain ⟨k, hk, rfl, hst, rfl⟩ := hrel
  have HST := Lib.hid hst
  clear hst
  by_cases hlt : k < 18
  ·obtain ⟨a, b, f1, f2, hk2, hs⟩ := HST.out.step hlt
   obtain ⟨blk, off, rfl, _, hc1, hc2⟩ := cells_of L1.out f1 f2
   have HS := Lib.hid hs
   have hk3 : k + 2 ≤ 18 := hk2
   have b0 : (0 : Int) ≤ (k : Int) := by omega
   have b1 : (k : Int) < 18 := by omega
   have b2 : (k : Int) + 1 < 18 := by omega
   clear f1 f2 hs hk2
   by_cases e1 : c = a
   ·have hd : (a == c) = true := by simp [e1]
    have E1 := Lib.hid e1
    clear e1
    go_wp2
    go_ret3
    exact ⟨ret_3 (a := (b, true, true)) (by rw [oth, HS.out, if_pos E1.out]), B1.out⟩
   ·have hd : (a == c) = false := by simp [Ne.symm e1]
    by_cases e2 : c = b
    ·have hd2 : (b == c) = true := by simp [e2]
     have E1 := Lib.hid e1
     have E2 := Lib.hid e2
     clear e1 e2
     go_wp2
     go_ret3
     exact ⟨ret_3 (a := (a, false, true)) (by rw [oth, HS.out, if_neg E1.out, if_pos E2.out]), B1.out⟩
    ·have hd2 : (b == c) = false := by simp [Ne.symm e2]
     have E1 := Lib.hid e1
     have E2 := Lib.hid e2
     clear e1 e2
     go_wp2
     go_roundw
     case rel => exact ⟨k + 2, hk3, by go_num, HST.out.next hlt HS.out E1.out E2.out, by first | rfl | trivial⟩
     case measure => simp [intOf]; omega
  ·go_wp2
   go_ret3
   exact ⟨ret_3 (a := (0, false, false)) (HST.out.done hlt).symm, B1.out⟩
set_option maxRecDepth 20000 in
set_option maxHeartbeats 1000000 in
theorem rsame_any (a b : Int) (w : World) : Calls Tryz.prog 119 #[.int .i64 a, .int .i64 b] w fun e w' => e = .returned (.bool (isB a && isB b && (asB a == asB b))) ∧ Below w.heap.size w w' := by
 obtain ⟨o, ho⟩ : ∃ o, oth a = o := ⟨_, rfl⟩
 obtain ⟨x, p, k⟩ := o
 have HO := Lib.hid ho
 obtain ⟨o2, ho2⟩ : ∃ o, oth b = o := ⟨_, rfl⟩
 obtain ⟨y, q, m⟩ := o2
 have HO2 := Lib.hid ho2
 clear ho ho2
 obtain ⟨u, hu⟩ : ∃ u, asB a = u := ⟨_, rfl⟩
 obtain ⟨v, hv⟩ : ∃ v, asB b = v := ⟨_, rfl⟩
 have HU := Lib.hid hu
 have HV := Lib.hid hv
 clear hu hv
 go_enter Tryz.func119, Tryz.ntmps119
 go_wp2_with fail
 refine (rother_any a w).mono ?_
 rintro e w1 ⟨rfl, b1⟩
 rw [HO.out]
 have B1 := Lib.hid b1
 clear b1
 go_wp2_with fail
 refine (rother_any b w1).mono ?_
 rintro e w2 ⟨rfl, b2⟩
 rw [HO2.out]
 have B2 := Lib.hid (below_then B1.out b2)
 clear b2
 cases k <;> cases m
 all_goals
  go_wp2_with (first
   | (go_at_call 158; refine (rasB_any a _).mono ?_; rintro e w3 ⟨rfl, rfl⟩; rw [HU.out])
   | (go_at_call 158; refine (rasB_any b _).mono ?_; rintro e w3 ⟨rfl, rfl⟩; rw [HV.out]))
  go_ret
  exact ⟨ret_bool (by rw [isB, isB, HO.out, HO2.out, HU.out, HV.out]; simp), B2.out⟩
end Go.Proofs.YtcbaahlahohfmaaGreatDoor
namespace Go.Proofs.YtcbaahlahohfmaaGreatDoor
open Go.RowKit Go.Maps
theorem brs_or (c : Int) : othL brs c = (0, false, false) ∨ ∃ p ∈ brs, c = p.1 ∨ c = p.2 := by
 by_cases h : ∀ p ∈ brs, c ≠ p.1 ∧ c ≠ p.2
 ·exact .inl (othL_none _ _ h)
 ·refine .inr ?_
  false_or_by_contra
  rename_i hn
  exact h fun p hp => ⟨fun e => hn ⟨p, hp, .inl e⟩, fun e => hn ⟨p, hp, .inr e⟩⟩
theorem all_brs {Q : Int → Prop} (h0 : ∀ c, othL brs c = (0, false, false) → Q c) (h1 : ∀ p ∈ brs, Q p.1 ∧ Q p.2) (c : Int) : Q c := by
 rcases brs_or c with h | ⟨p, hp, rfl | rfl⟩
 ·exact h0 c h
 ·exact (h1 p hp).1
 ·exact (h1 p hp).2
theorem oth_facts (c : Int) (h : isB c = true) : (oth (oth c).1).2.2 = true ∧ (oth (oth c).1).1 = c ∧ ((oth c).2.1 != (oth (oth c).1).2.1) = true ∧ mir c = (oth c).1 ∧ sameB c c = true ∧ sameB c (oth c).1 = false := by
 revert h
 refine all_brs (Q := fun c => isB c = true → (oth (oth c).1).2.2 = true ∧ (oth (oth c).1).1 = c ∧ ((oth c).2.1 != (oth (oth c).1).2.1) = true ∧ mir c = (oth c).1 ∧ sameB c c = true ∧ sameB c (oth c).1 = false) (fun c h hb => ?_) (by decide +kernel) c
 rw [isB, oth, h] at hb
 cases hb
theorem isB_asB (c : Int) : isB (asB c) = isB c := by
 by_cases h1 : c = 9001
 ·subst h1; decide +kernel
 by_cases h2 : c = 9002
 ·subst h2; decide +kernel
 rw [asB, if_neg h1, if_neg h2]
theorem isB_of {a b : Int} (h : asB a = asB b) : isB a = isB b := by rw [← isB_asB a, ← isB_asB b, h]
theorem sameB_both (a b : Int) : (isB a && isB b && (asB a == asB b)) = sameB a b := by
 unfold sameB
 by_cases h : asB a = asB b
 ·rw [isB_of h]; simp
 ·have : (asB a == asB b) = false := by simp [h]
  rw [this]; simp
theorem sameB_iff {a b : Int} : sameB a b = true ↔ isB a = true ∧ asB a = asB b := by simp [sameB]
theorem same_facts : ∀ p ∈ brs, ∀ q ∈ brs, ∀ a ∈ [p.1, p.2], ∀ b ∈ [q.1, q.2], sameB a b = true → (oth a).2.1 = (oth b).2.1 ∧ sameB (oth a).1 (oth b).1 = true := by decide +kernel
theorem same_others {a b : Int} (h : sameB a b = true) : (oth a).2.1 = (oth b).2.1 ∧ sameB (oth a).1 (oth b).1 = true := by
 have ha := (sameB_iff.1 h).1
 have hb : isB b = true := by rw [← isB_of (sameB_iff.1 h).2]; exact ha
 rcases brs_or a with h0 | ⟨p, hp, h0⟩
 ·rw [isB, oth, h0] at ha; cases ha
 rcases brs_or b with h1 | ⟨q, hq, h1⟩
 ·rw [isB, oth, h1] at hb; cases hb
 exact same_facts p hp q hq a (by simpa using h0) b (by simpa using h1) h
end Go.Proofs.YtcbaahlahohfmaaGreatDoor
namespace Go.Proofs.YtcbaahlahohfmaaGreatDoor
open Go.RowKit
def setR (l : List Int) (a b : Nat) (s : Int) : List Int := (List.range l.length).map fun k => if a ≤ k ∧ k < b then s else l.getD k 0
theorem setR_length (l : List Int) (a b : Nat) (s : Int) : (setR l a b s).length = l.length := by simp [setR]
theorem setR_get (l : List Int) (a b : Nat) (s : Int) {k : Nat} (h : k < (setR l a b s).length) (h' : k < l.length) : (setR l a b s)[k] = if a ≤ k ∧ k < b then s else l[k] := by
 simp [setR, h']
theorem setR_none (l : List Int) (a : Nat) (s : Int) : setR l a a s = l := by
 apply List.ext_getElem
 ·rw [setR_length]
 ·intro i h1 h2
  rw [setR_get _ _ _ _ h1 h2, if_neg (by omega)]
theorem setR_next (l : List Int) (a b : Nat) (s : Int) (h : a ≤ b) : (setR l a b s).set b s = setR l a (b + 1) s := by
 apply List.ext_getElem
 ·rw [List.length_set, setR_length, setR_length]
 ·intro i h1 h2
  have hl : i < l.length := by rw [setR_length] at h2; exact h2
  rw [List.getElem_set, setR_get _ _ _ _ h2 hl]
  split
  ·rw [if_pos (by omega)]
  ·rw [setR_get _ _ _ _ (by rw [setR_length]; exact hl) hl]
   by_cases hh : a ≤ i ∧ i < b
   ·rw [if_pos hh, if_pos (by omega)]
   ·rw [if_neg hh, if_neg (by omega)]
def marksB (first : List Int) (i : Nat) : Nat := ((first.drop (i + 1)).takeWhile fun c => c == 8).length
theorem marksB_stop (first : List Int) (i m : Nat) (hm : i + 1 + m ≤ first.length) (h : ∀ j (_ : j < m), first.getD (i + 1 + j) 0 = 8) (hs : i + 1 + m = first.length ∨ first.getD (i + 1 + m) 0 ≠ 8) : marksB first i = m := by
 unfold marksB
 obtain ⟨r, hr⟩ : ∃ r, first.drop (i + 1) = r := ⟨_, rfl⟩
 have hg : ∀ j, r.getD j 0 = first.getD (i + 1 + j) 0 := fun j => by
  rw [← hr, List.getD_eq_getElem?_getD, List.getElem?_drop, List.getD_eq_getElem?_getD]
 have hl : r.length = first.length - (i + 1) := by rw [← hr, List.length_drop]
 have h1 : ∀ j, j < m → r.getD j 0 = 8 := fun j hj => by rw [hg]; exact h j hj
 have h2 : m = r.length ∨ r.getD m 0 ≠ 8 := by
  rcases hs with hs | hs
  ·exact .inl (by omega)
  ·exact .inr (by rw [hg]; exact hs)
 have h3 : m ≤ r.length := by omega
 rw [hr]
 clear hr hg hl h hs hm
 induction r generalizing m with
 | nil => simp at h3 ⊢; omega
 | cons x r ih =>
  cases m with
  | zero =>
   rcases h2 with h2 | h2
   ·simp at h2
   ·simp at h2; simp [h2]
  | succ m =>
   have hx : x = 8 := by simpa using h1 0 (by omega)
   subst hx
   rw [List.takeWhile_cons_of_pos (by decide), List.length_cons, ih m (fun j hj => by simpa using h1 (j + 1) (by omega)) ?_ (by simpa using h3)]
   rcases h2 with h2 | h2
   ·exact .inl (by simpa using h2)
   ·exact .inr (by simpa using h2)
def turnL (l first : List Int) (i : Nat) (s : Int) : List Int := setR l i (i + 1 + marksB first i) s
theorem turnL_length (l first : List Int) (i : Nat) (s : Int) : (turnL l first i s).length = l.length := setR_length _ _ _ _
set_option maxRecDepth 20000 in
set_option maxHeartbeats 4000000 in
theorem rturn_any (g c : Nat) (l : List Int) (A' : Option Addr) (first : List Int) (c' : Nat) (i : Nat) (s : Int) (B : Nat) (w : World) (h : Row w B 3 g c (ints .i64 l)) (h' : Lies w B A' (ints .i64 first)) (hl : l.length ≤ 1000000) (he : first.length = l.length) (hi : i < l.length) :
 Calls Tryz.prog 72 #[.slice (some ⟨g, 0, none⟩) l.length c, .slice A' first.length c', .int .i64 (i : Int), .int .i64 s] w
  fun ed w' => ed = .returned (.tuple #[]) ∧ Row w' B 3 g c (ints .i64 (turnL l first i s)) ∧ Below B w w' ∧ w.grownBy w' (some g) := by
 have H := Lib.hid h
 have H' := Lib.hid h'
 have HE := Lib.hid he
 have hin := h.inside
 obtain ⟨u0, hc0⟩ : ∃ u, w.cell? ⟨g, i, none⟩ = some u := ⟨_, h.cell (by simpa using hi)⟩
 have hf0 := h.free i
 have b0 : (0 : Int) ≤ (i : Int) := by omega
 have b1 : (i : Int) < (l.length : Int) := by omega
 clear h h' he
 go_enter Tryz.func72, Tryz.ntmps72
 go_wp2_with (first
  | (refine store_row intsT w B _ _ g i c .i64 s (ints .i64 l) w rfl rfl rfl rfl rfl H.out (by simpa using hi) (Below.refl _ _) ?_; intro w1 r1 b1' g1; rw [ints_set, ← setR_none l i s, setR_next l i i s (Nat.le_refl _)] at r1; have R1 := Lib.hid r1; have B1 := Lib.hid b1'; have G1 := Lib.hid g1; clear r1 b1' g1)
  | fail)
 go_loopw [8] (fun kv wr => ∃ m : Nat, i + 1 + m ≤ l.length ∧ kv = .int .i64 ((i + 1 + m : Nat) : Int) ∧ Hid (∀ j (h : j < m), first.getD (i + 1 + j) 0 = 8) ∧ Row wr B 3 g c (ints .i64 (setR l i (i + 1 + m) s)) ∧ Below B w wr ∧ w.grownBy wr (some g)) (fun kv _ => l.length - (intOf kv).toNat)
 case atStart => exact ⟨0, by omega, by go_num, Lib.hid (fun j h => absurd h (by omega)), R1.out, B1.out, G1.out⟩
 case round =>
  obtain ⟨m, hm, rfl, HM, hr, hb, hg⟩ := hrel
  have HR := Lib.hid hr
  have HB := Lib.hid hb
  have HG := Lib.hid hg
  obtain ⟨k, hk⟩ : ∃ k, i + 1 + m = k := ⟨_, rfl⟩
  have hki : i < k := by omega
  rw [hk] at hm HR ⊢
  have HK := Lib.hid hk
  clear hr hb hg hk
  by_cases hlt : k < l.length
  ·have hlf : k < first.length := by have := HE.out; omega
   obtain ⟨p, hp, _, hc⟩ := (H'.out.below HB.out).int hlf
   subst hp
   obtain ⟨x, hx⟩ : ∃ x, first[k] = x := ⟨_, rfl⟩
   rw [hx] at hc
   have HX : Hid (first.getD k 0 = x) := Lib.hid (by simp [hlf, hx])
   have d0 : (0 : Int) ≤ (k : Int) := by omega
   have d1 : (k : Int) < (l.length : Int) := by omega
   have d2 : (k : Int) < (first.length : Int) := by omega
   clear hx
   rcases h8 : (x == 8) with _ | _
   ·have HS : Hid (turnL l first i s = setR l i k s) := Lib.hid (by
     have h9 := HK.out
     rw [turnL, marksB_stop first i m (by omega) HM.out (.inr (by rw [h9, HX.out]; simpa using h8)), h9])
    go_wp2_with fail
    (try simp only [Exit.inBlock, Exit.then])
    exact bodyPost_end (results_none rfl _ _ _) rfl ⟨rfl, by rw [HS.out]; exact HR.out, HB.out, HG.out⟩
   ·obtain ⟨u1, hc1⟩ : ∃ u, wr.cell? ⟨g, k, none⟩ = some u := ⟨_, HR.out.cell (by simp [setR_length]; omega)⟩
    have hf1 := HR.out.free k
    go_wp2_with (first
     | (refine store_row intsT wr B _ _ g k c .i64 s (ints .i64 (setR l i k s)) w rfl rfl rfl rfl rfl HR.out (by simp [setR_length]; omega) HB.out ?_; intro w2 r2 b2' g2; rw [ints_set, setR_next l i k s (by omega)] at r2; have R2 := Lib.hid r2; have B2 := Lib.hid b2'; have G2 := Lib.hid g2; clear r2 b2' g2)
     | fail)
    go_roundw
    case rel =>
     have h9 := HK.out
     refine ⟨m + 1, by omega, by rw [show i + 1 + (m + 1) = k + 1 by omega]; go_num, Lib.hid (fun j hj => ?_), by rw [show i + 1 + (m + 1) = k + 1 by omega]; exact R2.out, B2.out, HG.out.trans G2.out⟩
     by_cases hjm : j = m
     ·subst hjm; rw [h9, HX.out]; simpa using h8
     ·exact HM.out j (by omega)
    case measure => simp [intOf]; omega
  ·have HS : Hid (turnL l first i s = setR l i k s) := Lib.hid (by
    have h9 := HK.out
    have h10 := HE.out
    rw [turnL, marksB_stop first i m (by omega) HM.out (.inl (by omega)), h9])
   go_wp2_with fail
   (try simp only [Exit.inBlock, Exit.then])
   exact bodyPost_end (results_none rfl _ _ _) rfl ⟨rfl, by rw [HS.out]; exact HR.out, HB.out, HG.out⟩
end Go.Proofs.YtcbaahlahohfmaaGreatDoor
namespace Go.Proofs.YtcbaahlahohfmaaGreatDoor
open Go.RowKit
theorem prT : SliceOfN Tryz.prog 77 79 (.agg #[.int .i64 0, .int .i64 0]) 2 16 := ⟨by kernel_rfl, by kernel_rfl, rfl, by decide⟩
def prC (L : List (Int × Int)) : List Value := L.flatMap fun p => [.int .i64 p.1, .int .i64 p.2]
theorem prC_append (a b : List (Int × Int)) : prC (a ++ b) = prC a ++ prC b := by simp [prC]
theorem prC_one (L : List (Int × Int)) : ∀ u ∈ prC L, u.oneCell' = true := by
 intro u hu
 unfold prC at hu
 obtain ⟨r, _, hu⟩ := List.mem_flatMap.1 hu
 simp at hu
 rcases hu with rfl | rfl <;> rfl
theorem prC_length (L : List (Int × Int)) : (prC L).length = L.length * 2 := by
 induction L with
 | nil => rfl
 | cons r L ih => rw [show prC (r :: L) = [.int .i64 r.1, .int .i64 r.2] ++ prC L from rfl, List.length_append, ih]; simp; omega
theorem prC_take (L : List (Int × Int)) : ∀ k, prC (L.take k) = (prC L).take (k * 2) := by
 induction L with
 | nil => intro k; simp [prC]
 | cons r L ih =>
  intro k
  cases k with
  | zero => simp [prC]
  | succ k =>
   rw [List.take_succ_cons, show prC (r :: L.take k) = [.int .i64 r.1, .int .i64 r.2] ++ prC (L.take k) from rfl, show prC (r :: L) = [.int .i64 r.1, .int .i64 r.2] ++ prC L from rfl, ih, show (k + 1) * 2 = k * 2 + 2 by omega]
   rfl
theorem prC_drop (L : List (Int × Int)) : ∀ k, prC (L.drop k) = (prC L).drop (k * 2) := by
 induction L with
 | nil => intro k; simp [prC]
 | cons r L ih =>
  intro k
  cases k with
  | zero => simp
  | succ k =>
   rw [List.drop_succ_cons, show prC (r :: L) = [.int .i64 r.1, .int .i64 r.2] ++ prC L from rfl, ih, show (k + 1) * 2 = k * 2 + 2 by omega]
   rfl
theorem prC_get (L : List (Int × Int)) : ∀ j (hj : j < L.length), (prC L)[j * 2]? = some (.int .i64 L[j].1) ∧ (prC L)[j * 2 + 1]? = some (.int .i64 L[j].2) := by
 induction L with
 | nil => intro j hj; simp at hj
 | cons r L ih =>
  intro j hj
  rw [show prC (r :: L) = [.int .i64 r.1, .int .i64 r.2] ++ prC L from rfl]
  cases j with
  | zero => exact ⟨rfl, rfl⟩
  | succ j =>
   obtain ⟨h1, h2⟩ := ih j (by simpa using hj)
   rw [List.getElem?_append_right (by simp; omega), List.getElem?_append_right (by simp; omega)]
   simp only [List.length_cons, List.length_nil, List.getElem_cons_succ]
   rw [show (j + 1) * 2 - (0 + 1 + 1) = j * 2 by omega, show (j + 1) * 2 + 1 - (0 + 1 + 1) = j * 2 + 1 by omega]
   exact ⟨h1, h2⟩
theorem prC_at {w : World} {B : Nat} {A : Option Addr} {L : List (Int × Int)} (h : Lies w B A (prC L)) {j : Nat} (hj : j < L.length) :
 ∃ g off, A = some ⟨g, off, none⟩ ∧ g < B ∧ w.cell? ⟨g, off + j * 2, none⟩ = some (.int .i64 L[j].1) ∧ w.cell? ⟨g, off + j * 2 + 1, none⟩ = some (.int .i64 L[j].2) := by
 have hl := prC_length L
 obtain ⟨g, off, hA, hg, hc⟩ := Lies.plain h (by omega)
 obtain ⟨h1, h2⟩ := prC_get L j hj
 have k1 := hc (j * 2) (by omega)
 have k2 := hc (j * 2 + 1) (by omega)
 rw [← Nat.add_assoc] at k2
 refine ⟨g, off, hA, hg, ?_, ?_⟩
 ·rw [k1, ← List.getElem?_eq_getElem, h1]
 ·rw [k2, ← List.getElem?_eq_getElem, h2]
theorem lies_takeN {w : World} {B : Nat} {A : Option Addr} {xs : List Value} (h : Lies w B A xs) (n : Nat) : Lies w B A (xs.take n) := fun hne => by
 obtain ⟨p, hA, hp, hc⟩ := h (by intro e; subst e; simp at hne)
 refine ⟨p, hA, hp, fun i u hu => hc i u ?_⟩
 rw [List.getElem?_take] at hu
 split at hu
 ·exact hu
 ·cases hu
theorem lies_dropN {w : World} {B : Nat} {A : Option Addr} {L : List (Int × Int)} (h : Lies w B A (prC L)) (k c : Nat) (hc : L.length ≤ c) :
 Lies w B (if c = k then A else Option.map (fun x => { block := x.block, off := x.off + k * 2 }) A) (prC (L.drop k)) := fun hne => by
 have hk : k < L.length := by
  apply Classical.byContradiction
  intro hk
  apply hne
  rw [List.drop_of_length_le (by omega)]; rfl
 have hl := prC_length L
 obtain ⟨g, off, rfl, hg, hcell⟩ := Lies.plain h (by omega)
 rw [if_neg (by omega)]
 refine ⟨_, rfl, hg, fun i u hu => ?_⟩
 rw [add_plain]
 rw [prC_drop, List.getElem?_drop] at hu
 obtain ⟨hlt, rfl⟩ := List.getElem?_eq_some_iff.1 hu
 have := hcell (k * 2 + i) hlt
 rw [show off + k * 2 + i = off + (k * 2 + i) by omega]
 exact this
theorem lies_kept2 {w0 w w' : World} {g : Nat} {cs : List Value} {row : Option Nat} (hg : w.grownBy w' row) (h : Lies w0 (g + 1) (some ⟨g, 0, none⟩) cs) (hh : w.heap = w0.heap) (hlt : g < w0.heap.size) (hr : row ≠ some g) : Lies w' (g + 1) (some ⟨g, 0, none⟩) cs := fun hn => by
 obtain ⟨p, hA, hp, hc⟩ := (h.sameHeap hh) hn
 rw [← hh] at hlt
 injection hA with hA
 subst hA
 refine ⟨_, rfl, by simp, fun i u hu => ?_⟩
 rw [World.cell?_of_block (hg.block _ (by rw [add_block]; exact hlt) (by rw [add_block]; exact fun e => hr e.symm))]
 exact hc i u hu
end Go.Proofs.YtcbaahlahohfmaaGreatDoor
