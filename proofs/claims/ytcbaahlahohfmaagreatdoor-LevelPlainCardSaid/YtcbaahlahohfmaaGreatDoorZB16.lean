/- Shared texts, shaken for one claim. -/
import Derived.RangeFuncBox
import Derived.Test.YtcbaahlahohfmaaGreatDoorZB1
import Derived.Test.YtcbaahlahohfmaaGreatDoorZB3
import Derived.Test.YtcbaahlahohfmaaGreatDoorZB4
import Derived.Test.YtcbaahlahohfmaaGreatDoorZB7
import Derived.Test.YtcbaahlahohfmaaGreatDoorZB9
import Derived.Test.YtcbaahlahohfmaaGreatDoorZB10
import Derived.Test.YtcbaahlahohfmaaGreatDoorZB11
namespace Go.Proofs.YtcbaahlahohfmaaGreatDoor
open Go.RowKit
set_option maxHeartbeats 1000000 in
theorem wcounted_any (k : Int) (w : World) (hT : ClsTabs w) : Calls Tryz.prog 133 #[.int .i64 k] w fun ed w' => ed = .returned (.int .i64 (plainK k)) ∧ w = w' := by
 have hw := wordOf_isEmpty k
 by_cases h : k < 0 ∨ 22 < k
 ·rw [decide_eq_true h] at hw
  have hz : plainK k = 0 := by rw [plainK, if_neg (by omega)]
  rw [hz]
  clear h
  go_enter Tryz.func133, Tryz.ntmps133
  go_wp2_with fail
  refine (word_any k w hT).mono ?_
  rintro e wq ⟨rfl, rfl⟩
  go_wp2_with fail
  go_ret
  exact ⟨rfl, rfl⟩
 ·rw [decide_eq_false h] at hw
  have hz : plainK k = k := by rw [plainK, if_pos (by omega)]
  rw [hz]
  clear h
  go_enter Tryz.func133, Tryz.ntmps133
  go_wp2_with fail
  refine (word_any k w hT).mono ?_
  rintro e wq ⟨rfl, rfl⟩
  go_wp2_with fail
  go_ret
  exact ⟨rfl, rfl⟩
set_option maxHeartbeats 1000000 in
theorem wside_any (s : Int) (w : World) : Calls Tryz.prog 93 #[.int .i64 s] w fun ed w' => ed = .returned (.int .i64 (sideK s)) ∧ w = w' := by
 rcases h : (s == 1) with _ | _
 ·have hz : sideK s = 0 := by rw [sideK, if_neg (by simpa using h)]
  rw [hz]
  go_enter Tryz.func93, Tryz.ntmps93
  go_wp2
  go_ret
  exact ⟨rfl, rfl⟩
 ·have hz : sideK s = 1 := by rw [sideK, if_pos (by simpa using h)]
  rw [hz]
  go_enter Tryz.func93, Tryz.ntmps93
  go_wp2
  go_ret
  exact ⟨rfl, rfl⟩
def isAt (l : List Int) (i k : Int) : Bool := decide (0 ≤ i ∧ l[i.toNat]? = some k)
set_option maxHeartbeats 1000000 in
theorem wis_any (A : Option Addr) (l : List Int) (c : Nat) (i k : Int) (w : World) (h : Lies w w.heap.size A (ints .i64 l)) (_ : l.length ≤ 1000000) :
 Calls Tryz.prog 166 #[.slice A l.length c, .int .i64 i, .int .i64 k] w fun ed w' => ed = .returned (.bool (isAt l i k)) ∧ w = w' := by
 have H := Lib.hid h
 clear h
 by_cases h0 : i < 0
 ·have hz : isAt l i k = false := by rw [isAt, decide_eq_false_iff_not]; omega
  rw [hz]
  have d0 : decide ((0 : Int) ≤ i) = false := by simp; omega
  have d1 : decide (i ≥ 0) = false := by simp; omega
  clear H h0
  go_enter Tryz.func166, Tryz.ntmps166
  go_wp2
  go_ret
  exact ⟨rfl, rfl⟩
 obtain ⟨n, rfl⟩ : ∃ n : Nat, i = n := ⟨i.toNat, by omega⟩
 clear h0
 by_cases hlt : n < l.length
 ·obtain ⟨p, rfl, _, hc⟩ := H.out.int hlt
  have b0 : (0 : Int) ≤ (n : Int) := by omega
  have b1 : (n : Int) < (l.length : Int) := by omega
  obtain ⟨x, hx⟩ : ∃ x, l[n] = x := ⟨_, rfl⟩
  have hz : isAt l n k = (x == k) := by
   rw [isAt, Int.toNat_natCast, List.getElem?_eq_getElem hlt, hx]
   by_cases hxk : x = k <;> simp [hxk]
  rw [hz]
  rw [hx] at hc
  clear hx hz H
  go_enter Tryz.func166, Tryz.ntmps166
  go_wp2
  go_ret
  exact ⟨rfl, rfl⟩
 ·have hz : isAt l n k = false := by
   rw [isAt, Int.toNat_natCast, List.getElem?_eq_none (by omega)]
   simp
  rw [hz]
  clear H hz
  go_enter Tryz.func166, Tryz.ntmps166
  go_wp2
  go_ret
  exact ⟨rfl, rfl⟩
set_option maxRecDepth 20000 in
set_option maxHeartbeats 4000000 in
theorem each_any (N : Nat) (caps : List Value) (hN : ∀ (xs : Array Value) (u : World), Sem.run Tryz.prog (callFunc N xs) u = .ok (.enter N xs) u) (B g c cc : Nat) (pre l l' post : List Int) (hl : l'.length = l.length) (J : Nat → World → Prop) (w : World)
 (hlen : (pre ++ l ++ post).length ≤ 1000000) (hR : Row w B 3 g c (ints .i64 (pre ++ l ++ post))) (h0 : J 0 w)
 (hC : ∀ (k : Nat) (_ : k < l.length) (wr : World), J k wr → Below B w wr → Row wr B 3 g c (ints .i64 (pre ++ mixL l l' k ++ post)) →
  Calls Tryz.prog N ([Value.int .i64 (k : Int), Value.int .i64 (l.getD k 0)] ++ caps).toArray wr fun ed w' => ed = .returned (.int .i64 (l'.getD k 0)) ∧ J (k + 1) w' ∧ Row w' B 3 g c (ints .i64 (pre ++ mixL l l' k ++ post)) ∧ Below B wr w')
 (hJ : ∀ (k : Nat) (w' : World) (i : Nat) (v : Value), J k w' → J k (w'.setCell ⟨g, i, none⟩ v)) :
 Calls Tryz.prog 131 #[.slice (some ⟨g, pre.length, none⟩) l.length cc, .func (.func N) #[] caps.toArray] w fun ed w' => ed = .returned (.tuple #[]) ∧ J l.length w' ∧ Row w' B 3 g c (ints .i64 (pre ++ l' ++ post)) ∧ Below B w w' := by
 have HC := Lib.hid hC
 have HJ := Lib.hid hJ
 have HR : Hid (Row w B 3 g c (ints .i64 (pre ++ mixL l l' 0 ++ post))) := Lib.hid (by simpa [mixL] using hR)
 have H0 := Lib.hid h0
 have HL := Lib.hid hl
 have hn : l.length ≤ 1000000 := by simp at hlen; omega
 have ho : pre.length ≤ 1000000 := by simp at hlen; omega
 clear hC hJ hR h0 hl hlen
 go_enter Tryz.func131, Tryz.ntmps131
 go_wp2_with fail
 go_loopw [8] (fun i wr => ∃ k : Nat, k ≤ l.length ∧ i = .int .i64 k ∧ Hid (J k wr) ∧ Hid (Below B w wr) ∧ Hid (Row wr B 3 g c (ints .i64 (pre ++ mixL l l' k ++ post)))) (fun i _ => l.length - (intOf i).toNat)
 case atStart => exact ⟨0, by omega, rfl, H0, Lib.hid (Below.refl _ _), HR⟩
 case round =>
  obtain ⟨k, hk, rfl, HJr, HBr, HRr⟩ := hrel
  by_cases hlt : k < l.length
  ·have hg : l.getD k 0 = l[k] := by rw [List.getD_eq_getElem?_getD, List.getElem?_eq_getElem hlt, Option.getD_some]
   have hc : wr.cell? ⟨g, pre.length + k, none⟩ = some (.int .i64 (l.getD k 0)) := by
    have h1 := mixL_get (pre := pre) (post := post) HL.out hlt
    obtain ⟨h2, h3⟩ := List.getElem?_eq_some_iff.1 h1
    rw [HRr.out.cell (j := pre.length + k) (by simpa [ints] using h2), hg]
    simp only [ints, List.getElem_map, h3]
   have b0 : (0 : Int) ≤ (k : Int) := by omega
   have b1 : (k : Int) < (l.length : Int) := by omega
   have HN := HC.out k hlt wr HJr.out HBr.out HRr.out
   obtain ⟨x, hx⟩ : ∃ x, l.getD k 0 = x := ⟨_, rfl⟩
   obtain ⟨y, hy⟩ : ∃ y, l'.getD k 0 = y := ⟨_, rfl⟩
   rw [hx, hy] at HN
   rw [hx] at hc
   have HY := Lib.hid hy
   have HX := Lib.hid hx
   have HN' := Lib.hid HN
   clear HN hx hy hg
   go_wp2_with fail
   refine HN'.out.mono ?_
   rintro e w2 ⟨rfl, j2, r2, b2⟩
   have hf := r2.free (pre.length + k)
   have hc2 : w2.cell? ⟨g, pre.length + k, none⟩ = some (.int .i64 x) := by
    obtain ⟨h2, h3⟩ := List.getElem?_eq_some_iff.1 (mixL_get (pre := pre) (post := post) HL.out hlt)
    rw [r2.cell (j := pre.length + k) (by simpa [ints] using h2), ← HX.out, List.getD_eq_getElem?_getD, List.getElem?_eq_getElem hlt, Option.getD_some]
    simp only [ints, List.getElem_map, h3]
   have J2 := Lib.hid j2
   have R2 := Lib.hid r2
   have B2 := Lib.hid (HBr.out.trans b2)
   clear j2 r2 b2
   go_wp2
   go_roundw
   case rel =>
    refine ⟨k + 1, by omega, by go_num, Lib.hid (HJ.out _ _ _ _ J2.out), Lib.hid (Row.setB B2.out R2.out _ _), Lib.hid ?_⟩
    have := R2.out.set (pre.length + k) (.int .i64 y)
    rw [ints_set, ← HY.out, mixL_set HL.out hlt, HY.out] at this
    exact this
   case measure => simp [intOf]; omega
  ·obtain rfl : k = l.length := by omega
   go_wp2
   refine bodyPost_end (results_none rfl _ _ _) rfl ⟨rfl, HJr.out, ?_, HBr.out⟩
   have := HRr.out
   rw [mixL, List.take_of_length_le (by rw [HL.out]; omega), List.drop_of_length_le (by omega), List.append_nil] at this
   exact this
set_option maxRecDepth 20000 in
set_option maxHeartbeats 1000000 in
theorem each_nil (N : Nat) (caps : List Value) (A : Option Addr) (cc : Nat) (w : World) :
 Calls Tryz.prog 131 #[.slice A 0 cc, .func (.func N) #[] caps.toArray] w fun ed w' => ed = .returned (.tuple #[]) ∧ w' = w := by
 go_enter Tryz.func131, Tryz.ntmps131
 go_wp2_with fail
 go_loopw [8] (fun i wr => i = .int .i64 0 ∧ wr = w) (fun _ _ => 0)
 case atStart => exact ⟨rfl, rfl⟩
 case round =>
  obtain ⟨rfl, rfl⟩ := hrel
  go_wp2
  refine bodyPost_end (results_none rfl _ _ _) rfl ⟨rfl, rfl⟩
theorem each_own (N : Nat) (caps : List Value) (hN : ∀ (xs : Array Value) (u : World), Sem.run Tryz.prog (callFunc N xs) u = .ok (.enter N xs) u) (B c : Nat) (A : Option Addr) (l l' : List Int) (hl : l'.length = l.length) (J : Nat → World → Prop) (w : World)
 (hlen : l.length ≤ 1000000) (hO : Own w B 3 (.slice A l.length c) (ints .i64 l)) (h0 : J 0 w)
 (hC : ∀ (k : Nat) (_ : k < l.length) (wr : World), J k wr → Below B w wr → Own wr B 3 (.slice A l.length c) (ints .i64 (mixL l l' k)) →
  Calls Tryz.prog N ([Value.int .i64 (k : Int), Value.int .i64 (l.getD k 0)] ++ caps).toArray wr fun ed w' => ed = .returned (.int .i64 (l'.getD k 0)) ∧ J (k + 1) w' ∧ Own w' B 3 (.slice A l.length c) (ints .i64 (mixL l l' k)) ∧ Below B wr w')
 (hJ : ∀ (k : Nat) (w' : World) (g i : Nat) (v : Value), A = some ⟨g, 0, none⟩ → J k w' → J k (w'.setCell ⟨g, i, none⟩ v)) :
 Calls Tryz.prog 131 #[.slice A l.length c, .func (.func N) #[] caps.toArray] w fun ed w' => ed = .returned (.tuple #[]) ∧ J l.length w' ∧ Own w' B 3 (.slice A l.length c) (ints .i64 l') ∧ Below B w w' := by
 by_cases hz : l.length = 0
 ·obtain rfl := List.eq_nil_of_length_eq_zero hz
  obtain rfl := List.eq_nil_of_length_eq_zero (hl.trans hz)
  exact (each_nil N caps A c w).mono fun _ _ ⟨h1, h2⟩ => by subst h2; exact ⟨h1, h0, hO, Below.refl _ _⟩
 have hi : (ints .i64 l).length = l.length := by simp [ints]
 obtain ⟨g, c', hv, hR⟩ := hO.inRow (by omega)
 injection hv with hA _ hc
 subst hA hc
 have e1 : ∀ (u : World) (x : List Int), x.length = l.length → Row u B 3 g c (ints .i64 ([] ++ x ++ [])) = Own u B 3 (.slice (some ⟨g, 0, none⟩) l.length c) (ints .i64 x) := fun u x hx => by
  rw [Row, List.nil_append, List.append_nil]
  congr 2
  simp [ints, hx]
 refine (each_any N caps hN B g c c [] l l' [] hl J w (by simpa using hlen) (by rw [e1 _ _ rfl]; exact hO) h0 ?_ fun k w' i v => hJ k w' g i v rfl).mono fun ed w' ⟨h1, h2, h3, h4⟩ => ⟨h1, h2, by rw [e1 _ _ hl] at h3; exact h3, h4⟩
 intro k hk wr hj hb hr
 have hm := mixL_length hl (Nat.le_of_lt hk)
 rw [e1 _ _ hm] at hr
 exact (hC k hk wr hj hb hr).mono fun _ u ⟨h1, h2, h3, h4⟩ => ⟨h1, h2, by rw [e1 u _ hm]; exact h3, h4⟩
end Go.Proofs.YtcbaahlahohfmaaGreatDoor
namespace Go.Proofs.YtcbaahlahohfmaaGreatDoor
open Go.RowKit
def w1K (p k : Int) : Int := if k = 8 then (if isOpens p ∨ p = 22 then 13 else p) else k
theorem w1_at : ∀ (p : Int) (l : List Int) (k : Nat), k < l.length → w1K ((p :: rW1 p l).getD k 0) (l.getD k 0) = (rW1 p l).getD k 0
 | _, [], k, h => by simp at h
 | p, x :: l, 0, _ => rfl
 | p, x :: l, k + 1, h => by
  have := w1_at (w1K p x) l k (by simpa using h)
  exact this
theorem wS_at (a b : Int) : ∀ (s : Int) (l : List Int) (k : Nat), k < l.length → (if l.getD k 0 = 3 ∧ lastStrong s (l.take k) = a then b else l.getD k 0) = (rWS a b s l).getD k 0
 | _, [], k, h => by simp at h
 | s, x :: l, 0, _ => rfl
 | s, x :: l, k + 1, h => by
  have := wS_at a b (if isStrong x then x else s) l k (by simpa using h)
  exact this
theorem strong_next (l : List Int) (s : Int) {k : Nat} (h : k < l.length) : (if isStrong (l.getD k 0) then l.getD k 0 else lastStrong s (l.take k)) = lastStrong s (l.take (k + 1)) := by
 rw [strong_step l s h, getD_at h]
theorem map_at (f : Int → Int) {l : List Int} {k : Nat} (h : k < l.length) : f (l.getD k 0) = (l.map f).getD k 0 := by
 rw [getD_at h, getD_at (by simpa using h), List.getElem_map]
def w4K (p k : Int) (nx : Option Int) : Int := if (k = 4 ∧ p = 3 ∧ nx = some 3) ∨ (k = 7 ∧ (p = 3 ∨ p = 6) ∧ nx = some p) then p else k
theorem w4_at : ∀ (p : Int) (l : List Int) (k : Nat), k < l.length → w4K ((p :: rW4 p l).getD k 0) (l.getD k 0) l[k + 1]? = (rW4 p l).getD k 0
 | _, [], k, h => by simp at h
 | p, x :: l, 0, _ => by
  show w4K p x (x :: l)[0 + 1]? = _
  rw [Nat.zero_add, List.getElem?_cons_succ, ← List.head?_eq_getElem?]
  rfl
 | p, x :: l, k + 1, h => by
  have := w4_at (w4K p x l.head?) l k (by simpa using h)
  rw [List.getElem?_cons_succ]
  exact this
def Ruled (f : FuncId) (args : List Value) (R : List Int → List Int) : Prop :=
 ∀ (B c : Nat) (A : Option Addr) (l : List Int) (w : World), l.length ≤ 1000000 → B ≤ w.heap.size → Own w B 3 (.slice A l.length c) (ints .i64 l) →
  Calls Tryz.prog f (.slice A l.length c :: args).toArray w fun ed w' => ed = .returned (.tuple #[]) ∧ Own w' B 3 (.slice A l.length c) (ints .i64 (R l)) ∧ Below B w w'
end Go.Proofs.YtcbaahlahohfmaaGreatDoor
namespace Go.Proofs.YtcbaahlahohfmaaGreatDoor
open Go.RowKit
theorem call_ok {N : Nat} {fn : Func} (h : Tryz.prog.funcs[N]? = some fn) (h1 : (fn.name == "runtime.NumGoroutine") = false) (h2 : fn.body.isNone = false) (xs : Array Value) (u : World) :
 Sem.run Tryz.prog (callFunc N xs) u = .ok (.enter N xs) u := by
 have h3 : fn.name ≠ "runtime.NumGoroutine" := by simpa using h1
 have h4 : fn.body ≠ none := by intro e; rw [e] at h2; cases h2
 simp [callFunc, h, h3, h4, go_sem]
theorem known1_any (i k : Int) (w : World) (hT : ClsTabs w) : Calls Tryz.prog 132 #[.int .i64 i, .int .i64 k] w fun ed w' => ed = .returned (.int .i64 (plainK k)) ∧ w = w' := by
 go_enter Tryz.func132, Tryz.ntmps132
 go_wp2_with fail
 refine (wcounted_any k w hT).mono ?_
 rintro e wq ⟨rfl, rfl⟩
 go_wp2
 go_ret
 exact ⟨rfl, rfl⟩
theorem term1_any (i k : Int) (w : World) : Calls Tryz.prog 167 #[.int .i64 i, .int .i64 k] w fun ed w' => ed = .returned (.int .i64 3) ∧ w = w' := by
 go_enter Tryz.func167, Tryz.ntmps167
 go_wp2
 go_ret
 exact ⟨rfl, rfl⟩
set_option maxHeartbeats 1000000 in
theorem marks1_any (i k p : Int) (b : Nat) (w : World) (hb : Boxed w b 3 (.int .i64 p)) :
 Calls Tryz.prog 161 #[.int .i64 i, .int .i64 k, .pointer (some ⟨b, 0, none⟩)] w fun ed w' => ed = .returned (.int .i64 (w1K p k)) ∧ Boxed w' b 3 (.int .i64 (w1K p k)) ∧ w.grownBy w' (some b) := by
 have hc := hb.cell
 have hf := hb.frozen
 have HB := Lib.hid hb
 clear hb
 rcases hk : (k != 8) with _ | _
 ·have hz : w1K p k = if isOpens p ∨ p = 22 then 13 else p := by rw [w1K, if_pos (by simpa using hk)]
  rcases ho : isOpens p with _ | _
  ·have HO := Lib.hid ho
   rcases h2 : (p == 22) with _ | _
   ·have e : w1K p k = p := by
     rw [hz, ho, if_neg]
     simp at h2 ⊢; exact h2
    rw [e]
    clear e hz ho
    go_enter Tryz.func161, Tryz.ntmps161
    go_wp2_with fail
    refine (opens_any p w).mono ?_
    rintro e w1 ⟨rfl, b1⟩
    rw [HO.out]
    have X1 := Lib.hid (HB.out.kept (grown_of_below b1 none) (by simp))
    have hc1 := X1.out.cell
    have B1 := Lib.hid b1
    clear b1
    go_wp2
    go_ret
    exact ⟨rfl, X1.out, grown_of_below B1.out _⟩
   ·have e : w1K p k = 13 := by
     rw [hz, ho, if_pos]
     simp at h2 ⊢; exact h2
    rw [e]
    clear e hz ho
    go_enter Tryz.func161, Tryz.ntmps161
    go_wp2_with fail
    refine (opens_any p w).mono ?_
    rintro e w1 ⟨rfl, b1⟩
    rw [HO.out]
    have X1 := Lib.hid (HB.out.kept (grown_of_below b1 none) (by simp))
    have hc1 := X1.out.cell
    have hf1 := X1.out.frozen
    have B1 := Lib.hid b1
    clear b1
    go_wp2
    go_ret
    exact ⟨rfl, X1.out.set _, (grown_of_below B1.out _).trans (grownBy_setCell' _ _ _)⟩
  ·have HO := Lib.hid ho
   have e : w1K p k = 13 := by rw [hz, ho, if_pos (by simp)]
   rw [e]
   clear e hz ho
   go_enter Tryz.func161, Tryz.ntmps161
   go_wp2_with fail
   refine (opens_any p w).mono ?_
   rintro e w1 ⟨rfl, b1⟩
   rw [HO.out]
   have X1 := Lib.hid (HB.out.kept (grown_of_below b1 none) (by simp))
   have hc1 := X1.out.cell
   have hf1 := X1.out.frozen
   have B1 := Lib.hid b1
   clear b1
   go_wp2
   go_ret
   exact ⟨rfl, X1.out.set _, (grown_of_below B1.out _).trans (grownBy_setCell' _ _ _)⟩
 ·have hz : w1K p k = k := by rw [w1K, if_neg (by simpa using hk)]
  rw [hz]
  clear hz
  go_enter Tryz.func161, Tryz.ntmps161
  go_wp2
  go_ret
  exact ⟨rfl, HB.out.set _, grownBy_setCell' _ _ _⟩
set_option maxHeartbeats 1000000 in
theorem numbers1_any (i k s a t : Int) (b b2 b3 : Nat) (w : World) (hb : Boxed w b 3 (.int .i64 s)) (hb2 : Boxed w b2 3 (.int .i64 a)) (hb3 : Boxed w b3 3 (.int .i64 t)) :
 Calls Tryz.prog 162 #[.int .i64 i, .int .i64 k, .pointer (some ⟨b, 0, none⟩), .pointer (some ⟨b2, 0, none⟩), .pointer (some ⟨b3, 0, none⟩)] w
  fun ed w' => ed = .returned (.int .i64 (if k = 3 ∧ s = a then t else k)) ∧ Boxed w' b 3 (.int .i64 (if isStrong k then k else s)) ∧ w.grownBy w' (some b) := by
 have HB := Lib.hid hb
 have HB2 := Lib.hid hb2
 have HB3 := Lib.hid hb3
 clear hb hb2 hb3
 rcases hs : isStrong k with _ | _
 ·have HS := Lib.hid hs
  obtain ⟨r, hr⟩ : ∃ r, (if k = 3 ∧ s = a then t else k) = r := ⟨_, rfl⟩
  rw [hr, if_neg (by simp)]
  have HR := Lib.hid hr
  clear hs hr
  go_enter Tryz.func162, Tryz.ntmps162
  go_wp2_with fail
  refine (strong_any k w).mono ?_
  rintro e w1 ⟨rfl, b1⟩
  rw [HS.out]
  have X1 := Lib.hid (HB.out.kept (grown_of_below b1 none) (by simp))
  have hc1 := X1.out.cell
  have hc2 := (HB2.out.kept (grown_of_below b1 none) (by simp)).cell
  have hc3 := (HB3.out.kept (grown_of_below b1 none) (by simp)).cell
  have B1 := Lib.hid b1
  clear b1
  rcases h3 : (k == 3) with _ | _
  ·have e : r = k := by rw [← HR.out, if_neg]; intro h; simp [h.1] at h3
   subst e
   go_wp2
   go_ret
   exact ⟨rfl, X1.out, grown_of_below B1.out _⟩
  ·rcases h4 : (s == a) with _ | _
   ·have e : r = k := by rw [← HR.out, if_neg]; intro h; simp [h.2] at h4
    subst e
    go_wp2
    go_ret
    exact ⟨rfl, X1.out, grown_of_below B1.out _⟩
   ·have e : r = t := by rw [← HR.out, if_pos]; simpa using And.intro h3 h4
    subst e
    go_wp2
    go_ret
    exact ⟨rfl, X1.out, grown_of_below B1.out _⟩
 ·have HS := Lib.hid hs
  have e : (if k = 3 ∧ s = a then t else k) = k := by
   rw [if_neg]
   rintro ⟨rfl, _⟩
   simp [isStrong] at hs
  rw [e, if_pos rfl]
  clear hs e
  go_enter Tryz.func162, Tryz.ntmps162
  go_wp2_with fail
  refine (strong_any k w).mono ?_
  rintro e w1 ⟨rfl, b1⟩
  rw [HS.out]
  have X1 := Lib.hid (HB.out.kept (grown_of_below b1 none) (by simp))
  have hc1 := X1.out.cell
  have hf1 := X1.out.frozen
  have B1 := Lib.hid b1
  clear b1
  go_wp2
  go_ret
  exact ⟨rfl, X1.out.set _, (grown_of_below B1.out _).trans (grownBy_setCell' _ _ _)⟩
set_option maxHeartbeats 400000 in
theorem contains_any (A : Option Addr) (l : List Int) (c : Nat) (v : Int) (w : World) (h : Lies w w.heap.size A (ints .i64 l)) (hl : l.length ≤ 1000000) :
 Calls Tryz.prog 149 #[.slice A l.length c, .int .i64 v] w fun e w' => e = .returned (.bool (decide (v ∈ l))) ∧ w = w' := by
 have H := Lib.hid h
 clear h
 go_enter Tryz.func149, Tryz.ntmps149
 go_wp2_with fail
 refine (index_any _ _ _ _ _ _ H.out (by omega)).mono ?_
 rintro e w' ⟨n, rfl, hn, rfl⟩
 have HN := Lib.hid hn
 clear hn
 go_wp2
 go_ret
 exact ⟨ret_bool (by simp [HN.out]), rfl⟩
set_option maxHeartbeats 1000000 in
theorem exchange1_any (i k t : Int) (A : Option Addr) (l : List Int) (c : Nat) (b b2 : Nat) (w : World) (hb : Boxed w b 22 (.slice A l.length c)) (hb2 : Boxed w b2 3 (.int .i64 t)) (h : Lies w w.heap.size A (ints .i64 l)) (hl : l.length ≤ 1000000) :
 Calls Tryz.prog 163 #[.int .i64 i, .int .i64 k, .pointer (some ⟨b, 0, none⟩), .pointer (some ⟨b2, 0, none⟩)] w
  fun ed w' => ed = .returned (.int .i64 (if k ∈ l then t else k)) ∧ w = w' := by
 have hc := hb.cell
 have hc2 := hb2.cell
 have H := Lib.hid h
 clear hb hb2 h
 rcases hd : decide (k ∈ l) with _ | _
 ·have HD := Lib.hid hd
  rw [if_neg (by simpa using hd)]
  clear hd
  go_enter Tryz.func163, Tryz.ntmps163
  go_wp2_with fail
  refine (contains_any A l c k w H.out hl).mono ?_
  rintro e wq ⟨rfl, rfl⟩
  rw [HD.out]
  go_wp2
  go_ret
  exact ⟨rfl, rfl⟩
 ·have HD := Lib.hid hd
  rw [if_pos (by simpa using hd)]
  clear hd
  go_enter Tryz.func163, Tryz.ntmps163
  go_wp2_with fail
  refine (contains_any A l c k w H.out hl).mono ?_
  rintro e wq ⟨rfl, rfl⟩
  rw [HD.out]
  go_wp2
  go_ret
  exact ⟨rfl, rfl⟩
set_option maxHeartbeats 1000000 in
theorem within_any (i m : Int) (hi : 0 ≤ i ∧ i ≤ 1000000) (A : Option Addr) (l : List Int) (c : Nat) (b b2 : Nat) (w : World) (hb : Boxed w b 22 (.slice A l.length c)) (hb2 : Boxed w b2 3 (.int .i64 i)) (h : Lies w w.heap.size A (ints .i64 l)) (hl : l.length ≤ 1000000) :
 Calls Tryz.prog 165 #[.int .i64 m, .pointer (some ⟨b, 0, none⟩), .pointer (some ⟨b2, 0, none⟩)] w
  fun ed w' => ed = .returned (.bool (isAt l (i - 1) m && isAt l (i + 1) m)) ∧ w = w' := by
 have hc := hb.cell
 have hc2 := hb2.cell
 have H := Lib.hid h
 have w1 : IntKind.i64.wrap (i - 1) = i - 1 := IntWalk.i64_in _ (by omega)
 have w2 : IntKind.i64.wrap (i + 1) = i + 1 := IntWalk.i64_in _ (by omega)
 clear hb hb2 h
 rcases hd : isAt l (i - 1) m with _ | _
 ·have HD := Lib.hid hd
  rw [Bool.false_and]
  clear hd
  go_enter Tryz.func165, Tryz.ntmps165
  go_wp2_with fail
  refine (wis_any A l c (i - 1) m w H.out hl).mono ?_
  rintro e wq ⟨rfl, rfl⟩
  rw [HD.out]
  go_wp2
  go_ret
  exact ⟨rfl, rfl⟩
 ·have HD := Lib.hid hd
  rw [Bool.true_and]
  clear hd
  go_enter Tryz.func165, Tryz.ntmps165
  go_wp2_with fail
  refine (wis_any A l c (i - 1) m w H.out hl).mono ?_
  rintro e wq ⟨rfl, rfl⟩
  rw [HD.out]
  go_wp2_with fail
  refine (wis_any A l c (i + 1) m w H.out hl).mono ?_
  rintro e wq ⟨rfl, rfl⟩
  go_wp2
  go_ret
  exact ⟨rfl, rfl⟩
def sepK (l : List Int) (i k : Int) : Int :=
 if (k = 4 ∨ k = 7) ∧ (isAt l (i - 1) 3 && isAt l (i + 1) 3) = true then 3 else if k = 7 ∧ (isAt l (i - 1) 6 && isAt l (i + 1) 6) = true then 6 else k
set_option maxHeartbeats 1000000 in
theorem sep1_any (i k : Int) (hi : 0 ≤ i ∧ i ≤ 1000000) (A : Option Addr) (l : List Int) (c : Nat) (b : Nat) (w : World) (hb : Boxed w b 22 (.slice A l.length c)) (h : Lies w w.heap.size A (ints .i64 l)) (hl : l.length ≤ 1000000) :
 Calls Tryz.prog 164 #[.int .i64 i, .int .i64 k, .pointer (some ⟨b, 0, none⟩)] w
  fun ed w' => ed = .returned (.int .i64 (sepK l i k)) ∧ Below w.heap.size w w' := by
 have HB := Lib.hid (hb.alloc (.cells #[.int .i64 i] 3))
 have HI := Lib.hid (Boxed.new w 3 (.int .i64 i))
 have H := Lib.hid (h.up (below_alloc w (.cells #[.int .i64 i] 3)))
 clear hb h
 rcases h3 : isAt l (i - 1) 3 && isAt l (i + 1) 3 with _ | _
 ·have H3 := Lib.hid h3
  rcases h7 : (k == 7) with _ | _
  ·have e : sepK l i k = k := by
    rw [sepK, if_neg (by rw [h3]; simp), if_neg]
    rintro ⟨rfl, _⟩; simp at h7
   rw [e]
   clear e h3
   rcases h4 : (k == 4) with _ | _
   ·go_enter Tryz.func164, Tryz.ntmps164
    go_wp2
    go_ret
    exact ⟨rfl, below_alloc _ _⟩
   ·go_enter Tryz.func164, Tryz.ntmps164
    go_wp2_with fail
    refine (within_any i 3 hi A l c b w.heap.size _ HB.out HI.out H.out hl).mono ?_
    rintro e wq ⟨rfl, rfl⟩
    rw [H3.out]
    go_wp2
    go_ret
    exact ⟨rfl, below_alloc _ _⟩
  ·obtain rfl : k = 7 := by simpa using h7
   clear h7
   rcases h6 : isAt l (i - 1) 6 && isAt l (i + 1) 6 with _ | _
   ·have H6 := Lib.hid h6
    have e : sepK l i 7 = 7 := by rw [sepK, if_neg (by rw [h3]; simp), if_neg (by rw [h6]; simp)]
    rw [e]
    clear e h3 h6
    go_enter Tryz.func164, Tryz.ntmps164
    go_wp2_with fail
    refine (within_any i 3 hi A l c b w.heap.size _ HB.out HI.out H.out hl).mono ?_
    rintro e wq ⟨rfl, rfl⟩
    rw [H3.out]
    go_wp2_with fail
    refine (within_any i 6 hi A l c b w.heap.size _ HB.out HI.out H.out hl).mono ?_
    rintro e wq ⟨rfl, rfl⟩
    rw [H6.out]
    go_wp2
    go_ret
    exact ⟨rfl, below_alloc _ _⟩
   ·have H6 := Lib.hid h6
    have e : sepK l i 7 = 6 := by rw [sepK, if_neg (by rw [h3]; simp), if_pos ⟨rfl, h6⟩]
    rw [e]
    clear e h3 h6
    go_enter Tryz.func164, Tryz.ntmps164
    go_wp2_with fail
    refine (within_any i 3 hi A l c b w.heap.size _ HB.out HI.out H.out hl).mono ?_
    rintro e wq ⟨rfl, rfl⟩
    rw [H3.out]
    go_wp2_with fail
    refine (within_any i 6 hi A l c b w.heap.size _ HB.out HI.out H.out hl).mono ?_
    rintro e wq ⟨rfl, rfl⟩
    rw [H6.out]
    go_wp2
    go_ret
    exact ⟨rfl, below_alloc _ _⟩
 ·have H3 := Lib.hid h3
  rcases h7 : (k == 7) with _ | _
  ·rcases h4 : (k == 4) with _ | _
   ·have e : sepK l i k = k := by
     simp only [beq_eq_false_iff_ne] at h4 h7
     rw [sepK, if_neg (by rintro ⟨h | h, _⟩ <;> contradiction), if_neg (by rintro ⟨h, _⟩; contradiction)]
    rw [e]
    clear e h3
    go_enter Tryz.func164, Tryz.ntmps164
    go_wp2
    go_ret
    exact ⟨rfl, below_alloc _ _⟩
   ·have e : sepK l i k = 3 := by rw [sepK, if_pos ⟨.inl (by simpa using h4), h3⟩]
    rw [e]
    clear e h3
    go_enter Tryz.func164, Tryz.ntmps164
    go_wp2_with fail
    refine (within_any i 3 hi A l c b w.heap.size _ HB.out HI.out H.out hl).mono ?_
    rintro e wq ⟨rfl, rfl⟩
    rw [H3.out]
    go_wp2
    go_ret
    exact ⟨rfl, below_alloc _ _⟩
  ·obtain rfl : k = 7 := by simpa using h7
   clear h7
   have e : sepK l i 7 = 3 := by rw [sepK, if_pos ⟨.inr rfl, h3⟩]
   rw [e]
   clear e h3
   go_enter Tryz.func164, Tryz.ntmps164
   go_wp2_with fail
   refine (within_any i 3 hi A l c b w.heap.size _ HB.out HI.out H.out hl).mono ?_
   rintro e wq ⟨rfl, rfl⟩
   rw [H3.out]
   go_wp2
   go_ret
   exact ⟨rfl, below_alloc _ _⟩
end Go.Proofs.YtcbaahlahohfmaaGreatDoor
namespace Go.Proofs.YtcbaahlahohfmaaGreatDoor
open Go.RowKit
theorem sep_at (l : List Int) (k : Nat) (h : k < l.length) : sepK (mixL l (rW4 (-1) l) k) k (l.getD k 0) = (rW4 (-1) l).getD k 0 := by
 have hl := w4_length (-1) l
 have h1 : ∀ m : Int, 0 ≤ m → isAt (mixL l (rW4 (-1) l) k) ((k : Int) - 1) m = decide (((-1) :: rW4 (-1) l).getD k 0 = m) := fun m hm => by
  rw [isAt]
  congr 1
  rw [eq_iff_iff]
  cases k with
  | zero => simp; omega
  | succ j =>
   have e : (((j + 1 : Nat) : Int) - 1).toNat = j := by omega
   have e2 : (mixL l (rW4 (-1) l) (j + 1))[j]? = some ((rW4 (-1) l).getD j 0) := by
    rw [mixL, List.getElem?_append_left (by rw [List.length_take]; omega), List.getElem?_take_of_lt (by omega), getD_at (by omega), List.getElem?_eq_getElem (by omega)]
   rw [e, e2]
   simp
 have h2 : ∀ m : Int, isAt (mixL l (rW4 (-1) l) k) ((k : Int) + 1) m = decide (l[k + 1]? = some m) := fun m => by
  have e : ((k : Int) + 1).toNat = k + 1 := by omega
  have e2 : (mixL l (rW4 (-1) l) k)[k + 1]? = l[k + 1]? := by
   have e3 : ((rW4 (-1) l).take k).length = k := by rw [List.length_take]; omega
   rw [mixL, List.getElem?_append_right (by omega), e3, List.getElem?_drop]
   rw [show k + (k + 1 - k) = k + 1 by omega]
  rw [isAt, e, e2]
  congr 1
  rw [eq_iff_iff]
  exact ⟨fun h => h.2, fun h => ⟨by omega, h⟩⟩
 rw [← w4_at (-1) l k h, sepK, h1 3 (by omega), h1 6 (by omega), h2, h2, w4K]
 obtain ⟨p, hp⟩ : ∃ p, ((-1 : Int) :: rW4 (-1) l).getD k 0 = p := ⟨_, rfl⟩
 obtain ⟨x, hx⟩ : ∃ x, l.getD k 0 = x := ⟨_, rfl⟩
 obtain ⟨n, hn⟩ : ∃ n, l[k + 1]? = n := ⟨_, rfl⟩
 rw [hp, hx, hn]
 simp only [Bool.and_eq_true, decide_eq_true_eq]
 by_cases p3 : p = 3
 ·subst p3
  by_cases n3 : n = some 3
  ·subst n3
   by_cases x4 : x = 4
   ·simp [x4]
   ·simp [x4]
  ·simp [n3]
 ·by_cases p6 : p = 6
  ·subst p6
   simp
  ·simp [p3, p6]
theorem grown_cell (w : World) (b i : Nat) (v : Value) : w.grownBy (w.setCell ⟨b, i, none⟩ v) (some b) :=
 ⟨rfl, rfl, rfl, by simp [World.setCell], fun k _ hk => Below.heap_setCell _ _ _ _ (fun e => hk (by simp [e]))⟩
theorem below_of_grown {B b : Nat} {w w' : World} (h : w.grownBy w' (some b)) (hB : B ≤ w.heap.size) (hb : B ≤ b) : Below B w w' :=
 (Below.refl B w).grown h hB (fun k hk => by injection hk with hk; omega)
theorem own_fresh {w : World} {B : Nat} {e : TypeId} {v : Value} {xs : List Value} (h : Own w B e v xs) {b : Nat} (hb : w.heap.size ≤ b) : v.ownBlock ≠ some b := fun hv => by
 have := (Own.inside h b hv).2; omega
set_option maxHeartbeats 1000000 in
theorem marks_any (s : Int) : Ruled 134 [.int .i64 s] (rW1 s) := by
 intro B c A l w hl hB hO
 have hF : (Value.slice A l.length c).ownBlock ≠ some w.heap.size := own_fresh hO (Nat.le_refl _)
 have hO1 := hO.alloc (.cells #[.int .i64 s] 3)
 have H := each_own 161 [.pointer (some ⟨w.heap.size, 0, none⟩)] (call_ok Tryz.func161 (by kernel_rfl) (by kernel_rfl)) B c A l (rW1 s l) (w1_length _ _)
  (fun k u => Boxed u w.heap.size 3 (.int .i64 ((s :: rW1 s l).getD k 0))) (w.alloc (.cells #[.int .i64 s] 3)) hl hO1 (Boxed.new _ _ _)
  (fun k hk wr hb hbel ho => (marks1_any k (l.getD k 0) _ w.heap.size wr hb).mono fun ed w' ⟨h1, h2, h3⟩ => by
   rw [w1_at s l k hk] at h1 h2
   have := hbel.size
   simp at this
   exact ⟨h1, h2, Own.keepRow ho h3 hF, below_of_grown h3 (by omega) hB⟩)
  (fun k w' g i v hA hb => hb.kept (grown_cell w' g i v) (fun e => hF (by rw [hA]; simpa [Value.ownBlock] using e.symm)))
 have HH := Lib.hid H
 clear H hO hO1 hF
 show Calls _ _ #[.slice A l.length c, .int .i64 s] _ _
 go_enter Tryz.func134, Tryz.ntmps134
 go_wp2_with fail
 refine HH.out.mono ?_
 rintro e w1 ⟨rfl, _, o1, b1⟩
 have O1 := Lib.hid o1
 have B1 := Lib.hid (((Below.refl B w).alloc hB _).trans b1)
 clear o1 b1
 go_wp2
 exact bodyPost_end (results_none rfl _ _ _) rfl ⟨rfl, O1.out, B1.out⟩
set_option maxHeartbeats 1000000 in
theorem numbers_any (s a b : Int) : Ruled 135 [.int .i64 s, .int .i64 a, .int .i64 b] (rWS a b s) := by
 intro B c A l w hl hB hO
 have hF : (Value.slice A l.length c).ownBlock ≠ some w.heap.size := own_fresh hO (Nat.le_refl _)
 obtain ⟨w3, hw3⟩ : ∃ w3, ((w.alloc (.cells #[.int .i64 s] 3)).alloc (.cells #[.int .i64 a] 3)).alloc (.cells #[.int .i64 b] 3) = w3 := ⟨_, rfl⟩
 have hs3 : w3.heap.size = w.heap.size + 3 := by rw [← hw3]; simp
 have hX1 : Boxed w3 w.heap.size 3 (.int .i64 s) := by rw [← hw3]; exact ((Boxed.new _ _ _).alloc _).alloc _
 have hX2 : Boxed w3 (w.heap.size + 1) 3 (.int .i64 a) := by
  have := (Boxed.new (w.alloc (.cells #[.int .i64 s] 3)) 3 (.int .i64 a)).alloc (.cells #[.int .i64 b] 3)
  rw [World.size_alloc] at this
  rw [← hw3]; exact this
 have hX3 : Boxed w3 (w.heap.size + 2) 3 (.int .i64 b) := by
  have := Boxed.new ((w.alloc (.cells #[.int .i64 s] 3)).alloc (.cells #[.int .i64 a] 3)) 3 (.int .i64 b)
  rw [World.size_alloc, World.size_alloc] at this
  rw [← hw3]; exact this
 have hO1 : Own w3 B 3 (.slice A l.length c) (ints .i64 l) := by rw [← hw3]; exact ((hO.alloc _).alloc _).alloc _
 have hB3 : Below B w w3 := by rw [← hw3]; exact (((Below.refl B w).alloc hB _).alloc (by simp; omega) _).alloc (by simp; omega) _
 have hF2 : (Value.slice A l.length c).ownBlock ≠ some (w.heap.size + 1) := own_fresh hO (by omega)
 have hF3 : (Value.slice A l.length c).ownBlock ≠ some (w.heap.size + 2) := own_fresh hO (by omega)
 have H := each_own 162 [.pointer (some ⟨w.heap.size, 0, none⟩), .pointer (some ⟨w.heap.size + 1, 0, none⟩), .pointer (some ⟨w.heap.size + 2, 0, none⟩)] (call_ok Tryz.func162 (by kernel_rfl) (by kernel_rfl)) B c A l (rWS a b s l) (wS_length _ _ _ _)
  (fun k u => Boxed u w.heap.size 3 (.int .i64 (lastStrong s (l.take k))) ∧ Boxed u (w.heap.size + 1) 3 (.int .i64 a) ∧ Boxed u (w.heap.size + 2) 3 (.int .i64 b)) w3 hl hO1 ⟨hX1, hX2, hX3⟩
  (fun k hk wr hb hbel ho => (numbers1_any k (l.getD k 0) _ a b w.heap.size (w.heap.size + 1) (w.heap.size + 2) wr hb.1 hb.2.1 hb.2.2).mono fun ed w' ⟨h1, h2, h3⟩ => by
   rw [wS_at a b s l k hk] at h1
   rw [strong_next l s hk] at h2
   have := hbel.size
   exact ⟨h1, ⟨h2, hb.2.1.kept h3 (by simp), hb.2.2.kept h3 (by simp)⟩, Own.keepRow ho h3 hF, below_of_grown h3 (by omega) hB⟩)
  (fun k w' g i v hA hb => ⟨hb.1.kept (grown_cell w' g i v) (fun e => hF (by rw [hA]; simpa [Value.ownBlock] using e.symm)), hb.2.1.kept (grown_cell w' g i v) (fun e => hF2 (by rw [hA]; simpa [Value.ownBlock] using e.symm)), hb.2.2.kept (grown_cell w' g i v) (fun e => hF3 (by rw [hA]; simpa [Value.ownBlock] using e.symm))⟩)
 have HH := Lib.hid H
 have HW := Lib.hid hw3
 have HB3 := Lib.hid hB3
 clear H hO hO1 hF hF2 hF3 hX1 hX2 hX3 hs3 hB3 hw3
 show Calls _ _ #[.slice A l.length c, .int .i64 s, .int .i64 a, .int .i64 b] _ _
 go_enter Tryz.func135, Tryz.ntmps135
 go_wp2_with fail
 rw [HW.out]
 refine HH.out.mono ?_
 rintro e w1 ⟨rfl, _, o1, b1⟩
 have O1 := Lib.hid o1
 have B1 := Lib.hid (HB3.out.trans b1)
 clear o1 b1
 go_wp2
 exact bodyPost_end (results_none rfl _ _ _) rfl ⟨rfl, O1.out, B1.out⟩
def Stays (w : World) (d : Nat) (cs : Array Value) : Prop := w.heap[d]? = some (.cells cs 3 (0, 0))
theorem Stays.lt {w : World} {d : Nat} {cs : Array Value} (h : Stays w d cs) : d < w.heap.size := (Array.getElem?_eq_some_iff.1 h).1
theorem Stays.kept {w w' : World} {row : Option Nat} {d : Nat} {cs : Array Value} (h : Stays w d cs) (hg : w.grownBy w' row) (hne : some d ≠ row) : Stays w' d cs := (hg.block d h.lt hne).trans h
theorem Stays.lies {w : World} {d : Nat} {cs : Array Value} (h : Stays w d cs) : Lies w w.heap.size (some ⟨d, 0, none⟩) cs.toList := fun _ =>
 ⟨_, rfl, h.lt, World.news_of_block h⟩
set_option maxHeartbeats 1000000 in
theorem exchange_any (t : Int) (ofs : List Int) (c2 d : Nat) (cs : Array Value) (hcs : cs.toList = ints .i64 ofs) (hof : ofs.length ≤ 1000000) (B c : Nat) (A : Option Addr) (l : List Int) (w : World) (hl : l.length ≤ 1000000) (hB : B ≤ w.heap.size) (hO : Own w B 3 (.slice A l.length c) (ints .i64 l))
 (h2 : Stays w d cs) (hap : (Value.slice A l.length c).ownBlock ≠ some d) :
 Calls Tryz.prog 136 #[.slice A l.length c, .int .i64 t, .slice (some ⟨d, 0, none⟩) ofs.length c2] w fun ed w' => ed = .returned (.tuple #[]) ∧ Own w' B 3 (.slice A l.length c) (ints .i64 (l.map fun k => if k ∈ ofs then t else k)) ∧ Below B w w' := by
 have hF : (Value.slice A l.length c).ownBlock ≠ some w.heap.size := own_fresh hO (Nat.le_refl _)
 have hF2 : (Value.slice A l.length c).ownBlock ≠ some (w.heap.size + 1) := own_fresh hO (by omega)
 obtain ⟨w3, hw3⟩ : ∃ w3, (w.alloc (.cells #[.int .i64 t] 3)).alloc (.cells #[.slice (some ⟨d, 0, none⟩) ofs.length c2] 22) = w3 := ⟨_, rfl⟩
 have hX1 : Boxed w3 w.heap.size 3 (.int .i64 t) := by rw [← hw3]; exact (Boxed.new _ _ _).alloc _
 have hX2 : Boxed w3 (w.heap.size + 1) 22 (.slice (some ⟨d, 0, none⟩) ofs.length c2) := by
  have := Boxed.new (w.alloc (.cells #[.int .i64 t] 3)) 22 (.slice (some ⟨d, 0, none⟩) ofs.length c2)
  rw [World.size_alloc] at this
  rw [← hw3]; exact this
 have hX3 : Stays w3 d cs := by
  rw [← hw3]; exact (h2.kept (World.grownBy_alloc w _ none) (by simp)).kept (World.grownBy_alloc _ _ none) (by simp)
 have hO1 : Own w3 B 3 (.slice A l.length c) (ints .i64 l) := by rw [← hw3]; exact (hO.alloc _).alloc _
 have hB3 : Below B w w3 := by rw [← hw3]; exact ((Below.refl B w).alloc hB _).alloc (by simp; omega) _
 have H := each_own 163 [.pointer (some ⟨w.heap.size + 1, 0, none⟩), .pointer (some ⟨w.heap.size, 0, none⟩)] (call_ok Tryz.func163 (by kernel_rfl) (by kernel_rfl)) B c A l (l.map fun k => if k ∈ ofs then t else k) (by simp)
  (fun _ u => Boxed u w.heap.size 3 (.int .i64 t) ∧ Boxed u (w.heap.size + 1) 22 (.slice (some ⟨d, 0, none⟩) ofs.length c2) ∧ Stays u d cs) w3 hl hO1 ⟨hX1, hX2, hX3⟩
  (fun k hk wr hb hbel ho => (exchange1_any k (l.getD k 0) t (some ⟨d, 0, none⟩) ofs c2 (w.heap.size + 1) w.heap.size wr hb.2.1 hb.1 (by rw [← hcs]; exact hb.2.2.lies) hof).mono fun ed w' ⟨h1, h2⟩ => by
   subst h2
   rw [map_at (fun k => if k ∈ ofs then t else k) hk] at h1
   exact ⟨h1, hb, ho, Below.refl _ _⟩)
  (fun k w' g i v hA hb => ⟨hb.1.kept (grown_cell w' g i v) (fun e => hF (by rw [hA]; simpa [Value.ownBlock] using e.symm)), hb.2.1.kept (grown_cell w' g i v) (fun e => hF2 (by rw [hA]; simpa [Value.ownBlock] using e.symm)), hb.2.2.kept (grown_cell w' g i v) (fun e => hap (by rw [hA]; simpa [Value.ownBlock] using e.symm))⟩)
 have HH := Lib.hid H
 have HW := Lib.hid hw3
 have HB3 := Lib.hid hB3
 clear H hO hO1 hF hF2 hX1 hX2 hX3 hB3 hw3 h2 hap hcs
 go_enter Tryz.func136, Tryz.ntmps136
 go_wp2_with fail
 rw [HW.out]
 refine HH.out.mono ?_
 rintro e w1 ⟨rfl, _, o1, b1⟩
 have O1 := Lib.hid o1
 have B1 := Lib.hid (HB3.out.trans b1)
 clear o1 b1
 go_wp2
 exact bodyPost_end (results_none rfl _ _ _) rfl ⟨rfl, O1.out, B1.out⟩
set_option maxHeartbeats 1000000 in
theorem separators_any : Ruled 137 [] (rW4 (-1)) := by
 intro B c A l w hl hB hO
 have hF : (Value.slice A l.length c).ownBlock ≠ some w.heap.size := own_fresh hO (Nat.le_refl _)
 have hO1 := hO.alloc (.cells #[.slice A l.length c] 22)
 have H := each_own 164 [.pointer (some ⟨w.heap.size, 0, none⟩)] (call_ok Tryz.func164 (by kernel_rfl) (by kernel_rfl)) B c A l (rW4 (-1) l) (w4_length _ _)
  (fun k u => Boxed u w.heap.size 22 (.slice A l.length c)) (w.alloc (.cells #[.slice A l.length c] 22)) hl hO1 (Boxed.new _ _ _)
  (fun k hk wr hb hbel ho => by
   have hm := mixL_length (w4_length (-1) l) (Nat.le_of_lt hk)
   obtain ⟨A1, c1, hv, hlies, _⟩ := ho.form
   injection hv with hA _ hc
   subst hA hc
   have h1 := sep1_any k (l.getD k 0) ⟨by omega, by omega⟩ A (mixL l (rW4 (-1) l) k) c w.heap.size wr (by rw [hm]; exact hb) hlies (by omega)
   refine h1.mono fun ed w' ⟨h1, h2⟩ => ?_
   rw [sep_at l k hk] at h1
   have := hbel.size
   simp at this
   exact ⟨h1, hb.kept (grown_of_below h2 none) (by simp), ho.below h2 (Nat.le_refl _), h2.mono (by omega)⟩)
  (fun k w' g i v hA hb => hb.kept (grown_cell w' g i v) (fun e => hF (by rw [hA]; simpa [Value.ownBlock] using e.symm)))
 have HH := Lib.hid H
 clear H hO hO1 hF
 show Calls _ _ #[.slice A l.length c] _ _
 go_enter Tryz.func137, Tryz.ntmps137
 go_wp2_with fail
 refine HH.out.mono ?_
 rintro e w1 ⟨rfl, _, o1, b1⟩
 have O1 := Lib.hid o1
 have B1 := Lib.hid (((Below.refl B w).alloc hB _).trans b1)
 clear o1 b1
 go_wp2
 exact bodyPost_end (results_none rfl _ _ _) rfl ⟨rfl, O1.out, B1.out⟩
end Go.Proofs.YtcbaahlahohfmaaGreatDoor
