/- Layer 9: the program's small ones: counted, side, is; each: a list of one's own, or a part of it, gone through in place by a closure. -/
import Derived.Test.YtibconopcacelaaDoorWkM
import Derived.Test.YtibconopcacelaaDoorClD
import Derived.Test.YtibconopcacelaaDoorDel
import Derived.Test.YtibconopcacelaaDoorSame
import Derived.RangeFuncBox
namespace Go.Proofs.YtibconopcacelaaDoor
open Go.RowKit

theorem weak_word (k : Int) : (wordOf k).toList.isEmpty = decide (k < 0 ∨ 22 < k) := by
  by_cases h : 0 ≤ k ∧ k ≤ 22
  · obtain ⟨n, rfl⟩ : ∃ n : Nat, k = n := ⟨k.toNat, by omega⟩
    have : ∀ m : Nat, m < 23 → (wordOf (m : Int)).toList.isEmpty = false := by decide +kernel
    rw [this n (by omega), eq_comm, decide_eq_false_iff_not]
    omega
  · have e : (⟨#[]⟩ : ByteArray).toList.isEmpty = true := by decide +kernel
    rw [wordOf, if_neg h, e, eq_comm, decide_eq_true_iff]
    omega

set_option maxHeartbeats 1000000 in
theorem wcounted_any (k : Int) (w : World) (hT : ClsTabs w) : Calls Tryd.prog 16 #[.int .i64 k] w fun ed w' => ed = .returned (.int .i64 (plainK k)) ∧ w = w' := by
  have hw := weak_word k
  by_cases h : k < 0 ∨ 22 < k
  · rw [decide_eq_true h] at hw
    have hz : plainK k = 0 := by rw [plainK, if_neg (by omega)]
    rw [hz]
    clear h
    go_enter Tryd.func16, Tryd.ntmps16
    go_wp2_with fail
    refine (word_any k w hT).mono ?_
    rintro e wq ⟨rfl, rfl⟩
    go_wp2_with fail
    go_ret
    exact ⟨rfl, rfl⟩
  · rw [decide_eq_false h] at hw
    have hz : plainK k = k := by rw [plainK, if_pos (by omega)]
    rw [hz]
    clear h
    go_enter Tryd.func16, Tryd.ntmps16
    go_wp2_with fail
    refine (word_any k w hT).mono ?_
    rintro e wq ⟨rfl, rfl⟩
    go_wp2_with fail
    go_ret
    exact ⟨rfl, rfl⟩

set_option maxHeartbeats 1000000 in
theorem wside_any (s : Int) (w : World) : Calls Tryd.prog 14 #[.int .i64 s] w fun ed w' => ed = .returned (.int .i64 (sideK s)) ∧ w = w' := by
  rcases h : (s == 1) with _ | _
  · have hz : sideK s = 0 := by rw [sideK, if_neg (by simpa using h)]
    rw [hz]
    go_enter Tryd.func14, Tryd.ntmps14
    go_wp2
    go_ret
    exact ⟨rfl, rfl⟩
  · have hz : sideK s = 1 := by rw [sideK, if_pos (by simpa using h)]
    rw [hz]
    go_enter Tryd.func14, Tryd.ntmps14
    go_wp2
    go_ret
    exact ⟨rfl, rfl⟩

/-- does a class stand at a place? -/
def isAt (l : List Int) (i k : Int) : Bool := decide (0 ≤ i ∧ l[i.toNat]? = some k)
set_option maxHeartbeats 1000000 in
theorem wis_any (A : Option Addr) (l : List Int) (c : Nat) (i k : Int) (w : World) (h : Lies w w.heap.size A (ints .i64 l)) (_ : l.length ≤ 1000000) :
    Calls Tryd.prog 36 #[.slice A l.length c, .int .i64 i, .int .i64 k] w fun ed w' => ed = .returned (.bool (isAt l i k)) ∧ w = w' := by
  have H := Lib.hid h
  clear h
  by_cases h0 : i < 0
  · have hz : isAt l i k = false := by rw [isAt, decide_eq_false_iff_not]; omega
    rw [hz]
    have d0 : decide ((0 : Int) ≤ i) = false := by simp; omega
    have d1 : decide (i ≥ 0) = false := by simp; omega
    clear H h0
    go_enter Tryd.func36, Tryd.ntmps36
    go_wp2
    go_ret
    exact ⟨rfl, rfl⟩
  obtain ⟨n, rfl⟩ : ∃ n : Nat, i = n := ⟨i.toNat, by omega⟩
  clear h0
  by_cases hlt : n < l.length
  · obtain ⟨p, rfl, _, hc⟩ := H.out.int hlt
    have b0 : (0 : Int) ≤ (n : Int) := by omega
    have b1 : (n : Int) < (l.length : Int) := by omega
    obtain ⟨x, hx⟩ : ∃ x, l[n] = x := ⟨_, rfl⟩
    have hz : isAt l n k = (x == k) := by
      rw [isAt, Int.toNat_natCast, List.getElem?_eq_getElem hlt, hx]
      by_cases hxk : x = k <;> simp [hxk]
    rw [hz]
    rw [hx] at hc
    clear hx hz H
    go_enter Tryd.func36, Tryd.ntmps36
    go_wp2
    go_ret
    exact ⟨rfl, rfl⟩
  · have hz : isAt l n k = false := by
      rw [isAt, Int.toNat_natCast, List.getElem?_eq_none (by omega)]
      simp
    rw [hz]
    clear H hz
    go_enter Tryd.func36, Tryd.ntmps36
    go_wp2
    go_ret
    exact ⟨rfl, rfl⟩

/-- k places are done -/
def mixL (l l' : List Int) (k : Nat) : List Int := l'.take k ++ l.drop k
theorem mixL_length {l l' : List Int} (hl : l'.length = l.length) {k : Nat} (hk : k ≤ l.length) : (mixL l l' k).length = l.length := by
  simp [mixL]; omega
theorem mixL_get {pre l l' post : List Int} (hl : l'.length = l.length) {k : Nat} (hk : k < l.length) : (pre ++ mixL l l' k ++ post)[pre.length + k]? = some l[k] := by
  have h1 : (l'.take k).length = k := by rw [List.length_take]; omega
  rw [List.getElem?_append_left (by rw [List.length_append, mixL_length hl (by omega)]; omega), List.getElem?_append_right (by omega), Nat.add_sub_cancel_left, mixL,
    List.getElem?_append_right (by omega), h1, Nat.sub_self, List.getElem?_drop, Nat.add_zero, List.getElem?_eq_getElem hk]
theorem mixL_set {pre l l' post : List Int} (hl : l'.length = l.length) {k : Nat} (hk : k < l.length) : (pre ++ mixL l l' k ++ post).set (pre.length + k) (l'.getD k 0) = pre ++ mixL l l' (k + 1) ++ post := by
  have h1 : (l'.take k).length = k := by rw [List.length_take]; omega
  have h2 : l'.getD k 0 = l'[k]'(by omega) := by rw [List.getD_eq_getElem?_getD, List.getElem?_eq_getElem (by omega), Option.getD_some]
  rw [List.set_append_left _ _ (by rw [List.length_append, mixL_length hl (by omega)]; omega), List.set_append_right _ _ (by omega), Nat.add_sub_cancel_left, mixL,
    List.set_append_right _ _ (by omega), h1, Nat.sub_self, mixL, take_snoc l' k (by omega), List.drop_eq_getElem_cons hk, List.set_cons_zero, h2]
  simp only [List.append_assoc, List.singleton_append]

set_option maxRecDepth 20000 in
set_option maxHeartbeats 4000000 in
theorem each_any (N : Nat) (caps : List Value) (hN : ∀ (xs : Array Value) (u : World), Sem.run Tryd.prog (callFunc N xs) u = .ok (.enter N xs) u) (B g c cc : Nat) (pre l l' post : List Int) (hl : l'.length = l.length) (J : Nat → World → Prop) (w : World)
    (hlen : (pre ++ l ++ post).length ≤ 1000000) (hR : Row w B 3 g c (ints .i64 (pre ++ l ++ post))) (h0 : J 0 w)
    (hC : ∀ (k : Nat) (_ : k < l.length) (wr : World), J k wr → Below B w wr → Row wr B 3 g c (ints .i64 (pre ++ mixL l l' k ++ post)) →
      Calls Tryd.prog N ([Value.int .i64 (k : Int), Value.int .i64 (l.getD k 0)] ++ caps).toArray wr fun ed w' => ed = .returned (.int .i64 (l'.getD k 0)) ∧ J (k + 1) w' ∧ Row w' B 3 g c (ints .i64 (pre ++ mixL l l' k ++ post)) ∧ Below B wr w')
    (hJ : ∀ (k : Nat) (w' : World) (i : Nat) (v : Value), J k w' → J k (w'.setCell ⟨g, i, none⟩ v)) :
    Calls Tryd.prog 19 #[.slice (some ⟨g, pre.length, none⟩) l.length cc, .func (.func N) #[] caps.toArray] w fun ed w' => ed = .returned (.tuple #[]) ∧ J l.length w' ∧ Row w' B 3 g c (ints .i64 (pre ++ l' ++ post)) ∧ Below B w w' := by
  have HC := Lib.hid hC
  have HJ := Lib.hid hJ
  have HR : Hid (Row w B 3 g c (ints .i64 (pre ++ mixL l l' 0 ++ post))) := Lib.hid (by simpa [mixL] using hR)
  have H0 := Lib.hid h0
  have HL := Lib.hid hl
  have hn : l.length ≤ 1000000 := by simp at hlen; omega
  have ho : pre.length ≤ 1000000 := by simp at hlen; omega
  clear hC hJ hR h0 hl hlen
  go_enter Tryd.func19, Tryd.ntmps19
  go_wp2_with fail
  go_loopw [8] (fun i wr => ∃ k : Nat, k ≤ l.length ∧ i = .int .i64 k ∧ Hid (J k wr) ∧ Hid (Below B w wr) ∧ Hid (Row wr B 3 g c (ints .i64 (pre ++ mixL l l' k ++ post)))) (fun i _ => l.length - (intOf i).toNat)
  case atStart => exact ⟨0, by omega, rfl, H0, Lib.hid (Below.refl _ _), HR⟩
  case round =>
    obtain ⟨k, hk, rfl, HJr, HBr, HRr⟩ := hrel
    by_cases hlt : k < l.length
    · have hg : l.getD k 0 = l[k] := by rw [List.getD_eq_getElem?_getD, List.getElem?_eq_getElem hlt, Option.getD_some]
      have hc : wr.cell? ⟨g, pre.length + k, none⟩ = some (.int .i64 (l.getD k 0)) := by
        have h1 := mixL_get (pre := pre) (post := post) HL.out hlt
        obtain ⟨h2, h3⟩ := List.getElem?_eq_some_iff.1 h1
        rw [HRr.out.cell (j := pre.length + k) (by simpa [ints] using h2), hg]
        simp only [ints, List.getElem_map, h3]
      have b0 : (0 : Int) ≤ (k : Int) := by omega
      have b1 : (k : Int) < (l.length : Int) := by omega
      have HN := HC.out k hlt wr HJr.out HBr.out HRr.out
      obtain ⟨x, hx⟩ : ∃ x, l.getD k 0 = x := ⟨_, rfl⟩
      obtain ⟨y, hy⟩ : ∃ y, l'.getD k 0 = y := ⟨_, rfl⟩
      rw [hx, hy] at HN
      rw [hx] at hc
      have HY := Lib.hid hy
      have HX := Lib.hid hx
      have HN' := Lib.hid HN
      clear HN hx hy hg
      go_wp2_with fail
      refine HN'.out.mono ?_
      rintro e w2 ⟨rfl, j2, r2, b2⟩
      have hf := r2.free (pre.length + k)
      have hc2 : w2.cell? ⟨g, pre.length + k, none⟩ = some (.int .i64 x) := by
        obtain ⟨h2, h3⟩ := List.getElem?_eq_some_iff.1 (mixL_get (pre := pre) (post := post) HL.out hlt)
        rw [r2.cell (j := pre.length + k) (by simpa [ints] using h2), ← HX.out, List.getD_eq_getElem?_getD, List.getElem?_eq_getElem hlt, Option.getD_some]
        simp only [ints, List.getElem_map, h3]
      have J2 := Lib.hid j2
      have R2 := Lib.hid r2
      have B2 := Lib.hid (HBr.out.trans b2)
      clear j2 r2 b2
      go_wp2
      go_roundw
      case rel =>
        refine ⟨k + 1, by omega, by go_num, Lib.hid (HJ.out _ _ _ _ J2.out), Lib.hid (Row.setB B2.out R2.out _ _), Lib.hid ?_⟩
        have := R2.out.set (pre.length + k) (.int .i64 y)
        rw [ints_set, ← HY.out, mixL_set HL.out hlt, HY.out] at this
        exact this
      case measure => simp [intOf]; omega
    · obtain rfl : k = l.length := by omega
      go_wp2
      refine bodyPost_end (results_none rfl _ _ _) rfl ⟨rfl, HJr.out, ?_, HBr.out⟩
      have := HRr.out
      rw [mixL, List.take_of_length_le (by rw [HL.out]; omega), List.drop_of_length_le (by omega), List.append_nil] at this
      exact this

set_option maxRecDepth 20000 in
set_option maxHeartbeats 1000000 in
theorem each_nil (N : Nat) (caps : List Value) (A : Option Addr) (cc : Nat) (w : World) :
    Calls Tryd.prog 19 #[.slice A 0 cc, .func (.func N) #[] caps.toArray] w fun ed w' => ed = .returned (.tuple #[]) ∧ w' = w := by
  go_enter Tryd.func19, Tryd.ntmps19
  go_wp2_with fail
  go_loopw [8] (fun i wr => i = .int .i64 0 ∧ wr = w) (fun _ _ => 0)
  case atStart => exact ⟨rfl, rfl⟩
  case round =>
    obtain ⟨rfl, rfl⟩ := hrel
    go_wp2
    refine bodyPost_end (results_none rfl _ _ _) rfl ⟨rfl, rfl⟩

/-- .. a whole list of one's own -/
theorem each_own (N : Nat) (caps : List Value) (hN : ∀ (xs : Array Value) (u : World), Sem.run Tryd.prog (callFunc N xs) u = .ok (.enter N xs) u) (B c : Nat) (A : Option Addr) (l l' : List Int) (hl : l'.length = l.length) (J : Nat → World → Prop) (w : World)
    (hlen : l.length ≤ 1000000) (hO : Own w B 3 (.slice A l.length c) (ints .i64 l)) (h0 : J 0 w)
    (hC : ∀ (k : Nat) (_ : k < l.length) (wr : World), J k wr → Below B w wr → Own wr B 3 (.slice A l.length c) (ints .i64 (mixL l l' k)) →
      Calls Tryd.prog N ([Value.int .i64 (k : Int), Value.int .i64 (l.getD k 0)] ++ caps).toArray wr fun ed w' => ed = .returned (.int .i64 (l'.getD k 0)) ∧ J (k + 1) w' ∧ Own w' B 3 (.slice A l.length c) (ints .i64 (mixL l l' k)) ∧ Below B wr w')
    (hJ : ∀ (k : Nat) (w' : World) (g i : Nat) (v : Value), A = some ⟨g, 0, none⟩ → J k w' → J k (w'.setCell ⟨g, i, none⟩ v)) :
    Calls Tryd.prog 19 #[.slice A l.length c, .func (.func N) #[] caps.toArray] w fun ed w' => ed = .returned (.tuple #[]) ∧ J l.length w' ∧ Own w' B 3 (.slice A l.length c) (ints .i64 l') ∧ Below B w w' := by
  by_cases hz : l.length = 0
  · obtain rfl := List.eq_nil_of_length_eq_zero hz
    obtain rfl := List.eq_nil_of_length_eq_zero (hl.trans hz)
    exact (each_nil N caps A c w).mono fun _ _ ⟨h1, h2⟩ => by subst h2; exact ⟨h1, h0, hO, Below.refl _ _⟩
  have hi : (ints .i64 l).length = l.length := by simp [ints]
  obtain ⟨g, c', hv, hR⟩ := hO.inRow (by omega)
  injection hv with hA _ hc
  subst hA hc
  have e1 : ∀ (u : World) (x : List Int), x.length = l.length → Row u B 3 g c (ints .i64 ([] ++ x ++ [])) = Own u B 3 (.slice (some ⟨g, 0, none⟩) l.length c) (ints .i64 x) := fun u x hx => by
    rw [Row, List.nil_append, List.append_nil]
    congr 2
    simp [ints, hx]
  refine (each_any N caps hN B g c c [] l l' [] hl J w (by simpa using hlen) (by rw [e1 _ _ rfl]; exact hO) h0 ?_ fun k w' i v => hJ k w' g i v rfl).mono fun ed w' ⟨h1, h2, h3, h4⟩ => ⟨h1, h2, by rw [e1 _ _ hl] at h3; exact h3, h4⟩
  intro k hk wr hj hb hr
  have hm := mixL_length hl (Nat.le_of_lt hk)
  rw [e1 _ _ hm] at hr
  exact (hC k hk wr hj hb hr).mono fun _ u ⟨h1, h2, h3, h4⟩ => ⟨h1, h2, by rw [e1 u _ hm]; exact h3, h4⟩
end Go.Proofs.YtibconopcacelaaDoor
