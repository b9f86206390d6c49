/- PairPlains: for every two lists of numbers, what is plain of both, one behind the other, is both's; which of two that are mirrored it was says nothing. Conditions: none. -/
import Derived.Test.YtglnmphehclffaaPrM
import Derived.Test.YtglnmphehclffaaLaw
import Derived.Test.YtglnmphehclffaaRows
namespace Go.Proofs.Ytglnmphehclffaa.lawPlains
open Go.ChangeShapes Go.WideShapes Go.ChangeAt Go.RowKit

set_option maxHeartbeats 4000000 in
theorem walk_ok (w : World) (A : Option Addr) (a : List Int) (c : Nat) (A' : Option Addr) (b : List Int) (c' : Nat) (ha : a.length ≤ 1000) (hb : b.length ≤ 1000)
    (h : Lies w w.heap.size A (ints .i64 a)) (h' : Lies w w.heap.size A' (ints .i64 b)) :
    Calls Try.prog 6 #[.slice A a.length c, .slice A' b.length c'] w fun e w' => e = .returned (.bool true) ∧ Below w.heap.size w w' := by
  have H := Lib.hid h
  have H' := Lib.hid h'
  obtain ⟨m, hm⟩ : ∃ m, a.map mir = m := ⟨_, rfl⟩
  obtain ⟨t, ht⟩ : ∃ t, a ++ b = t := ⟨_, rfl⟩
  obtain ⟨x, hx⟩ : ∃ x, a.map pln = x := ⟨_, rfl⟩
  obtain ⟨y, hy⟩ : ∃ y, b.map pln = y := ⟨_, rfl⟩
  obtain ⟨z, hz⟩ : ∃ z, x ++ y = z := ⟨_, rfl⟩
  have hxl : x.length = a.length := by rw [← hx]; simp
  have hyl : y.length = b.length := by rw [← hy]; simp
  have hml : m.length ≤ 1000 := by rw [← hm]; simpa using ha
  have htl : t.length ≤ 2000 := by rw [← ht, List.length_append]; omega
  have hzl : z.length ≤ 2000 := by rw [← hz, List.length_append]; omega
  have HZ : Hid (t.map pln = z) := by show _ = _; rw [← ht, List.map_append, hx, hy, hz]
  have HMX : Hid (m.map pln = x) := by show _ = _; rw [← hm, ← hx, List.map_map]; exact List.map_congr_left fun c _ => pln_mir c
  have HM := Lib.hid hm
  have HTT := Lib.hid ht
  have HZZ := Lib.hid hz
  have HX := Lib.hid hx
  have HY := Lib.hid hy
  have lx : (ints .i64 x).length ≤ 1000 := by simp; omega
  have ly : (ints .i64 y).length ≤ 1000 := by simp; omega
  have la : (ints .i64 a).length ≤ 1000 := by simpa using ha
  have lb : (ints .i64 b).length ≤ 1000 := by simpa using hb
  have lx' : x.length ≤ 1000 := by omega
  clear h h' ht hx hy hz hyl hxl hm
  go_enter Try.func6, Try.ntmps6
  go_wp2_with fail
  refine (palive_any w).mono ?_
  rintro e w1 ⟨rfl, b1⟩
  have B1 := Lib.hid b1
  have D1 := Lib.hid b1
  clear b1
  have hz1 := B1.out.size
  go_wp2_with fail
  go_loopw [6, 5] (fun i v wr => ∃ (k : Nat), k ≤ a.length ∧ i = .int .i64 k ∧ Own wr w.heap.size 3 v (ints .i64 ((a.take k).map mir)) ∧ Below w.heap.size w wr) (fun i _ _ => a.length - (intOf i).toNat)
  case atStart => exact ⟨0, by omega, rfl, Own.empty _ _ _, B1.out⟩
  case round =>
    obtain ⟨k, hk, rfl, ho, hb⟩ := hrel
    have HO := Lib.hid ho
    have HB := Lib.hid hb
    have hsz := hb.size
    clear ho hb
    by_cases hlt : k < a.length
    · obtain ⟨p, rfl, hpb, hc⟩ := (H.out.below HB.out).int hlt
      have b0 : (0 : Int) ≤ (k : Int) := by omega
      have b1 : (k : Int) < (a.length : Int) := by omega
      obtain ⟨v, hv⟩ : ∃ v, a[k] = v := ⟨_, rfl⟩
      rw [hv] at hc
      have HV := Lib.hid hv
      clear hv
      go_wp2_with (first
        | (go_at_call 12; refine (mirror_any v _).mono ?_; rintro e w2 ⟨rfl, b2⟩; have O2 := Lib.hid (HO.out.below b2 (Nat.le_refl _)); have B2 := Lib.hid (HB.out.trans (b2.mono hsz)); clear b2)
        | (at_builtin; refine app_lit intsT w _ w.heap.size _ _ _ _ _ _ rfl rfl rfl rfl O2.out (by simp [Value.oneCell']) B2.out B2.out.size (by unfold maxLen; simp [ints]; omega) (by simp [ints]; omega) ?_; intro v' w' hown' hb' _ _))
      have HO2 := Lib.hid hown'
      have HB2 := Lib.hid hb'
      clear hown' hb'
      go_roundw
      case rel =>
        refine ⟨k + 1, by omega, by go_num, ?_, HB2.out⟩
        rw [List.take_succ_eq_append_getElem hlt, HV.out]
        simpa only [ints, List.map_append, List.map_cons, List.map_nil] using HO2.out
      case measure => simp [intOf]; omega
    · have o := HO.out
      rw [List.take_of_length_le (by omega), HM.out] at o
      obtain ⟨A2, c2, rfl, l2, _, _⟩ := o.form
      have L2 := Lib.hid l2
      have B2 := Lib.hid HB.out
      simp only [ints, List.length_map]
      clear o l2 HO HB hsz
      go_wp2_with fail
      refine (plain_any A2 m c2 wr L2.out (by omega)).mono ?_
      rintro e w3 ⟨v3, rfl, o3, b3⟩
      rw [HMX.out] at o3
      obtain ⟨A3, c3, rfl, l3, _, _⟩ := o3.form
      have B3 := Lib.hid (below_then B2.out b3)
      have L3 := Lib.hid l3
      have D3 := Lib.hid b3
      simp only [ints, List.length_map]
      clear o3 b3 l3
      go_wp2_with fail
      refine (plain_any A a c w3 (H.out.up B3.out) (by omega)).mono ?_
      rintro e w4 ⟨v4, rfl, o4, b4⟩
      rw [HX.out] at o4
      obtain ⟨A4, c4, rfl, l4, _, _⟩ := o4.form
      have B4 := Lib.hid (below_then B3.out b4)
      have L4 := Lib.hid l4
      have D4 := Lib.hid b4
      simp only [ints, List.length_map]
      clear o4 b4 l4
      have L3' := Lib.hid (L3.out.up D4.out)
      go_wp2_with fail
      refine (ints_ok A3 A4 x c3 c4 w4 L3'.out L4.out (by omega)).mono ?_
      rintro e w5 ⟨rfl, b5⟩
      have B5 := Lib.hid (below_then B4.out b5)
      have D5 := Lib.hid b5
      clear b5
      have HA := Lib.hid (H.out.up B5.out)
      have HB := Lib.hid (H'.out.up B5.out)
      have S1 := Lib.hid (Own.ofLit (w := w5) (B := w5.heap.size) (e := 3) #[] (Nat.le_refl _) (by simp [maxLen]))
      go_wp2_with (first
        | (at_builtin; refine app_src intsT w5 _ w5.heap.size w5.heap.size _ _ _ _ (ints .i64 a) _ _ _ rfl rfl rfl rfl (by simp) S1.out (HA.out.alloc (Nat.le_refl _) _) (ints_one _ _) (below_alloc _ _) (by simp) (by unfold maxLen; simp only [List.length_nil]; omega) (by simp only [List.length_nil]; omega) ?_; intro v1 w6 o4 b4 _ _
           have S2 := Lib.hid o4
           have B4' := Lib.hid b4
           clear S1 o4 b4)
        | (at_builtin; refine app_src intsT w5 _ w5.heap.size w5.heap.size _ _ _ _ (ints .i64 b) _ _ _ rfl rfl rfl rfl (by simp) S2.out (HB.out.below B4'.out) (ints_one _ _) B4'.out B4'.out.size (by unfold maxLen; simp only [List.nil_append]; omega) (by simp only [List.nil_append]; omega) ?_; intro v2 w7 o5 b5 _ _))
      have o5' : Own w7 w5.heap.size 3 v2 (ints .i64 t) := by rw [← HTT.out]; simpa [ints] using o5
      obtain ⟨A7, c7, rfl, l7, _, _⟩ := o5'.form
      have L7 := Lib.hid l7
      have B7 := Lib.hid (below_then B5.out b5)
      simp only [ints, List.length_map]
      clear o5 o5' l7 b5 S2 B4' HA HB
      go_wp2_with fail
      refine (plain_any A7 t c7 w7 L7.out (by omega)).mono ?_
      rintro e w8 ⟨v8, rfl, o8, b8⟩
      rw [HZ.out] at o8
      obtain ⟨A8, c8, rfl, l8, _, _⟩ := o8.form
      have B8 := Lib.hid (below_then B7.out b8)
      have L8 := Lib.hid l8
      have D8 := Lib.hid b8
      simp only [ints, List.length_map]
      clear o8 b8 l8
      have S1 := Lib.hid (Own.ofLit (w := w8) (B := w8.heap.size) (e := 3) #[] (Nat.le_refl _) (by simp [maxLen]))
      go_wp2_with fail
      refine (plain_any A a c _ (H.out.up (below_then B8.out (below_alloc _ _))) (by omega)).mono ?_
      rintro e w9 ⟨v9, rfl, o9, b9⟩
      rw [HX.out] at o9
      obtain ⟨A9, c9, rfl, l9, _, _⟩ := o9.form
      have L9 := Lib.hid l9
      have D9 := Lib.hid (below_then (below_alloc w8 _) b9)
      have B9 := Lib.hid (below_then B8.out D9.out)
      have S2 := Lib.hid (S1.out.below b9 (Nat.le_refl _))
      simp only [ints, List.length_map]
      clear o9 l9 b9 S1
      go_wp2_with (first
        | (at_builtin; refine app_src intsT w8 _ w8.heap.size w9.heap.size _ _ _ _ (ints .i64 x) _ _ _ rfl rfl rfl rfl (by simp) S2.out L9.out (ints_one _ _) D9.out D9.out.size (by unfold maxLen; simp only [List.length_nil]; omega) (by simp only [List.length_nil]; omega) ?_; intro v10 w10 o10 b10 _ _
           have S3 := Lib.hid o10
           have D10 := Lib.hid b10
           have B10 := Lib.hid (below_then B8.out b10)
           clear S2 o10 b10))
      refine (plain_any A' b c' _ (H'.out.up B10.out) (by omega)).mono ?_
      rintro e w11 ⟨v11, rfl, o11, b11⟩
      rw [HY.out] at o11
      obtain ⟨A11, c11, rfl, l11, _, _⟩ := o11.form
      have L11 := Lib.hid l11
      have D11 := Lib.hid (below_then D10.out b11)
      have S4 := Lib.hid (S3.out.below b11 (Nat.le_refl _))
      simp only [ints, List.length_map]
      clear o11 l11 b11 S3
      go_wp2_with (first
        | (at_builtin; refine app_src intsT w8 _ w8.heap.size w11.heap.size _ _ _ _ (ints .i64 y) _ _ _ rfl rfl rfl rfl (by simp) S4.out L11.out (ints_one _ _) D11.out D11.out.size (by unfold maxLen; simp only [List.nil_append]; omega) (by simp only [List.nil_append]; omega) ?_; intro v12 w12 o12 b12 _ _))
      have o12' : Own w12 w8.heap.size 3 v12 (ints .i64 z) := by rw [← HZZ.out]; simpa [ints] using o12
      obtain ⟨A12, c12, rfl, l12, _, _⟩ := o12'.form
      have L12 := Lib.hid l12
      have L8' := Lib.hid (L8.out.up b12)
      have B12 := Lib.hid (below_then B8.out b12)
      simp only [ints, List.length_map]
      clear o12 o12' l12 b12 S4
      refine (ints_ok A8 A12 z c8 c12 w12 L8'.out L12.out (by omega)).mono ?_
      rintro e w13 ⟨rfl, b13⟩
      have B13 := Lib.hid (below_then B12.out b13)
      clear b13
      go_wp2
      go_ret
      exact ⟨rfl, B13.out⟩

set_option maxHeartbeats 1000000 in
theorem walk_long (w : World) (A : Option Addr) (a : List Int) (c : Nat) (A' : Option Addr) (b : List Int) (c' : Nat) (ha : a.length ≤ 9223372036854775807) (hb : b.length ≤ 9223372036854775807)
    (hh : 1000 < a.length ∨ (a.length ≤ 1000 ∧ 1000 < b.length)) :
    Calls Try.prog 6 #[.slice A a.length c, .slice A' b.length c'] w fun e w' => e = .returned (.bool true) ∧ Below w.heap.size w w' := by
  rcases hh with h1 | ⟨h1, h2⟩
  all_goals
    go_enter Try.func6, Try.ntmps6
    go_wp2_with fail
    refine (palive_any w).mono ?_
    rintro e w1 ⟨rfl, b1⟩
    have B1 := Lib.hid b1
    have D1 := Lib.hid b1
    clear b1
    go_wp2
    go_ret
    exact ⟨rfl, B1.out⟩

theorem walk (w : World) (A : Option Addr) (a : List Int) (c : Nat) (hc : a.length ≤ c) (hm : c ≤ maxLen) (h : Lies w w.heap.size A (ints .i64 a)) (_ : ∀ n ∈ a, (Lit.int .i64 n).wf = true)
    (A' : Option Addr) (b : List Int) (c' : Nat) (hc' : b.length ≤ c') (hm' : c' ≤ maxLen) (h' : Lies w w.heap.size A' (ints .i64 b)) (_ : ∀ n ∈ b, (Lit.int .i64 n).wf = true) :
    Calls Try.prog 6 #[.slice A a.length c, .slice A' b.length c'] w fun e w' => e = .returned (.bool true) ∧ Below w.heap.size w w' := by
  unfold maxLen at hm hm'
  by_cases hh : 1000 < a.length ∨ (a.length ≤ 1000 ∧ 1000 < b.length)
  · exact walk_long w A a c A' b c' (by omega) (by omega) hh
  · exact walk_ok w A a c A' b c' (by omega) (by omega) h h'
-- WRAP
theorem spec : LawSpec Rows.pairPlainsSpec 2 := ⟨rfl, fun H ds h => by
  match ds, h with
  | [d0, d1], _ => rfl⟩
theorem params_ok : ∀ t ∈ Try.f6.params.toList, Try.prog.readableRec t = true ∧ t < Try.prog.types.size := by
  rw [Try.params6]
  intro t ht
  simp only [List.mem_cons, List.mem_nil_iff, or_false] at ht
  rcases ht with rfl | rfl
  all_goals exact ⟨by kernel_rfl, of_decide_eq_true (by kernel_rfl)⟩

theorem contract (H : Type) (enc : TypeId × Value → H) (W : World) (base : Nat) (args : Array Value) (ds gs : List (DataW H)) (before : List MemPlace)
    (hval : ∀ (j : Nat) t v, Try.f6.params[j]? = some t → args[j]? = some v → Value.okWide Try.prog W .any base t v)
    (hW : DataW.Whole enc Try.prog Try.f6.params.toList Rows.pairPlainsSpec.vars false W args.toList ds gs before) :
    Calls Try.prog 6 args W fun e W' => ∃ v, e = .returned v ∧ Rows.pairPlainsSpec.post enc Try.prog Try.f6 false true false false W args v W' := by
  have hW' := hW
  obtain ⟨p, q, hA0, hV, rfl, hfz, hnd⟩ := hW
  have hA : DataW.TrodAll enc Try.prog W 0 (fun _ => true) true Try.f6.params.toList args.toList ds p := hA0
  rw [Try.params6] at hA hval
  obtain ⟨v0, vs0, d0, ds0, p0, q0, hargs, rfl, rfl, h0, r0⟩ := trodAll_cons hA
  obtain ⟨v1, vs1, d1, ds1, p1, q1, rfl, rfl, rfl, h1, r1⟩ := trodAll_cons r0
  obtain ⟨rfl, rfl, rfl⟩ := trodAll_nil r1
  obtain rfl : args = #[v0, v1] := by cases args; simp_all
  obtain ⟨A0, l0, c0, rfl, hc0, hm0, hl0, wf0⟩ := open_list Try.underlying22 Try.underlying3 (by kernel_rfl) (hval 0 22 v0 rfl rfl) h0
  obtain ⟨A1, l1, c1, rfl, hc1, hm1, hl1, wf1⟩ := open_list Try.underlying22 Try.underlying3 (by kernel_rfl) (hval 1 22 v1 rfl rfl) h1
  exact (walk W A0 l0 c0 hc0 hm0 hl0 wf0 A1 l1 c1 hc1 hm1 hl1 wf1).mono fun e W' ⟨he, hg⟩ => ⟨_, he, law_post spec (by rw [Try.params6]; rfl) (by kernel_rfl) params_ok (by kernel_rfl) Try.underlying4 hW' hg⟩

theorem own : ownKnob Try.prog.godebug = none := by kernel_rfl
set_option maxRecDepth 100000 in
theorem lifted (os : Os) (started : os.Started) (H : Type) (enc : TypeId × Value → H) :
    ReturnsInHanded {} Try.checked os 6 .any (Rows.pairPlainsSpec.pre6 enc Try.prog Try.f6 Rows.pairPlainsRow.domain false) (Rows.pairPlainsSpec.post enc Try.prog Try.f6 false true false false) := by
  refine returnsInHanded_of_change (C := Try.checked) own started (by kernel_rfl) Try.func6
    (ChangeSpec.witness6 (enc := enc) (C := Try.checked) false ⟨#[], #[.slice none 0 0, .slice none 0 0], []⟩ 8 (by kernel_rfl) (by kernel_rfl) (by kernel_rfl) (by kernel_rfl)) ?_
  intro W base args ds gs before hval hW _ _
  exact contract H enc W base args ds gs before hval hW
theorem said : Rows.PairPlainsSaid :=
  OpenClaim.holds_of_wide 6 Try.f6 rfl rfl rfl rfl rfl rfl rfl ⟨rfl, rfl, rfl, rfl, rfl⟩ rfl rfl rfl rfl rfl (by kernel_rfl) Try.func6 (by kernel_rfl)
    (of_decide_eq_true (by kernel_rfl)) (by unfold Func.isWrapper; first | (rw [if_pos (by decide +kernel)]; kernel_rfl) | (rw [if_neg (by decide +kernel)]; exact ⟨rfl, rfl⟩))
    (fun os started H enc _ => lifted os started H enc)
end Go.Proofs.Ytglnmphehclffaa.lawPlains
