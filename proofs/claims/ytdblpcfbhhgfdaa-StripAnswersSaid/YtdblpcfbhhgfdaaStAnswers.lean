/- StripAnswers: for all two lists of numbers and every place, what is kept and what is left out is the document's. Conditions: none. -/
import Derived.Test.YtdblpcfbhhgfdaaStF
import Derived.Test.YtdblpcfbhhgfdaaLaw
import Derived.Test.YtdblpcfbhhgfdaaRows
namespace Go.Proofs.Ytdblpcfbhhgfdaa.lawAnswers
open Go.ChangeShapes Go.WideShapes Go.ChangeAt Go.RowKit

set_option maxRecDepth 20000 in
set_option maxHeartbeats 4000000 in
theorem walk_ok (w : World) (A : Option Addr) (a : List Int) (c : Nat) (hac : a.length ≤ c) (ha : a.length ≤ 2000) (h : Lies w w.heap.size A (ints .i64 a)) (A' : Option Addr) (b : List Int) (c' : Nat) (hb : b.length ≤ 2000) (h' : Lies w w.heap.size A' (ints .i64 b)) (i : Int) :
    Calls Try.prog 3 #[.slice A a.length c, .slice A' b.length c', .int .i64 i] w fun e w' => e = .returned (.bool true) ∧ Below w.heap.size w w' := by
  have ha' : a.length ≤ 1000000 := by omega
  have hb' : b.length ≤ 1000000 := by omega
  have H := Lib.hid h
  have H' := Lib.hid h'
  obtain ⟨ka, hka⟩ : ∃ x, keptI a = x := ⟨_, rfl⟩
  obtain ⟨ca, hca⟩ : ∃ x, charsI a = x := ⟨_, rfl⟩
  obtain ⟨oa, hoa⟩ : ∃ x, onlyI a = x := ⟨_, rfl⟩
  obtain ⟨ra, hra⟩ : ∃ x, rankI a i = x := ⟨_, rfl⟩
  have hl1 : ka.length ≤ 9223372036854775807 := by have := keptN_le a a.length; rw [← keptI, hka] at this; omega
  have hl2 : ca.length ≤ 9223372036854775807 := by have := chars_le a a.length; rw [List.take_length, hca] at this; omega
  have hl3 : oa.length ≤ 9223372036854775807 := by have := only_le a a.length; rw [List.take_length, hoa] at this; omega
  have HK := Lib.hid hka
  have HC := Lib.hid hca
  have HO := Lib.hid hoa
  have HR := Lib.hid hra
  obtain ⟨sm, hsm⟩ : ∃ x, decide (charsI a = charsI b) = x := ⟨_, rfl⟩
  have HS := Lib.hid hsm
  clear h h' hka hca hoa hra hsm
  go_enter Try.func3, Try.ntmps3
  go_wp2_with fail
  refine (salive_any w).mono ?_
  rintro e w1 ⟨rfl, b1⟩
  have B1 := Lib.hid b1
  have D1 := Lib.hid b1
  clear b1
  go_wp2_with fail
  refine (skept_any A a c w1 (H.out.up B1.out) ha').mono ?_
  rintro e w2 ⟨v2, rfl, o2, b2⟩
  rw [HK.out] at o2
  obtain ⟨A2, c2, rfl, l2, _, _⟩ := o2.form
  have B2 := Lib.hid (below_then B1.out b2)
  have L2 := Lib.hid l2
  have D2 := Lib.hid b2
  simp only [ints, List.length_map]
  clear o2 b2 l2
  go_wp2_with fail
  refine (rkept_any A a c w2 (H.out.up B2.out) ha').mono ?_
  rintro e w3 ⟨v3, rfl, o3, b3⟩
  rw [HK.out] at o3
  obtain ⟨A3, c3, rfl, l3, _, _⟩ := o3.form
  have B3 := Lib.hid (below_then B2.out b3)
  have L3 := Lib.hid l3
  have D3 := Lib.hid b3
  simp only [ints, List.length_map]
  clear o3 b3 l3
  have L2b := Lib.hid (L2.out.up D3.out)
  go_wp2_with fail
  refine (ints_ok A2 A3 ka c2 c3 w3 L2b.out L3.out hl1).mono ?_
  rintro e w4 ⟨rfl, b4⟩
  have B4 := Lib.hid (below_then B3.out b4)
  have D4 := Lib.hid b4
  clear b4
  go_wp2_with fail
  refine (schars_any A a c w4 (H.out.up B4.out) ha').mono ?_
  rintro e w5 ⟨v5, rfl, o5, b5⟩
  rw [HC.out] at o5
  obtain ⟨A5, c5, rfl, l5, _, _⟩ := o5.form
  have B5 := Lib.hid (below_then B4.out b5)
  have L5 := Lib.hid l5
  have D5 := Lib.hid b5
  simp only [ints, List.length_map]
  clear o5 b5 l5
  go_wp2_with fail
  refine (rchars_any A a c w5 (H.out.up B5.out) ha').mono ?_
  rintro e w6 ⟨v6, rfl, o6, b6⟩
  rw [HC.out] at o6
  obtain ⟨A6, c6, rfl, l6, _, _⟩ := o6.form
  have B6 := Lib.hid (below_then B5.out b6)
  have L6 := Lib.hid l6
  have D6 := Lib.hid b6
  simp only [ints, List.length_map]
  clear o6 b6 l6
  have L5b := Lib.hid (L5.out.up D6.out)
  go_wp2_with fail
  refine (ints_ok A5 A6 ca c5 c6 w6 L5b.out L6.out hl2).mono ?_
  rintro e w7 ⟨rfl, b7⟩
  have B7 := Lib.hid (below_then B6.out b7)
  have D7 := Lib.hid b7
  clear b7
  go_wp2_with fail
  refine (sonly_any A a c w7 (H.out.up B7.out) ha').mono ?_
  rintro e w8 ⟨v8, rfl, o8, b8⟩
  rw [HO.out] at o8
  obtain ⟨A8, c8, rfl, l8, _, _⟩ := o8.form
  have B8 := Lib.hid (below_then B7.out b8)
  have L8 := Lib.hid l8
  have D8 := Lib.hid b8
  simp only [ints, List.length_map]
  clear o8 b8 l8
  go_wp2_with fail
  refine (ronly_any A a c w8 (H.out.up B8.out) ha').mono ?_
  rintro e w9 ⟨v9, rfl, o9, b9⟩
  rw [HO.out] at o9
  obtain ⟨A9, c9, rfl, l9, _, _⟩ := o9.form
  have B9 := Lib.hid (below_then B8.out b9)
  have L9 := Lib.hid l9
  have D9 := Lib.hid b9
  simp only [ints, List.length_map]
  clear o9 b9 l9
  have L8b := Lib.hid (L8.out.up D9.out)
  go_wp2_with fail
  refine (ints_ok A8 A9 oa c8 c9 w9 L8b.out L9.out hl3).mono ?_
  rintro e w10 ⟨rfl, b10⟩
  have B10 := Lib.hid (below_then B9.out b10)
  have D10 := Lib.hid b10
  clear b10
  go_wp2_with fail
  refine (srank_any A a c i w10 hac (H.out.up B10.out) ha').mono ?_
  rintro e w11 ⟨rfl, b11⟩
  rw [HR.out]
  have B11 := Lib.hid (below_then B10.out b11)
  have D11 := Lib.hid b11
  clear b11
  go_wp2_with fail
  refine (rrank_any A a c i w11 (H.out.up B11.out) ha').mono ?_
  rintro e wq ⟨rfl, rfl⟩
  rw [HR.out]
  go_wp2_with fail
  refine (ssame_any A a c A' b c' w11 (H.out.up B11.out) (H'.out.up B11.out) ha' hb').mono ?_
  rintro e w12 ⟨rfl, b12⟩
  rw [HS.out]
  have B12 := Lib.hid (below_then B11.out b12)
  have D12 := Lib.hid b12
  clear b12
  go_wp2_with fail
  refine (rsame_any A a c A' b c' w12 (H.out.up B12.out) (H'.out.up B12.out) ha' hb').mono ?_
  rintro e w13 ⟨rfl, b13⟩
  rw [HS.out]
  have B13 := Lib.hid (below_then B12.out b13)
  have D13 := Lib.hid b13
  clear b13
  have hss : (sm == sm) = true := by simp
  go_wp2_with fail
  go_ret
  exact ⟨rfl, B13.out⟩

set_option maxHeartbeats 1000000 in
theorem walk_long (w : World) (A : Option Addr) (a : List Int) (c : Nat) (A' : Option Addr) (b : List Int) (c' : Nat) (ha : a.length ≤ 9223372036854775807) (hb : b.length ≤ 9223372036854775807) (hh : 2000 < a.length ∨ 2000 < b.length) (i : Int) :
    Calls Try.prog 3 #[.slice A a.length c, .slice A' b.length c', .int .i64 i] w fun e w' => e = .returned (.bool true) ∧ Below w.heap.size w w' := by
  by_cases h1 : 2000 < a.length
  · clear hh
    go_enter Try.func3, Try.ntmps3
    go_wp2_with fail
    refine (salive_any w).mono ?_
    rintro e w1 ⟨rfl, b1⟩
    have B1 := Lib.hid b1
    have D1 := Lib.hid b1
    clear b1
    go_wp2
    go_ret
    exact ⟨rfl, B1.out⟩
  · have h2 : 2000 < b.length := by omega
    clear hh
    go_enter Try.func3, Try.ntmps3
    go_wp2_with fail
    refine (salive_any w).mono ?_
    rintro e w1 ⟨rfl, b1⟩
    have B1 := Lib.hid b1
    have D1 := Lib.hid b1
    clear b1
    go_wp2
    go_ret
    exact ⟨rfl, B1.out⟩

theorem walk (w : World) (A : Option Addr) (a : List Int) (c : Nat) (hac : a.length ≤ c) (hm : c ≤ maxLen) (h : Lies w w.heap.size A (ints .i64 a)) (_ : ∀ n ∈ a, (Lit.int .i64 n).wf = true)
    (A' : Option Addr) (b : List Int) (c' : Nat) (_ : b.length ≤ c') (hm' : c' ≤ maxLen) (h' : Lies w w.heap.size A' (ints .i64 b)) (_ : ∀ n ∈ b, (Lit.int .i64 n).wf = true) (i : Int) (_ : (Lit.int .i64 i).wf = true) :
    Calls Try.prog 3 #[.slice A a.length c, .slice A' b.length c', .int .i64 i] w fun e w' => e = .returned (.bool true) ∧ Below w.heap.size w w' := by
  unfold maxLen at hm hm'
  by_cases hh : 2000 < a.length ∨ 2000 < b.length
  · exact walk_long w A a c A' b c' (by omega) (by omega) hh i
  · exact walk_ok w A a c hac (by omega) h A' b c' (by omega) h' i
-- WRAP
theorem spec : LawSpec Rows.stripAnswersSpec 3 := ⟨rfl, fun H ds h => by
  match ds, h with
  | [d0, d1, d2], _ => rfl⟩
theorem params_ok : ∀ t ∈ Try.f3.params.toList, Try.prog.readableRec t = true ∧ t < Try.prog.types.size := by
  rw [Try.params3]
  intro t ht
  simp only [List.mem_cons, List.mem_nil_iff, or_false] at ht
  rcases ht with rfl | rfl | rfl
  all_goals exact ⟨by kernel_rfl, of_decide_eq_true (by kernel_rfl)⟩

theorem contract (H : Type) (enc : TypeId × Value → H) (W : World) (base : Nat) (args : Array Value) (ds gs : List (DataW H)) (before : List MemPlace)
    (hval : ∀ (j : Nat) t v, Try.f3.params[j]? = some t → args[j]? = some v → Value.okWide Try.prog W .any base t v)
    (hW : DataW.Whole enc Try.prog Try.f3.params.toList Rows.stripAnswersSpec.vars false W args.toList ds gs before) :
    Calls Try.prog 3 args W fun e W' => ∃ v, e = .returned v ∧ Rows.stripAnswersSpec.post enc Try.prog Try.f3 false true false false W args v W' := by
  have hW' := hW
  obtain ⟨p, q, hA0, hV, rfl, hfz, hnd⟩ := hW
  have hA : DataW.TrodAll enc Try.prog W 0 (fun _ => true) true Try.f3.params.toList args.toList ds p := hA0
  rw [Try.params3] at hA hval
  obtain ⟨v0, vs0, d0, ds0, p0, q0, hargs, rfl, rfl, h0, r0⟩ := trodAll_cons hA
  obtain ⟨v1, vs1, d1, ds1, p1, q1, rfl, rfl, rfl, h1, r1⟩ := trodAll_cons r0
  obtain ⟨v2, vs2, d2, ds2, p2, q2, rfl, rfl, rfl, h2, r2⟩ := trodAll_cons r1
  obtain ⟨rfl, rfl, rfl⟩ := trodAll_nil r2
  obtain rfl : args = #[v0, v1, v2] := by cases args; simp_all
  obtain ⟨A0, l0, c0, rfl, hc0, hm0, hl0, wf0⟩ := open_list Try.underlying22 Try.underlying3 (by kernel_rfl) (hval 0 22 v0 rfl rfl) h0
  obtain ⟨A1, l1, c1, rfl, hc1, hm1, hl1, wf1⟩ := open_list Try.underlying22 Try.underlying3 (by kernel_rfl) (hval 1 22 v1 rfl rfl) h1
  obtain ⟨a2, rfl, rfl, rfl, w2⟩ := open_int Try.underlying3 (hval 2 3 v2 rfl rfl) h2
  exact (walk W A0 l0 c0 hc0 hm0 hl0 wf0 A1 l1 c1 hc1 hm1 hl1 wf1 a2 w2).mono fun e W' ⟨he, hg⟩ => ⟨_, he, law_post spec (by rw [Try.params3]; rfl) (by kernel_rfl) params_ok (by kernel_rfl) Try.underlying4 hW' hg⟩

theorem own : ownKnob Try.prog.godebug = none := by kernel_rfl
set_option maxRecDepth 100000 in
theorem lifted (os : Os) (started : os.Started) (H : Type) (enc : TypeId × Value → H) :
    ReturnsInHanded {} Try.checked os 3 .any (Rows.stripAnswersSpec.pre6 enc Try.prog Try.f3 Rows.stripAnswersRow.domain false) (Rows.stripAnswersSpec.post enc Try.prog Try.f3 false true false false) := by
  refine returnsInHanded_of_change (C := Try.checked) own started (by kernel_rfl) Try.func3
    (ChangeSpec.witness6 (enc := enc) (C := Try.checked) false ⟨#[], #[.slice none 0 0, .slice none 0 0, .int .i64 0], []⟩ 8 (by kernel_rfl) (by kernel_rfl) (by kernel_rfl) (by kernel_rfl)) ?_
  intro W base args ds gs before hval hW _ _
  exact contract H enc W base args ds gs before hval hW
theorem said : Rows.StripAnswersSaid :=
  OpenClaim.holds_of_wide 3 Try.f3 rfl rfl rfl rfl rfl rfl rfl ⟨rfl, rfl, rfl, rfl, rfl⟩ rfl rfl rfl rfl rfl (by kernel_rfl) Try.func3 (by kernel_rfl)
    (of_decide_eq_true (by kernel_rfl)) (by unfold Func.isWrapper; first | (rw [if_pos (by decide +kernel)]; kernel_rfl) | (rw [if_neg (by decide +kernel)]; exact ⟨rfl, rfl⟩))
    (fun os started H enc _ => lifted os started H enc)
end Go.Proofs.Ytdblpcfbhhgfdaa.lawAnswers
