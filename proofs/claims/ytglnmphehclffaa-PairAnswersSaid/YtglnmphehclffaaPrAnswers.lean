/- PairAnswers: for every two numbers and every list of numbers, their brackets and what they are mirrored into are the document's. Conditions: none. -/
import Derived.Test.YtglnmphehclffaaPrM
import Derived.Test.YtglnmphehclffaaLaw
import Derived.Test.YtglnmphehclffaaRows
namespace Go.Proofs.Ytglnmphehclffaa.lawAnswers
open Go.ChangeShapes Go.WideShapes Go.ChangeAt Go.RowKit

set_option maxHeartbeats 4000000 in
theorem walk_ok (w : World) (a b : Int) (A : Option Addr) (l : List Int) (c : Nat) (hl : l.length ≤ 5000) (h : Lies w w.heap.size A (ints .i64 l)) :
    Calls Try.prog 3 #[.int .i64 a, .int .i64 b, .slice A l.length c] w fun e w' => e = .returned (.bool true) ∧ Below w.heap.size w w' := by
  obtain ⟨o, ho⟩ : ∃ o, oth a = o := ⟨_, rfl⟩
  obtain ⟨x, p, k⟩ := o
  obtain ⟨s, hs⟩ : ∃ s, sameB a b = s := ⟨_, rfl⟩
  obtain ⟨m, hm⟩ : ∃ m, mir a = m := ⟨_, rfl⟩
  obtain ⟨t, ht⟩ : ∃ t, isM a = t := ⟨_, rfl⟩
  obtain ⟨z, hz⟩ : ∃ z, l.map pln = z := ⟨_, rfl⟩
  have hzl : l.length = z.length := by rw [← hz]; simp
  have HO := Lib.hid ho
  have HS := Lib.hid hs
  have HS2 : Hid ((isB a && isB b && (asB a == asB b)) = s) := (sameB_both a b).trans hs
  have HM := Lib.hid hm
  have HT := Lib.hid ht
  have HZ := Lib.hid hz
  have HZL := Lib.hid hzl
  have H := Lib.hid h
  clear ho hs hm ht hz hzl h
  go_enter Try.func3, Try.ntmps3
  go_wp2_with fail
  refine (palive_any w).mono ?_
  rintro e w1 ⟨rfl, b1⟩
  have B1 := Lib.hid b1
  clear b1
  go_wp2_with fail
  refine (other_any a w1).mono ?_
  rintro e w2 ⟨rfl, b2⟩
  rw [HO.out]
  have B2 := Lib.hid (below_then B1.out b2)
  clear b2
  go_wp2_with fail
  refine (rother_any a w2).mono ?_
  rintro e w3 ⟨rfl, b3⟩
  rw [HO.out]
  have B3 := Lib.hid (below_then B2.out b3)
  clear b3
  go_wp2_with fail
  refine (same_any a b w3).mono ?_
  rintro e w4 ⟨rfl, b4⟩
  rw [HS.out]
  have B4 := Lib.hid (below_then B3.out b4)
  clear b4
  go_wp2_with fail
  refine (rsame_any a b w4).mono ?_
  rintro e w5 ⟨rfl, b5⟩
  rw [HS2.out]
  have B5 := Lib.hid (below_then B4.out b5)
  clear b5
  go_wp2_with fail
  refine (mirror_any a w5).mono ?_
  rintro e w6 ⟨rfl, b6⟩
  rw [HM.out]
  have B6 := Lib.hid (below_then B5.out b6)
  clear b6
  go_wp2_with fail
  refine (rmirror_any a w6).mono ?_
  rintro e w7 ⟨rfl, b7⟩
  rw [HM.out]
  have B7 := Lib.hid (below_then B6.out b7)
  clear b7
  go_wp2_with fail
  refine (mirrored_any a w7).mono ?_
  rintro e w8 ⟨rfl, b8⟩
  rw [HT.out]
  have B8 := Lib.hid (below_then B7.out b8)
  clear b8
  go_wp2_with fail
  refine (rmirrored_any a w8).mono ?_
  rintro e w9 ⟨rfl, b9⟩
  rw [HT.out]
  have B9 := Lib.hid (below_then B8.out b9)
  clear b9
  go_wp2_with fail
  refine (plain_any A l c w9 (H.out.up B9.out) (by omega)).mono ?_
  rintro e w10 ⟨v10, rfl, o10, b10⟩
  rw [HZ.out] at o10
  obtain ⟨A10, c10, rfl, l10, _, _⟩ := o10.form
  have B10 := Lib.hid (below_then B9.out b10)
  have L10 := Lib.hid l10
  simp only [ints, List.length_map]
  clear o10 b10 l10
  go_wp2_with fail
  refine (rplain_any A l c w10 (H.out.up B10.out) (by omega)).mono ?_
  rintro e w11 ⟨v11, rfl, o11, b11⟩
  rw [HZ.out] at o11
  obtain ⟨A11, c11, rfl, l11, _, _⟩ := o11.form
  have B11 := Lib.hid (below_then B10.out b11)
  have L11 := Lib.hid l11
  have L10' := Lib.hid (L10.out.up b11)
  simp only [ints, List.length_map]
  clear o11 b11 l11 L10
  have hz5 : z.length ≤ 5000 := by have := HZL.out; omega
  go_wp2_with fail
  refine (ints_ok A10 A11 z c10 c11 w11 L10'.out L11.out (by omega)).mono ?_
  rintro e w12 ⟨rfl, b12⟩
  have B12 := Lib.hid (below_then B11.out b12)
  clear b12
  go_wp2
  go_ret
  exact ⟨rfl, B12.out⟩

set_option maxHeartbeats 1000000 in
theorem walk_long (w : World) (a b : Int) (A : Option Addr) (l : List Int) (c : Nat) (hl : l.length ≤ 9223372036854775807) (hh : 5000 < l.length) :
    Calls Try.prog 3 #[.int .i64 a, .int .i64 b, .slice A l.length c] w fun e w' => e = .returned (.bool true) ∧ Below w.heap.size w w' := by
  go_enter Try.func3, Try.ntmps3
  go_wp2_with fail
  refine (palive_any w).mono ?_
  rintro e w1 ⟨rfl, b1⟩
  have B1 := Lib.hid b1
  clear b1
  go_wp2
  go_ret
  exact ⟨rfl, B1.out⟩

theorem walk (w : World) (a : Int) (_ : (Lit.int .i64 a).wf = true) (b : Int) (_ : (Lit.int .i64 b).wf = true) (A : Option Addr) (l : List Int) (c : Nat) (hc : l.length ≤ c) (hm : c ≤ maxLen) (h : Lies w w.heap.size A (ints .i64 l)) (_ : ∀ n ∈ l, (Lit.int .i64 n).wf = true) :
    Calls Try.prog 3 #[.int .i64 a, .int .i64 b, .slice A l.length c] w fun e w' => e = .returned (.bool true) ∧ Below w.heap.size w w' := by
  unfold maxLen at hm
  by_cases hh : 5000 < l.length
  · exact walk_long w a b A l c (by omega) hh
  · exact walk_ok w a b A l c (by omega) h
-- WRAP
theorem spec : LawSpec Rows.pairAnswersSpec 3 := ⟨rfl, fun H ds h => by
  match ds, h with
  | [d0, d1, d2], _ => rfl⟩
theorem params_ok : ∀ t ∈ Try.f3.params.toList, Try.prog.readableRec t = true ∧ t < Try.prog.types.size := by
  rw [Try.params3]
  intro t ht
  simp only [List.mem_cons, List.mem_nil_iff, or_false] at ht
  rcases ht with rfl | rfl | rfl
  all_goals exact ⟨by kernel_rfl, of_decide_eq_true (by kernel_rfl)⟩

theorem contract (H : Type) (enc : TypeId × Value → H) (W : World) (base : Nat) (args : Array Value) (ds gs : List (DataW H)) (before : List MemPlace)
    (hval : ∀ (j : Nat) t v, Try.f3.params[j]? = some t → args[j]? = some v → Value.okWide Try.prog W .any base t v)
    (hW : DataW.Whole enc Try.prog Try.f3.params.toList Rows.pairAnswersSpec.vars false W args.toList ds gs before) :
    Calls Try.prog 3 args W fun e W' => ∃ v, e = .returned v ∧ Rows.pairAnswersSpec.post enc Try.prog Try.f3 false true false false W args v W' := by
  have hW' := hW
  obtain ⟨p, q, hA0, hV, rfl, hfz, hnd⟩ := hW
  have hA : DataW.TrodAll enc Try.prog W 0 (fun _ => true) true Try.f3.params.toList args.toList ds p := hA0
  rw [Try.params3] at hA hval
  obtain ⟨v0, vs0, d0, ds0, p0, q0, hargs, rfl, rfl, h0, r0⟩ := trodAll_cons hA
  obtain ⟨v1, vs1, d1, ds1, p1, q1, rfl, rfl, rfl, h1, r1⟩ := trodAll_cons r0
  obtain ⟨v2, vs2, d2, ds2, p2, q2, rfl, rfl, rfl, h2, r2⟩ := trodAll_cons r1
  obtain ⟨rfl, rfl, rfl⟩ := trodAll_nil r2
  obtain rfl : args = #[v0, v1, v2] := by cases args; simp_all
  obtain ⟨a0, rfl, rfl, rfl, w0⟩ := open_int Try.underlying3 (hval 0 3 v0 rfl rfl) h0
  obtain ⟨a1, rfl, rfl, rfl, w1⟩ := open_int Try.underlying3 (hval 1 3 v1 rfl rfl) h1
  obtain ⟨A2, l2, c2, rfl, hc2, hm2, hl2, wf2⟩ := open_list Try.underlying22 Try.underlying3 (by kernel_rfl) (hval 2 22 v2 rfl rfl) h2
  exact (walk W a0 w0 a1 w1 A2 l2 c2 hc2 hm2 hl2 wf2).mono fun e W' ⟨he, hg⟩ => ⟨_, he, law_post spec (by rw [Try.params3]; rfl) (by kernel_rfl) params_ok (by kernel_rfl) Try.underlying4 hW' hg⟩

theorem own : ownKnob Try.prog.godebug = none := by kernel_rfl
set_option maxRecDepth 100000 in
theorem lifted (os : Os) (started : os.Started) (H : Type) (enc : TypeId × Value → H) :
    ReturnsInHanded {} Try.checked os 3 .any (Rows.pairAnswersSpec.pre6 enc Try.prog Try.f3 Rows.pairAnswersRow.domain false) (Rows.pairAnswersSpec.post enc Try.prog Try.f3 false true false false) := by
  refine returnsInHanded_of_change (C := Try.checked) own started (by kernel_rfl) Try.func3
    (ChangeSpec.witness6 (enc := enc) (C := Try.checked) false ⟨#[], #[.int .i64 0, .int .i64 0, .slice none 0 0], []⟩ 8 (by kernel_rfl) (by kernel_rfl) (by kernel_rfl) (by kernel_rfl)) ?_
  intro W base args ds gs before hval hW _ _
  exact contract H enc W base args ds gs before hval hW
theorem said : Rows.PairAnswersSaid :=
  OpenClaim.holds_of_wide 3 Try.f3 rfl rfl rfl rfl rfl rfl rfl ⟨rfl, rfl, rfl, rfl, rfl⟩ rfl rfl rfl rfl rfl (by kernel_rfl) Try.func3 (by kernel_rfl)
    (of_decide_eq_true (by kernel_rfl)) (by unfold Func.isWrapper; first | (rw [if_pos (by decide +kernel)]; kernel_rfl) | (rw [if_neg (by decide +kernel)]; exact ⟨rfl, rfl⟩))
    (fun os started H enc _ => lifted os started H enc)
end Go.Proofs.Ytglnmphehclffaa.lawAnswers
