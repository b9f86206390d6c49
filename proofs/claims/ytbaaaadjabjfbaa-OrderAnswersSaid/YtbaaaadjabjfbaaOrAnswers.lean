/- OrderAnswers: for every list of levels, of characters and of flags the order, the order back and its refusal, whether a list is one, what is seen and what is left are the document's, and what was handed in stays. Conditions: none. -/
import Derived.Test.YtbaaaadjabjfbaaOrV
import Derived.Test.YtbaaaadjabjfbaaLaw
import Derived.Test.YtbaaaadjabjfbaaLawD
import Derived.Test.YtbaaaadjabjfbaaSame
import Derived.Test.YtbaaaadjabjfbaaRows
namespace Go.Proofs.Ytbaaaadjabjfbaa.lawAnswers
open Go.ChangeShapes Go.WideShapes Go.ChangeAt Go.RowKit

theorem backE_le (l : List Int) : (backE l).length ≤ l.length := by
  rw [backE]
  split
  · rw [backO_length]; exact Nat.le_refl _
  · exact Nat.zero_le _
theorem seen_le (chars levels : List Int) : (seenI chars levels).length ≤ chars.length := by
  by_cases h : chars.length = levels.length
  · rw [seenI_length h]; exact Nat.le_refl _
  · rw [seenI, if_neg h]; exact Nat.zero_le _
theorem only_le (l : List Int) (keep : List Bool) : (onlyI l keep).length ≤ l.length := List.length_filter_le _ _

set_option maxRecDepth 20000 in
set_option maxHeartbeats 8000000 in
theorem walk_ok (w : World) (A A' A'' : Option Addr) (levels chars : List Int) (keep : List Bool) (c c' c'' : Nat) (hl : levels.length ≤ 200) (hl' : chars.length ≤ 200) (hl'' : keep.length ≤ 200) (h : Lies w w.heap.size A (ints .i64 levels)) (h' : Lies w w.heap.size A' (ints .i64 chars)) (h'' : Lies w w.heap.size A'' (bits keep)) :
    Calls Try.prog 3 #[.slice A levels.length c, .slice A' chars.length c', .slice A'' keep.length c''] w fun e w' => e = .returned (.bool true) ∧ Below w.heap.size w w' := by
  have HL := Lib.hid h
  have HC := Lib.hid h'
  have HK := Lib.hid h''
  obtain ⟨e0, he0⟩ : ∃ e, backR chars = e := ⟨_, rfl⟩
  obtain ⟨r0, hr0⟩ : ∃ r, rightO chars = r := ⟨_, rfl⟩
  have HE0 := Lib.hid he0
  have HR0 := Lib.hid hr0
  have HBL := Lib.hid (backE_le chars)
  have HSL := Lib.hid (seen_le chars levels)
  have HOL := Lib.hid (only_le chars keep)
  have HIL := Lib.hid (orderI_length levels)
  have d1 : decide (200 < (levels.length : Int)) = false := by simp; omega
  have d2 : decide (200 < (chars.length : Int)) = false := by simp; omega
  have d3 : decide (200 < (keep.length : Int)) = false := by simp; omega
  have hee : (e0 == e0) = true := by simp
  have hrr : (r0 == r0) = true := by simp
  clear h h' h'' he0 hr0
  go_enter Try.func3, Try.ntmps3
  go_wp2_with fail
  refine (oralive_any w).mono ?_
  rintro e w1 ⟨rfl, b1⟩
  have B1 := Lib.hid b1
  have L1 := Lib.hid (HL.out.up b1)
  have C1 := Lib.hid (HC.out.up b1)
  have K1 := Lib.hid (HK.out.up b1)
  clear b1
  go_wp2_with (first
    | (at_builtin; refine app_src intsT w1 (w1.alloc (.cells #[] 3)) w1.heap.size w1.heap.size _ _ _ [] (ints .i64 levels) A levels.length c rfl rfl rfl rfl (by simp) (Own.ofLit #[] (Nat.le_refl _) (by decide)) (L1.out.alloc (Nat.le_refl _) _) (ints_one _ _) (below_alloc _ _) (by simp) (by unfold maxLen; simp; omega) (by simp; omega) ?_; intro v2 w2 o2 b2 _ _; obtain ⟨A2, c2, rfl, l2, _, _⟩ := o2.form; have M2 := Lib.hid l2; have B2 := Lib.hid (below_then B1.out b2); have L2 := Lib.hid (L1.out.up b2); have C2 := Lib.hid (C1.out.up b2); have K2 := Lib.hid (K1.out.up b2); clear o2 b2 l2)
    | fail)
  go_wp2_with fail
  refine (nback14_any A' chars c' w2 C2.out (by omega)).mono ?_
  rintro e w3 ⟨v3, rfl, o3, b3⟩
  rw [HE0.out]
  obtain ⟨A3, c3, rfl, l3, -, -⟩ := o3.form
  rw [ints, List.length_map]
  have L3 := Lib.hid (L2.out.up b3)
  have C3 := Lib.hid (C2.out.up b3)
  have K3 := Lib.hid (K2.out.up b3)
  have M3 := Lib.hid (M2.out.up b3)
  have P3 := Lib.hid l3
  have B3 := Lib.hid (below_then B2.out b3)
  clear b3 o3 l3
  go_wp2_with fail
  refine (rback14_any A' chars c' w3 C3.out (by omega)).mono ?_
  rintro e w4 ⟨v4, rfl, o4, b4⟩
  rw [HE0.out]
  obtain ⟨A4, c4, rfl, l4, -, -⟩ := o4.form
  rw [ints, List.length_map]
  have L4 := Lib.hid (L3.out.up b4)
  have C4 := Lib.hid (C3.out.up b4)
  have K4 := Lib.hid (K3.out.up b4)
  have M4 := Lib.hid (M3.out.up b4)
  have P4 := Lib.hid (P3.out.up b4)
  have Q4 := Lib.hid l4
  have B4 := Lib.hid (below_then B3.out b4)
  clear b4 o4 l4
  go_wp2_with fail
  refine (nof14_any A2 levels c2 w4 M4.out (by omega)).mono ?_
  rintro e w5 ⟨v5, rfl, o5, b5⟩
  obtain ⟨A5, c5, rfl, l5, -, -⟩ := o5.form
  rw [ints, List.length_map]
  have L5 := Lib.hid (L4.out.up b5)
  have C5 := Lib.hid (C4.out.up b5)
  have K5 := Lib.hid (K4.out.up b5)
  have M5 := Lib.hid (M4.out.up b5)
  have P5 := Lib.hid (P4.out.up b5)
  have Q5 := Lib.hid (Q4.out.up b5)
  have R5 := Lib.hid l5
  have B5 := Lib.hid (below_then B4.out b5)
  clear b5 o5 l5
  go_wp2_with fail
  refine (rof14_any A levels c w5 L5.out (by omega)).mono ?_
  rintro e w6 ⟨v6, rfl, o6, b6⟩
  obtain ⟨A6, c6, rfl, l6, -, -⟩ := o6.form
  rw [ints, List.length_map]
  have L6 := Lib.hid (L5.out.up b6)
  have C6 := Lib.hid (C5.out.up b6)
  have K6 := Lib.hid (K5.out.up b6)
  have M6 := Lib.hid (M5.out.up b6)
  have P6 := Lib.hid (P5.out.up b6)
  have Q6 := Lib.hid (Q5.out.up b6)
  have R6 := Lib.hid (R5.out.up b6)
  have S6 := Lib.hid l6
  have B6 := Lib.hid (below_then B5.out b6)
  clear b6 o6 l6
  go_wp2_with fail
  refine (ints_ok A5 A6 (orderI levels) c5 c6 w6 R6.out S6.out (by rw [HIL.out]; omega)).mono ?_
  rintro e w7 ⟨rfl, b7⟩
  have L7 := Lib.hid (L6.out.up b7)
  have C7 := Lib.hid (C6.out.up b7)
  have K7 := Lib.hid (K6.out.up b7)
  have M7 := Lib.hid (M6.out.up b7)
  have P7 := Lib.hid (P6.out.up b7)
  have Q7 := Lib.hid (Q6.out.up b7)
  have B7 := Lib.hid (below_then B6.out b7)
  clear b7
  go_wp2_with fail
  refine (ints_ok A3 A4 (backE chars) c3 c4 w7 P7.out Q7.out (by have := HBL.out; omega)).mono ?_
  rintro e w8 ⟨rfl, b8⟩
  have L8 := Lib.hid (L7.out.up b8)
  have C8 := Lib.hid (C7.out.up b8)
  have K8 := Lib.hid (K7.out.up b8)
  have M8 := Lib.hid (M7.out.up b8)
  have B8 := Lib.hid (below_then B7.out b8)
  clear b8
  go_wp2_with fail
  refine (nright14_any A' chars c' w8 C8.out (by omega)).mono ?_
  rintro e w9 ⟨rfl, b9⟩
  rw [HR0.out]
  have L9 := Lib.hid (L8.out.up b9)
  have C9 := Lib.hid (C8.out.up b9)
  have K9 := Lib.hid (K8.out.up b9)
  have M9 := Lib.hid (M8.out.up b9)
  have B9 := Lib.hid (below_then B8.out b9)
  clear b9
  go_wp2_with fail
  refine (rright14_any A' chars c' w9 C9.out (by omega)).mono ?_
  rintro e w10 ⟨rfl, b10⟩
  rw [HR0.out]
  have L10 := Lib.hid (L9.out.up b10)
  have C10 := Lib.hid (C9.out.up b10)
  have K10 := Lib.hid (K9.out.up b10)
  have M10 := Lib.hid (M9.out.up b10)
  have B10 := Lib.hid (below_then B9.out b10)
  clear b10
  go_wp2_with fail
  refine (nseen14_any A' A2 chars levels c' c2 w10 C10.out M10.out (by omega)).mono ?_
  rintro e w11 ⟨v11, rfl, o11, b11⟩
  obtain ⟨A11, c11, rfl, l11, -, -⟩ := o11.form
  rw [ints, List.length_map]
  have L11 := Lib.hid (L10.out.up b11)
  have C11 := Lib.hid (C10.out.up b11)
  have K11 := Lib.hid (K10.out.up b11)
  have M11 := Lib.hid (M10.out.up b11)
  have R11 := Lib.hid l11
  have B11 := Lib.hid (below_then B10.out b11)
  clear b11 o11 l11
  go_wp2_with fail
  refine (rseen14_any A' A chars levels c' c w11 C11.out L11.out (by omega)).mono ?_
  rintro e w12 ⟨v12, rfl, o12, b12⟩
  obtain ⟨A12, c12, rfl, l12, -, -⟩ := o12.form
  rw [ints, List.length_map]
  have L12 := Lib.hid (L11.out.up b12)
  have C12 := Lib.hid (C11.out.up b12)
  have K12 := Lib.hid (K11.out.up b12)
  have M12 := Lib.hid (M11.out.up b12)
  have R12 := Lib.hid (R11.out.up b12)
  have S12 := Lib.hid l12
  have B12 := Lib.hid (below_then B11.out b12)
  clear b12 o12 l12
  go_wp2_with fail
  refine (ints_ok A11 A12 (seenI chars levels) c11 c12 w12 R12.out S12.out (by have := HSL.out; omega)).mono ?_
  rintro e w13 ⟨rfl, b13⟩
  have L13 := Lib.hid (L12.out.up b13)
  have C13 := Lib.hid (C12.out.up b13)
  have K13 := Lib.hid (K12.out.up b13)
  have M13 := Lib.hid (M12.out.up b13)
  have B13 := Lib.hid (below_then B12.out b13)
  clear b13
  go_wp2_with fail
  refine (nonly14_any A' A'' chars keep c' c'' w13 C13.out K13.out (by omega) (by omega)).mono ?_
  rintro e w14 ⟨v14, rfl, o14, b14⟩
  obtain ⟨A14, c14, rfl, l14, -, -⟩ := o14.form
  rw [ints, List.length_map]
  have L14 := Lib.hid (L13.out.up b14)
  have C14 := Lib.hid (C13.out.up b14)
  have K14 := Lib.hid (K13.out.up b14)
  have M14 := Lib.hid (M13.out.up b14)
  have R14 := Lib.hid l14
  have B14 := Lib.hid (below_then B13.out b14)
  clear b14 o14 l14
  go_wp2_with fail
  refine (ronly14_any A' A'' chars keep c' c'' w14 C14.out K14.out (by omega) (by omega)).mono ?_
  rintro e w15 ⟨v15, rfl, o15, b15⟩
  obtain ⟨A15, c15, rfl, l15, -, -⟩ := o15.form
  rw [ints, List.length_map]
  have L15 := Lib.hid (L14.out.up b15)
  have C15 := Lib.hid (C14.out.up b15)
  have K15 := Lib.hid (K14.out.up b15)
  have M15 := Lib.hid (M14.out.up b15)
  have R15 := Lib.hid (R14.out.up b15)
  have S15 := Lib.hid l15
  have B15 := Lib.hid (below_then B14.out b15)
  clear b15 o15 l15
  go_wp2_with fail
  refine (ints_ok A14 A15 (onlyI chars keep) c14 c15 w15 R15.out S15.out (by have := HOL.out; omega)).mono ?_
  rintro e w16 ⟨rfl, b16⟩
  have L16 := Lib.hid (L15.out.up b16)
  have C16 := Lib.hid (C15.out.up b16)
  have K16 := Lib.hid (K15.out.up b16)
  have M16 := Lib.hid (M15.out.up b16)
  have B16 := Lib.hid (below_then B15.out b16)
  clear b16
  go_wp2_with fail
  refine (ints_ok A2 A levels c2 c w16 M16.out L16.out (by omega)).mono ?_
  rintro e w17 ⟨rfl, b17⟩
  have B17 := Lib.hid (below_then B16.out b17)
  clear b17
  go_wp2
  go_ret
  exact ⟨rfl, B17.out⟩

set_option maxHeartbeats 1000000 in
theorem walk_long (w : World) (A A' A'' : Option Addr) (levels chars : List Int) (keep : List Bool) (c c' c'' : Nat) (hh : 200 < levels.length ∨ 200 < chars.length ∨ 200 < keep.length) :
    Calls Try.prog 3 #[.slice A levels.length c, .slice A' chars.length c', .slice A'' keep.length c''] w fun e w' => e = .returned (.bool true) ∧ Below w.heap.size w w' := by
  rcases d1 : decide (200 < (levels.length : Int)) with _ | _
  · rcases d2 : decide (200 < (chars.length : Int)) with _ | _
    · have d3 : decide (200 < (keep.length : Int)) = true := by simp at d1 d2 ⊢; omega
      clear hh
      go_enter Try.func3, Try.ntmps3
      go_wp2_with fail
      refine (oralive_any _).mono ?_
      rintro e w1 ⟨rfl, b1⟩
      have B1 := Lib.hid b1
      clear b1
      go_wp2
      go_ret
      exact ⟨rfl, B1.out⟩
    · clear hh
      go_enter Try.func3, Try.ntmps3
      go_wp2_with fail
      refine (oralive_any _).mono ?_
      rintro e w1 ⟨rfl, b1⟩
      have B1 := Lib.hid b1
      clear b1
      go_wp2
      go_ret
      exact ⟨rfl, B1.out⟩
  · clear hh
    go_enter Try.func3, Try.ntmps3
    go_wp2_with fail
    refine (oralive_any _).mono ?_
    rintro e w1 ⟨rfl, b1⟩
    have B1 := Lib.hid b1
    clear b1
    go_wp2
    go_ret
    exact ⟨rfl, B1.out⟩

theorem walk (w : World) (A : Option Addr) (l : List Int) (c : Nat) (_ : l.length ≤ c) (_ : c ≤ maxLen) (h : Lies w w.heap.size A (ints .i64 l)) (_ : ∀ n ∈ l, (Lit.int .i64 n).wf = true)
    (A' : Option Addr) (l' : List Int) (c' : Nat) (_ : l'.length ≤ c') (_ : c' ≤ maxLen) (h' : Lies w w.heap.size A' (ints .i64 l')) (_ : ∀ n ∈ l', (Lit.int .i64 n).wf = true)
    (A'' : Option Addr) (k : List Bool) (c'' : Nat) (_ : k.length ≤ c'') (_ : c'' ≤ maxLen) (h'' : Lies w w.heap.size A'' (bits k)) :
    Calls Try.prog 3 #[.slice A l.length c, .slice A' l'.length c', .slice A'' k.length c''] w fun e w' => e = .returned (.bool true) ∧ Below w.heap.size w w' := by
  by_cases hh : 200 < l.length ∨ 200 < l'.length ∨ 200 < k.length
  · exact walk_long w A A' A'' l l' k c c' c'' hh
  · exact walk_ok w A A' A'' l l' k c c' c'' (by omega) (by omega) (by omega) h h' h''
-- WRAP
theorem spec : LawSpec Rows.orderAnswersSpec 3 := ⟨rfl, fun H ds h => by
  match ds, h with
  | [d0, d1, d2], _ => rfl⟩
theorem params_ok : ∀ t ∈ Try.f3.params.toList, Try.prog.readableRec t = true ∧ t < Try.prog.types.size := by
  rw [Try.params3]
  intro t ht
  simp only [List.mem_cons, List.mem_nil_iff, or_false] at ht
  rcases ht with rfl | rfl | rfl
  all_goals exact ⟨by kernel_rfl, of_decide_eq_true (by kernel_rfl)⟩

set_option maxRecDepth 100000 in
theorem contract (H : Type) (enc : TypeId × Value → H) (W : World) (base : Nat) (args : Array Value) (ds gs : List (DataW H)) (before : List MemPlace)
    (hval : ∀ (j : Nat) t v, Try.f3.params[j]? = some t → args[j]? = some v → Value.okWide Try.prog W .any base t v)
    (hW : DataW.Whole enc Try.prog Try.f3.params.toList Rows.orderAnswersSpec.vars false W args.toList ds gs before) :
    Calls Try.prog 3 args W fun e W' => ∃ v, e = .returned v ∧ Rows.orderAnswersSpec.post enc Try.prog Try.f3 false true false false W args v W' := by
  have hW' := hW
  obtain ⟨p, q, hA0, hV, rfl, hfz, hnd⟩ := hW
  have hA : DataW.TrodAll enc Try.prog W 0 (fun _ => true) true Try.f3.params.toList args.toList ds p := hA0
  rw [Try.params3] at hA hval
  obtain ⟨v0, vs0, d0, ds0, p0, q0, hargs, rfl, rfl, h0, r0⟩ := trodAll_cons hA
  obtain ⟨v1, vs1, d1, ds1, p1, q1, rfl, rfl, rfl, h1, r1⟩ := trodAll_cons r0
  obtain ⟨v2, vs2, d2, ds2, p2, q2, rfl, rfl, rfl, h2, r2⟩ := trodAll_cons r1
  obtain ⟨rfl, rfl, rfl⟩ := trodAll_nil r2
  obtain rfl : args = #[v0, v1, v2] := by cases args; simp_all
  obtain ⟨A0, l0, c0, rfl, hc0, hm0, hl0, wf0⟩ := open_list Try.underlying22 Try.underlying3 (by kernel_rfl) (hval 0 22 v0 rfl rfl) h0
  obtain ⟨A1, l1, c1, rfl, hc1, hm1, hl1, wf1⟩ := open_list Try.underlying22 Try.underlying3 (by kernel_rfl) (hval 1 22 v1 rfl rfl) h1
  obtain ⟨A2, l2, c2, rfl, hc2, hm2, hl2⟩ := open_flags Try.underlying23 Try.underlying4 (by kernel_rfl) (hval 2 23 v2 rfl rfl) h2
  exact (walk W A0 l0 c0 hc0 hm0 hl0 wf0 A1 l1 c1 hc1 hm1 hl1 wf1 A2 l2 c2 hc2 hm2 hl2).mono fun e W' ⟨he, hg⟩ => ⟨_, he, law_post spec (by rw [Try.params3]; rfl) (by kernel_rfl) params_ok (by kernel_rfl) Try.underlying4 hW' hg⟩

theorem own : ownKnob Try.prog.godebug = none := by kernel_rfl
set_option maxRecDepth 100000 in
theorem lifted (os : Os) (started : os.Started) (H : Type) (enc : TypeId × Value → H) :
    ReturnsInHanded {} Try.checked os 3 .any (Rows.orderAnswersSpec.pre6 enc Try.prog Try.f3 Rows.orderAnswersRow.domain false) (Rows.orderAnswersSpec.post enc Try.prog Try.f3 false true false false) := by
  refine returnsInHanded_of_change (C := Try.checked) own started (by kernel_rfl) Try.func3
    (ChangeSpec.witness6 (enc := enc) (C := Try.checked) false ⟨#[], #[.slice none 0 0, .slice none 0 0, .slice none 0 0], []⟩ 8 (by kernel_rfl) (by kernel_rfl) (by kernel_rfl) (by kernel_rfl)) ?_
  intro W base args ds gs before hval hW _ _
  exact contract H enc W base args ds gs before hval hW
set_option maxRecDepth 100000 in
theorem said : Rows.OrderAnswersSaid :=
  OpenClaim.holds_of_wide 3 Try.f3 rfl rfl rfl rfl rfl rfl rfl ⟨rfl, rfl, rfl, rfl, rfl⟩ rfl rfl rfl rfl rfl (by kernel_rfl) Try.func3 (by kernel_rfl)
    (of_decide_eq_true (by kernel_rfl)) (by unfold Func.isWrapper; first | (rw [if_pos (by decide +kernel)]; kernel_rfl) | (rw [if_neg (by decide +kernel)]; exact ⟨rfl, rfl⟩))
    (fun os started H enc _ => lifted os started H enc)
end Go.Proofs.Ytbaaaadjabjfbaa.lawAnswers
