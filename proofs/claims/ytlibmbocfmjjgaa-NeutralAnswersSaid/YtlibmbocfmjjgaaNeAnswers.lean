/- NeutralAnswers: for every list of numbers and every three numbers, the list behind it, the groups, the levels and a level are the document's, and what was handed in stays. Conditions: none. -/
import Derived.Test.YtlibmbocfmjjgaaNeV
import Derived.Test.YtlibmbocfmjjgaaLaw
import Derived.Test.YtlibmbocfmjjgaaSame
import Derived.Test.YtlibmbocfmjjgaaInts2
import Derived.Test.YtlibmbocfmjjgaaRows
namespace Go.Proofs.Ytlibmbocfmjjgaa.lawAnswers
open Go.ChangeShapes Go.WideShapes Go.ChangeAt Go.RowKit

set_option maxRecDepth 20000 in
set_option maxHeartbeats 8000000 in
theorem walk_ok (w : World) (A : Option Addr) (l : List Int) (c : Nat) (hl : l.length ≤ 500) (h : Lies w w.heap.size A (ints .i64 l)) (x y z : Int) :
    Calls Try.prog 3 #[.slice A l.length c, .agg #[.int .i64 x, .int .i64 y, .int .i64 z]] w fun e w' => e = .returned (.bool true) ∧ Below w.heap.size w w' := by
  obtain ⟨w0, hw0'⟩ : ∃ u, w.alloc (.cells #[.int .i64 x, .int .i64 y, .int .i64 z] 23) = u := ⟨_, rfl⟩
  obtain ⟨q, hq⟩ : ∃ q, w.heap.size = q := ⟨_, rfl⟩
  have B0 : Hid (Below w.heap.size w w0) := Lib.hid (hw0' ▸ below_alloc w _)
  have BX : Hid (∀ u, Below w0.heap.size w0 u → u.cell? ⟨q, 0, none⟩ = some (.int .i64 x) ∧ u.cell? ⟨q, 1, none⟩ = some (.int .i64 y) ∧ u.cell? ⟨q, 2, none⟩ = some (.int .i64 z)) := by
    subst hw0' hq
    exact Lib.hid fun u hu => ⟨boxed hu rfl, boxed hu rfl, boxed hu rfl⟩
  have H := Lib.hid (h.up B0.out)
  obtain ⟨L, hL⟩ : ∃ L, nofI l x y z = L := ⟨_, rfl⟩
  have HL := Lib.hid hL
  have HLL : Hid (L.length = l.length) := Lib.hid (by rw [← hL, nofI_length])
  obtain ⟨P, hP⟩ : ∃ P, groupsI l = P := ⟨_, rfl⟩
  have HP := Lib.hid hP
  have HPL : Hid (P.length ≤ 1000000) := Lib.hid (by rw [← hP]; have := (ginv l l.length (Nat.le_refl _)).len; show (grpN l l.length).length ≤ _; omega)
  obtain ⟨V, hV⟩ : ∃ V, nLevelsI l x = V := ⟨_, rfl⟩
  have HV := Lib.hid hV
  have HVL : Hid (V.length = l.length) := Lib.hid (by rw [← hV, nLevelsI, List.length_map])
  clear h hL hP hV
  go_enter Try.func3, Try.ntmps3
  go_wp2_with fail
  clear hw0'
  have hq' := Lib.hid hq
  clear hq
  refine (nalive_any w0).mono ?_
  rintro e w1 ⟨rfl, b1⟩
  have D1 := Lib.hid b1
  have B1 := Lib.hid (below_then B0.out b1)
  have H1 := Lib.hid (H.out.up b1)
  clear b1
  go_wp2_with (first
    | (at_builtin; refine app_src intsT w1 (w1.alloc (.cells #[] 3)) w1.heap.size w1.heap.size _ _ _ [] (ints .i64 l) A l.length c rfl rfl rfl rfl (by simp [ints]) (Own.ofLit #[] (Nat.le_refl _) (by decide)) (H1.out.alloc (Nat.le_refl _) _) (ints_one _ _) (below_alloc _ _) (by simp) (by unfold maxLen; simp [ints]; omega) (by simp [ints]; omega) ?_; intro v2 w2 o2 b2 _ _; have O2 := Lib.hid o2; have D2 := Lib.hid b2; clear o2 b2; obtain ⟨x0, x1, x2⟩ := BX.out w2 (below_then D1.out D2.out))
    | fail)
  go_quiet (fail)
  obtain ⟨w3, hw3⟩ : ∃ u, w2.drewN nq = u := ⟨_, rfl⟩
  rw [hw3]
  have o3 : Own w3 w1.heap.size 3 v2 (ints .i64 l) := by rw [← hw3]; simpa using O2.out.drawn nq
  obtain ⟨Ao, co, hvo, lo, -, -⟩ := o3.form
  rw [ints, List.length_map] at hvo
  subst hvo
  have D3 : Hid (Below w1.heap.size w1 w3) := Lib.hid (by rw [← hw3]; exact below_drawn D2.out nq)
  have B3 := Lib.hid (below_then B1.out D3.out)
  have H3 := Lib.hid (H1.out.up D3.out)
  have LO3 := Lib.hid lo
  clear x0 x1 x2 o3 lo hw3 nq
  go_wp2_with fail
  refine (nof_any Ao l co x y z w3 LO3.out (by omega)).mono ?_
  rintro e w4 ⟨v4, rfl, o4, b4⟩
  rw [HL.out] at o4
  obtain ⟨A4, c4, hv4, l4, -, -⟩ := o4.form
  rw [ints, List.length_map, HLL.out] at hv4
  subst hv4
  have B4 := Lib.hid (below_then B3.out b4)
  have H4 := Lib.hid (H3.out.up b4)
  have LO4 := Lib.hid (LO3.out.up b4)
  have L4 := Lib.hid l4
  clear o4 l4 b4
  go_wp2_with fail
  refine (rof11_any A l c x y z w4 H4.out (by omega)).mono ?_
  rintro e w5 ⟨v5, rfl, o5, b5⟩
  rw [HL.out] at o5
  obtain ⟨A5, c5, hv5, l5, -, -⟩ := o5.form
  rw [ints, List.length_map, HLL.out] at hv5
  subst hv5
  have B5 := Lib.hid (below_then B4.out b5)
  have H5 := Lib.hid (H4.out.up b5)
  have LO5 := Lib.hid (LO4.out.up b5)
  have HI := ints_ok A4 A5 L c4 c5 w5 (L4.out.up b5) l5 (by rw [HLL.out]; omega)
  rw [HLL.out] at HI
  have HI' := Lib.hid HI
  clear o5 l5 b5 HI
  go_wp2_with fail
  refine HI'.out.mono ?_
  rintro e w6 ⟨rfl, b6⟩
  have B6 := Lib.hid (below_then B5.out b6)
  have H6 := Lib.hid (H5.out.up b6)
  have LO6 := Lib.hid (LO5.out.up b6)
  clear b6 HI'
  go_wp2_with fail
  refine (ngroups_any A l c w6 H6.out (by omega)).mono ?_
  rintro e w7 ⟨A7, c7, rfl, l7, b7⟩
  rw [HP.out] at l7 ⊢
  have B7 := Lib.hid (below_then B6.out b7)
  have H7 := Lib.hid (H6.out.up b7)
  have LO7 := Lib.hid (LO6.out.up b7)
  have L7 := Lib.hid l7
  clear l7 b7
  go_wp2_with fail
  refine (rgroups_all A l c w7 H7.out (by omega)).mono ?_
  rintro e w8 ⟨A8, c8, rfl, l8, b8⟩
  rw [HP.out] at l8 ⊢
  have B8 := Lib.hid (below_then B7.out b8)
  have H8 := Lib.hid (H7.out.up b8)
  have LO8 := Lib.hid (LO7.out.up b8)
  have L78 := Lib.hid (L7.out.up b8)
  have L8 := Lib.hid l8
  clear l8 b8
  go_wp2_with fail
  refine (rsame10_any A7 c7 P A8 c8 w8 L78.out L8.out HPL.out).mono ?_
  rintro e w9 ⟨rfl, b9⟩
  have B9 := Lib.hid (below_then B8.out b9)
  have H9 := Lib.hid (H8.out.up b9)
  have LO9 := Lib.hid (LO8.out.up b9)
  clear b9
  go_wp2_with fail
  refine (nlevels_any A l c x w9 H9.out (by omega)).mono ?_
  rintro e u1 ⟨v4, rfl, o4, b4⟩
  rw [HV.out] at o4
  obtain ⟨A10, c10, hv4, l4, -, -⟩ := o4.form
  rw [ints, List.length_map, HVL.out] at hv4
  subst hv4
  have B10 := Lib.hid (below_then B9.out b4)
  have H10 := Lib.hid (H9.out.up b4)
  have LO10 := Lib.hid (LO9.out.up b4)
  have L10 := Lib.hid l4
  clear o4 l4 b4
  go_wp2_with fail
  refine (rlevels11_any A l c x u1 H10.out (by omega)).mono ?_
  rintro e u2 ⟨v5, rfl, o5, b5⟩
  rw [HV.out] at o5
  obtain ⟨A11, c11, hv5, l5, -, -⟩ := o5.form
  rw [ints, List.length_map, HVL.out] at hv5
  subst hv5
  have B11 := Lib.hid (below_then B10.out b5)
  have H11 := Lib.hid (H10.out.up b5)
  have LO11 := Lib.hid (LO10.out.up b5)
  have HI := ints_ok A10 A11 V c10 c11 u2 (L10.out.up b5) l5 (by rw [HVL.out]; omega)
  rw [HVL.out] at HI
  have HI' := Lib.hid HI
  clear o5 l5 b5 HI
  go_wp2_with fail
  refine HI'.out.mono ?_
  rintro e u3 ⟨rfl, b6⟩
  have B12 := Lib.hid (below_then B11.out b6)
  have H12 := Lib.hid (H11.out.up b6)
  have LO12 := Lib.hid (LO11.out.up b6)
  clear b6 HI'
  go_wp2_with fail
  refine (nlevel_any y x u3).mono ?_
  rintro e u4 ⟨rfl, b7⟩
  obtain ⟨lv, hlv⟩ : ∃ n, nLevelI y x = n := ⟨_, rfl⟩
  have HLV := Lib.hid hlv
  rw [hlv]
  have B13 := Lib.hid (below_then B12.out b7)
  have H13 := Lib.hid (H12.out.up b7)
  have LO13 := Lib.hid (LO12.out.up b7)
  clear b7 hlv
  go_wp2_with fail
  refine (rlevel11_any y x u4).mono ?_
  rintro e uq ⟨rfl, rfl⟩
  rw [HLV.out]
  go_wp2_with fail
  refine (ints_ok Ao A l co c u4 LO13.out H13.out (by omega)).mono ?_
  rintro e u5 ⟨rfl, b8⟩
  have B14 := Lib.hid (below_then B13.out b8)
  clear b8
  go_wp2
  go_ret
  exact ⟨rfl, B14.out⟩

set_option maxHeartbeats 1000000 in
theorem walk_long (w : World) (A : Option Addr) (l : List Int) (c : Nat) (hl : l.length ≤ 9223372036854775807) (hh : 500 < l.length) (x y z : Int) :
    Calls Try.prog 3 #[.slice A l.length c, .agg #[.int .i64 x, .int .i64 y, .int .i64 z]] w fun e w' => e = .returned (.bool true) ∧ Below w.heap.size w w' := by
  go_enter Try.func3, Try.ntmps3
  go_wp2_with fail
  refine (nalive_any _).mono ?_
  rintro e w1 ⟨rfl, b1⟩
  have B1 := Lib.hid (below_then (below_alloc w _) b1)
  clear b1
  go_wp2
  go_ret
  exact ⟨rfl, B1.out⟩

theorem walk (w : World) (A : Option Addr) (l : List Int) (c : Nat) (hc : l.length ≤ c) (hm : c ≤ maxLen) (h : Lies w w.heap.size A (ints .i64 l)) (_ : ∀ n ∈ l, (Lit.int .i64 n).wf = true) (x y z : Int) (_ : (Lit.int .i64 x).wf = true) (_ : (Lit.int .i64 y).wf = true) (_ : (Lit.int .i64 z).wf = true) :
    Calls Try.prog 3 #[.slice A l.length c, .agg #[.int .i64 x, .int .i64 y, .int .i64 z]] w fun e w' => e = .returned (.bool true) ∧ Below w.heap.size w w' := by
  unfold maxLen at hm
  by_cases hh : 500 < l.length
  · exact walk_long w A l c (by omega) hh x y z
  · exact walk_ok w A l c (by omega) h x y z
-- WRAP
theorem spec : LawSpec Rows.neutralAnswersSpec 2 := ⟨rfl, fun H ds h => by
  match ds, h with
  | [d0, d1], _ => rfl⟩
theorem params_ok : ∀ t ∈ Try.f3.params.toList, Try.prog.readableRec t = true ∧ t < Try.prog.types.size := by
  rw [Try.params3]
  intro t ht
  simp only [List.mem_cons, List.mem_nil_iff, or_false] at ht
  rcases ht with rfl | rfl
  all_goals exact ⟨by kernel_rfl, of_decide_eq_true (by kernel_rfl)⟩

theorem contract (H : Type) (enc : TypeId × Value → H) (W : World) (base : Nat) (args : Array Value) (ds gs : List (DataW H)) (before : List MemPlace)
    (hval : ∀ (j : Nat) t v, Try.f3.params[j]? = some t → args[j]? = some v → Value.okWide Try.prog W .any base t v)
    (hW : DataW.Whole enc Try.prog Try.f3.params.toList Rows.neutralAnswersSpec.vars false W args.toList ds gs before) :
    Calls Try.prog 3 args W fun e W' => ∃ v, e = .returned v ∧ Rows.neutralAnswersSpec.post enc Try.prog Try.f3 false true false false W args v W' := by
  have hW' := hW
  obtain ⟨p, q, hA0, hV, rfl, hfz, hnd⟩ := hW
  have hA : DataW.TrodAll enc Try.prog W 0 (fun _ => true) true Try.f3.params.toList args.toList ds p := hA0
  rw [Try.params3] at hA hval
  obtain ⟨v0, vs0, d0, ds0, p0, q0, hargs, rfl, rfl, h0, r0⟩ := trodAll_cons hA
  obtain ⟨v1, vs1, d1, ds1, p1, q1, rfl, rfl, rfl, h1, r1⟩ := trodAll_cons r0
  obtain ⟨rfl, rfl, rfl⟩ := trodAll_nil r1
  obtain rfl : args = #[v0, v1] := by cases args; simp_all
  obtain ⟨A0, l0, c0, rfl, hc0, hm0, hl0, wf0⟩ := open_list Try.underlying22 Try.underlying3 (by kernel_rfl) (hval 0 22 v0 rfl rfl) h0
  obtain ⟨n1, rfl, hn1, wf1⟩ := open_nums Try.underlying23 Try.underlying3 (by kernel_rfl) (by kernel_rfl) (hval 1 23 v1 rfl rfl) h1
  rcases n1 with _ | ⟨x1_0, n1⟩
  · simp at hn1
  rcases n1 with _ | ⟨x1_1, n1⟩
  · simp at hn1
  rcases n1 with _ | ⟨x1_2, n1⟩
  · simp at hn1
  obtain rfl : n1 = [] := List.eq_nil_of_length_eq_zero (by simpa using hn1)
  exact (walk W A0 l0 c0 hc0 hm0 hl0 wf0 x1_0 x1_1 x1_2 (wf1 _ (by simp)) (wf1 _ (by simp)) (wf1 _ (by simp))).mono fun e W' ⟨he, hg⟩ => ⟨_, he, law_post spec (by rw [Try.params3]; rfl) (by kernel_rfl) params_ok (by kernel_rfl) Try.underlying4 hW' hg⟩

theorem own : ownKnob Try.prog.godebug = none := by kernel_rfl
set_option maxRecDepth 100000 in
theorem lifted (os : Os) (started : os.Started) (H : Type) (enc : TypeId × Value → H) :
    ReturnsInHanded {} Try.checked os 3 .any (Rows.neutralAnswersSpec.pre6 enc Try.prog Try.f3 Rows.neutralAnswersRow.domain false) (Rows.neutralAnswersSpec.post enc Try.prog Try.f3 false true false false) := by
  refine returnsInHanded_of_change (C := Try.checked) own started (by kernel_rfl) Try.func3
    (ChangeSpec.witness6 (enc := enc) (C := Try.checked) false ⟨#[], #[.slice none 0 0, .agg #[.int .i64 0, .int .i64 0, .int .i64 0]], []⟩ 8 (by kernel_rfl) (by kernel_rfl) (by kernel_rfl) (by kernel_rfl)) ?_
  intro W base args ds gs before hval hW _ _
  exact contract H enc W base args ds gs before hval hW
theorem said : Rows.NeutralAnswersSaid :=
  OpenClaim.holds_of_wide 3 Try.f3 rfl rfl rfl rfl rfl rfl rfl ⟨rfl, rfl, rfl, rfl, rfl⟩ rfl rfl rfl rfl rfl (by kernel_rfl) Try.func3 (by kernel_rfl)
    (of_decide_eq_true (by kernel_rfl)) (by unfold Func.isWrapper; first | (rw [if_pos (by decide +kernel)]; kernel_rfl) | (rw [if_neg (by decide +kernel)]; exact ⟨rfl, rfl⟩))
    (fun os started H enc _ => lifted os started H enc)
end Go.Proofs.Ytlibmbocfmjjgaa.lawAnswers
