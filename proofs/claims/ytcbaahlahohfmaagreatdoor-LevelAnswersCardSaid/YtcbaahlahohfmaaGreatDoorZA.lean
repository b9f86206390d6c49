/- LevelAnswers: for every two lists of numbers and every number, the levels, the base, the classes, the greatest level, and whether all have one level, are the document's, and what was handed in stays. Conditions: none. -/
import Derived.Test.YtcbaahlahohfmaaGreatDoorRows
import Derived.Test.YtcbaahlahohfmaaGreatDoorZA1
import Derived.Test.YtcbaahlahohfmaaGreatDoorZA13
import Derived.Test.YtcbaahlahohfmaaGreatDoorZA35
import Derived.Test.YtcbaahlahohfmaaGreatDoorZA37
import Derived.Test.YtcbaahlahohfmaaGreatDoorZA38
namespace Go.Proofs.YtcbaahlahohfmaaGreatDoor.lawAnswers
open Go.ChangeShapes Go.WideShapes Go.ChangeAt Go.RowKit
set_option maxRecDepth 20000 in
set_option maxHeartbeats 8000000 in
theorem walk_ok (w : World) (hT : ClsTabs w) (A : Option Addr) (l : List Int) (c : Nat) (hl : l.length ≤ 200) (h : Lies w w.heap.size A (ints .i64 l)) (x : Int) (A' : Option Addr) (q : List Int) (c' : Nat) (hq : q.length ≤ 500) (h' : Lies w w.heap.size A' (ints .i64 q)) :
 Calls Tryz.prog 3 #[.slice A l.length c, .int .i64 x, .slice A' q.length c'] w fun e w' => e = .returned (.bool true) ∧ Below w.heap.size w w' := by
 have HT := Lib.hid hT
 clear hT
 have H := Lib.hid h
 have HQ := Lib.hid h'
 obtain ⟨L, hL⟩ : ∃ L, levI l x = L := ⟨_, rfl⟩
 have HL := Lib.hid hL
 have HLL : Hid (L.length = l.length) := Lib.hid (by rw [← hL, levI_length])
 obtain ⟨V, hV⟩ : ∃ V, lclsI l x = V := ⟨_, rfl⟩
 have HV := Lib.hid hV
 have HVL : Hid (V.length = l.length) := Lib.hid (by rw [← hV, lclsI_length])
 obtain ⟨bs, hbs⟩ : ∃ b, baseI l x = b := ⟨_, rfl⟩
 have HBS := Lib.hid hbs
 obtain ⟨m, hm⟩ : ∃ m, mostI q = m := ⟨_, rfl⟩
 have HM := Lib.hid hm
 obtain ⟨o, ho⟩ : ∃ o, wholeI L = o := ⟨_, rfl⟩
 have HO := Lib.hid ho
 have eb : (bs == bs) = true := by simp
 have em : (m == m) = true := by simp
 have eo : (o == o) = true := by simp
 clear h h' hL hV hbs hm ho
 go_enter Tryz.func3, Tryz.ntmps3
 go_wp2_with fail
 refine (lalive_any w HT.out).mono ?_
 rintro e w1 ⟨rfl, b1⟩
 have B1 := Lib.hid b1
 have D1 := Lib.hid b1
 clear b1
 have H1 := Lib.hid (H.out.up B1.out)
 have Q1 := Lib.hid (HQ.out.up B1.out)
 go_wp2_with (first
  | (at_builtin; refine app_src intsT w1 (w1.alloc (.cells #[] 3)) w1.heap.size w1.heap.size _ _ _ [] (ints .i64 l) A l.length c rfl rfl rfl rfl (by simp [ints]) (Own.ofLit #[] (Nat.le_refl _) (by decide)) (H1.out.alloc (Nat.le_refl _) _) (ints_one _ _) (below_alloc _ _) (by simp) (by unfold maxLen; simp [ints]; omega) (by simp [ints]; omega) ?_; intro v2 w2 o2 b2 _ _; have O2 := Lib.hid o2; have D2 := Lib.hid b2; clear o2 b2; obtain ⟨Ao, co, hvo, lo, -, -⟩ := O2.out.form; simp only [ints, List.nil_append, List.length_map] at hvo; subst hvo; have LO2 := Lib.hid (show Lies w2 w2.heap.size Ao (ints .i64 l) from lo); clear lo O2)
  | fail)
 have B2 := Lib.hid (below_then B1.out D2.out)
 have H2 := Lib.hid (H1.out.up D2.out)
 have Q2 := Lib.hid (Q1.out.up D2.out)
 go_wp2_with fail
 refine (lof_any Ao l co x w2 (HT.out.below B2.out HT.out.big) LO2.out (by omega)).mono ?_
 rintro e w3 ⟨v3, rfl, o3, b3⟩
 rw [HL.out] at o3
 rw [HBS.out]
 obtain ⟨A3, c3, hv, l3, -, -⟩ := o3.form
 rw [ints, List.length_map, HLL.out] at hv
 subst hv
 have B3 := Lib.hid (below_then B2.out b3)
 have H3 := Lib.hid (H2.out.up b3)
 have Q3 := Lib.hid (Q2.out.up b3)
 have LO3 := Lib.hid (LO2.out.up b3)
 have L3 := Lib.hid l3
 clear o3 l3 b3
 go_wp2_with fail
 refine (rof12_any A l c x w3 H3.out (by omega)).mono ?_
 rintro e w4 ⟨v4, rfl, o4, b4⟩
 rw [HL.out] at o4
 rw [HBS.out]
 obtain ⟨A4, c4, hv, l4, -, -⟩ := o4.form
 rw [ints, List.length_map, HLL.out] at hv
 subst hv
 have B4 := Lib.hid (below_then B3.out b4)
 have H4 := Lib.hid (H3.out.up b4)
 have Q4 := Lib.hid (Q3.out.up b4)
 have LO4 := Lib.hid (LO3.out.up b4)
 have HI := ints_ok A3 A4 L c3 c4 w4 (L3.out.up b4) l4 (by rw [HLL.out]; omega)
 rw [HLL.out] at HI
 have HI4 := Lib.hid HI
 clear o4 l4 b4 HI
 go_wp2_with fail
 refine (HI4.out).mono ?_
 rintro e w5 ⟨rfl, b5⟩
 have B5 := Lib.hid (below_then B4.out b5)
 have H5 := Lib.hid (H4.out.up b5)
 have Q5 := Lib.hid (Q4.out.up b5)
 have LO5 := Lib.hid (LO4.out.up b5)
 clear b5
 go_wp2_with fail
 refine (lcls_any Ao l co x w5 (HT.out.below B5.out HT.out.big) LO5.out (by omega)).mono ?_
 rintro e w6 ⟨v6, rfl, o6, b6⟩
 rw [HV.out] at o6
 obtain ⟨A6, c6, hv, l6, -, -⟩ := o6.form
 rw [ints, List.length_map, HVL.out] at hv
 subst hv
 have B6 := Lib.hid (below_then B5.out b6)
 have H6 := Lib.hid (H5.out.up b6)
 have Q6 := Lib.hid (Q5.out.up b6)
 have LO6 := Lib.hid (LO5.out.up b6)
 have L6 := Lib.hid l6
 clear o6 l6 b6
 go_wp2_with fail
 refine (rclasses12_any A l c x w6 H6.out (by omega)).mono ?_
 rintro e w7 ⟨v7, rfl, o7, b7⟩
 rw [HV.out] at o7
 obtain ⟨A7, c7, hv, l7, -, -⟩ := o7.form
 rw [ints, List.length_map, HVL.out] at hv
 subst hv
 have B7 := Lib.hid (below_then B6.out b7)
 have H7 := Lib.hid (H6.out.up b7)
 have Q7 := Lib.hid (Q6.out.up b7)
 have LO7 := Lib.hid (LO6.out.up b7)
 have HI := ints_ok A6 A7 V c6 c7 w7 (L6.out.up b7) l7 (by rw [HVL.out]; omega)
 rw [HVL.out] at HI
 have HI7 := Lib.hid HI
 clear o7 l7 b7 HI
 go_wp2_with fail
 refine (HI7.out).mono ?_
 rintro e w8 ⟨rfl, b8⟩
 have B8 := Lib.hid (below_then B7.out b8)
 have H8 := Lib.hid (H7.out.up b8)
 have Q8 := Lib.hid (Q7.out.up b8)
 have LO8 := Lib.hid (LO7.out.up b8)
 clear b8
 go_wp2_with fail
 refine (lmost_any A' q c' w8 Q8.out (by omega)).mono ?_
 rintro e w9 ⟨rfl, b9⟩
 rw [HM.out]
 have B9 := Lib.hid (below_then B8.out b9)
 have H9 := Lib.hid (H8.out.up b9)
 have Q9 := Lib.hid (Q8.out.up b9)
 have LO9 := Lib.hid (LO8.out.up b9)
 clear b9
 go_wp2_with fail
 refine (rmost12_any A' q c' w9 Q9.out (by omega)).mono ?_
 rintro e wq ⟨rfl, rfl⟩
 rw [HM.out]
 go_wp2_with fail
 refine (lwhole_any Ao l co x w9 (HT.out.below B9.out HT.out.big) LO9.out (by omega)).mono ?_
 rintro e w10 ⟨rfl, b10⟩
 rw [HL.out, HO.out]
 have B10 := Lib.hid (below_then B9.out b10)
 have H10 := Lib.hid (H9.out.up b10)
 have Q10 := Lib.hid (Q9.out.up b10)
 have LO10 := Lib.hid (LO9.out.up b10)
 clear b10
 go_wp2_with fail
 refine (rwhole12_any A l c x w10 H10.out (by omega)).mono ?_
 rintro e w11 ⟨rfl, b11⟩
 rw [HL.out, HO.out]
 have B11 := Lib.hid (below_then B10.out b11)
 have H11 := Lib.hid (H10.out.up b11)
 have Q11 := Lib.hid (Q10.out.up b11)
 have LO11 := Lib.hid (LO10.out.up b11)
 clear b11
 go_wp2_with fail
 refine (ints_ok Ao A l co c w11 LO11.out H11.out (by omega)).mono ?_
 rintro e w12 ⟨rfl, b12⟩
 have B12 := Lib.hid (below_then B11.out b12)
 have H12 := Lib.hid (H11.out.up b12)
 have Q12 := Lib.hid (Q11.out.up b12)
 have LO12 := Lib.hid (LO11.out.up b12)
 clear b12
 go_wp2
 go_ret
 exact ⟨rfl, B12.out⟩
set_option maxRecDepth 20000 in
set_option maxHeartbeats 1000000 in
theorem walk_long (w : World) (hT : ClsTabs w) (A : Option Addr) (l : List Int) (c : Nat) (hl : l.length ≤ 9223372036854775807) (hh : 200 < l.length) (x : Int) (A' : Option Addr) (q : List Int) (c' : Nat) :
 Calls Tryz.prog 3 #[.slice A l.length c, .int .i64 x, .slice A' q.length c'] w fun e w' => e = .returned (.bool true) ∧ Below w.heap.size w w' := by
 have HT := Lib.hid hT
 clear hT
 go_enter Tryz.func3, Tryz.ntmps3
 go_wp2_with fail
 refine (lalive_any w HT.out).mono ?_
 rintro e w1 ⟨rfl, b1⟩
 have B1 := Lib.hid b1
 have D1 := Lib.hid b1
 clear b1
 go_wp2
 go_ret
 exact ⟨rfl, B1.out⟩
set_option maxRecDepth 20000 in
set_option maxHeartbeats 1000000 in
theorem walk_long2 (w : World) (hT : ClsTabs w) (A : Option Addr) (l : List Int) (c : Nat) (hl : l.length ≤ 200) (x : Int) (A' : Option Addr) (q : List Int) (c' : Nat) (hq : q.length ≤ 9223372036854775807) (hh : 500 < q.length) :
 Calls Tryz.prog 3 #[.slice A l.length c, .int .i64 x, .slice A' q.length c'] w fun e w' => e = .returned (.bool true) ∧ Below w.heap.size w w' := by
 have HT := Lib.hid hT
 clear hT
 go_enter Tryz.func3, Tryz.ntmps3
 go_wp2_with fail
 refine (lalive_any w HT.out).mono ?_
 rintro e w1 ⟨rfl, b1⟩
 have B1 := Lib.hid b1
 have D1 := Lib.hid b1
 clear b1
 go_wp2
 go_ret
 exact ⟨rfl, B1.out⟩
theorem walk (w : World) (hT : ClsTabs w) (A : Option Addr) (l : List Int) (c : Nat) (hc : l.length ≤ c) (hm : c ≤ maxLen) (h : Lies w w.heap.size A (ints .i64 l)) (_ : ∀ n ∈ l, (Lit.int .i64 n).wf = true) (x : Int) (_ : (Lit.int .i64 x).wf = true) (A' : Option Addr) (q : List Int) (c' : Nat) (hc' : q.length ≤ c') (hm' : c' ≤ maxLen) (h' : Lies w w.heap.size A' (ints .i64 q)) (_ : ∀ n ∈ q, (Lit.int .i64 n).wf = true) :
 Calls Tryz.prog 3 #[.slice A l.length c, .int .i64 x, .slice A' q.length c'] w fun e w' => e = .returned (.bool true) ∧ Below w.heap.size w w' := by
 unfold maxLen at hm hm'
 by_cases hh : 200 < l.length
 ·exact walk_long w hT A l c (by omega) hh x A' q c'
 ·by_cases hh' : 500 < q.length
  ·exact walk_long2 w hT A l c (by omega) x A' q c' (by omega) hh'
  ·exact walk_ok w hT A l c (by omega) h x A' q c' (by omega) h'
-- WRAP
theorem spec : LawSpec Rows.levelAnswersSpec 3 := ⟨rfl, fun H ds h => by
 match ds, h with
 | [d0, d1, d2], _ => rfl⟩
theorem params_ok : ∀ t ∈ Tryz.f3.params.toList, Tryz.prog.readableRec t = true ∧ t < Tryz.prog.types.size := by
 rw [Tryz.params3]
 intro t ht
 simp only [List.mem_cons, List.mem_nil_iff, or_false] at ht
 rcases ht with rfl | rfl | rfl
 all_goals exact ⟨by kernel_rfl, of_decide_eq_true (by kernel_rfl)⟩
set_option maxRecDepth 100000 in
theorem contract (H : Type) (enc : TypeId × Value → H) (W : World) (base : Nat) (args : Array Value) (ds gs : List (DataW H)) (before : List MemPlace)
 (hval : ∀ (j : Nat) t v, Tryz.f3.params[j]? = some t → args[j]? = some v → Value.okWide Tryz.prog W .any base t v)
 (hW : DataW.Whole enc Tryz.prog Tryz.f3.params.toList Rows.levelAnswersSpec.vars false W args.toList ds gs before) (hL : laidMetH Tryz.prog laidList W) :
 Calls Tryz.prog 3 args W fun e W' => ∃ v, e = .returned v ∧ Rows.levelAnswersSpec.post enc Tryz.prog Tryz.f3 false true false false W args v W' := by
 have hW' := hW
 obtain ⟨p, q, hA0, hV, rfl, hfz, hnd⟩ := hW
 have hA : DataW.TrodAll enc Tryz.prog W 0 (fun _ => true) true Tryz.f3.params.toList args.toList ds p := hA0
 rw [Tryz.params3] at hA hval
 obtain ⟨v0, vs0, d0, ds0, p0, q0, hargs, rfl, rfl, h0, r0⟩ := trodAll_cons hA
 obtain ⟨v1, vs1, d1, ds1, p1, q1, rfl, rfl, rfl, h1, r1⟩ := trodAll_cons r0
 obtain ⟨v2, vs2, d2, ds2, p2, q2, rfl, rfl, rfl, h2, r2⟩ := trodAll_cons r1
 obtain ⟨rfl, rfl, rfl⟩ := trodAll_nil r2
 obtain rfl : args = #[v0, v1, v2] := by cases args; simp_all
 obtain ⟨A0, l0, c0, rfl, hc0, hm0, hl0, wf0⟩ := open_list Tryz.underlying22 Tryz.underlying3 (by kernel_rfl) (hval 0 22 v0 rfl rfl) h0
 obtain ⟨a1, rfl, rfl, rfl, w1⟩ := open_int Tryz.underlying3 (hval 1 3 v1 rfl rfl) h1
 obtain ⟨A2, l2, c2, rfl, hc2, hm2, hl2, wf2⟩ := open_list Tryz.underlying22 Tryz.underlying3 (by kernel_rfl) (hval 2 22 v2 rfl rfl) h2
 exact (walk W (tabs_of hL) A0 l0 c0 hc0 hm0 hl0 wf0 a1 w1 A2 l2 c2 hc2 hm2 hl2 wf2).mono fun e W' ⟨he, hg⟩ => ⟨_, he, law_post spec (by rw [Tryz.params3]; rfl) (by kernel_rfl) params_ok (by kernel_rfl) Tryz.underlying4 hW' hg⟩
set_option maxRecDepth 100000 in
theorem laid_met (os : Os) : laidMet Tryz.prog Rows.levelAnswersRow.laid ((laidWorld os #[.slice none 0 0, .int .i64 0, .slice none 0 0]).forCall (fun _ _ => 0) ⟨#[], #[.slice none 0 0, .int .i64 0, .slice none 0 0], []⟩).memory :=
 laidMet_of_run' 8 (by kernel_rfl) (by kernel_rfl)
set_option maxRecDepth 100000 in
theorem reads (os : Os) {H : Type} (enc : TypeId × Value → H) : ∃ places, DataW.whole enc Tryz.prog ((laidWorld os #[.slice none 0 0, .int .i64 0, .slice none 0 0]).forCall (fun _ _ => 0) ⟨#[], #[.slice none 0 0, .int .i64 0, .slice none 0 0], []⟩).memory Tryz.f3.params.toList Rows.levelAnswersSpec.vars false #[.slice none 0 0, .int .i64 0, .slice none 0 0].toList 8 = some ([.nil, .lit (.int .i64 0), .nil], [], places) :=
 ⟨[], by kernel_rfl⟩
set_option maxRecDepth 100000 in
theorem lifted (os : Os) (started : os.Started) (H : Type) (enc : TypeId × Value → H) (F : Stop.Interp) :
 ReturnsInHanded {} Tryz.checked os 3 .any ((OpenSpec.ofChange Rows.levelAnswersSpec).preRow enc Tryz.prog Tryz.f3 Rows.levelAnswersRow.domain false Rows.levelAnswersRow.laid) (((OpenSpec.ofChange Rows.levelAnswersSpec).at F).post enc Tryz.prog Tryz.f3 false true false false) := by
 obtain ⟨places, hx⟩ := reads os enc
 refine returnsInHanded_of_row (C := Tryz.checked) (s := OpenSpec.ofChange Rows.levelAnswersSpec) own started (by kernel_rfl) Tryz.func3
  (witness_row_at (enc := enc) (C := Tryz.checked) false (laidWorld os #[.slice none 0 0, .int .i64 0, .slice none 0 0]) #[.slice none 0 0, .int .i64 0, .slice none 0 0] rfl (by kernel_rfl) (by kernel_rfl) (by kernel_rfl)
   (OpenSpec.preRow_of_cond 8 hx (by kernel_rfl) (fun k hk => by cases hk) (by kernel_rfl) (laid_met os))) ?_
 intro W base args ds gs before hval hW _ _ _ hL _ _
 exact contract H enc W base args ds gs before hval hW hL
set_option maxRecDepth 100000 in
theorem said : Rows.LevelAnswersSaid :=
 OpenClaim.holds_of_cond 3 Tryz.f3 rfl rfl rfl rfl rfl rfl rfl ⟨rfl, rfl, rfl, rfl, rfl⟩ rfl rfl rfl rfl rfl (by kernel_rfl) Tryz.func3 (by kernel_rfl)
  (of_decide_eq_true (by kernel_rfl)) (by unfold Func.isWrapper; first | (rw [if_pos (by decide +kernel)]; kernel_rfl) | (rw [if_neg (by decide +kernel)]; exact ⟨rfl, rfl⟩))
  (fun os started H enc _ F => by rw [OpenClaim.pre_eq_preRow]; exact lifted os started H enc F)
set_option maxRecDepth 100000 in
theorem card : Rows.LevelAnswersCardSaid :=
 Claim7.holds_tied_plain_at .later [] _ _ _ _ said (fun _ h => by cases h) (by kernel_rfl) (fun _ h => by cases h) levelAnswers_row_tie rfl ⟨rfl, rfl⟩ (by kernel_rfl) rfl
  (plainOf "ductus/ductuslaw12.LevelAnswers" 3 Tryz.f3 (by kernel_rfl) Tryz.func3 (by kernel_rfl) (fun j t ht => by
   rw [Tryz.params3] at ht
   have hm := Array.mem_of_getElem? ht
   simp only [List.mem_toArray, List.mem_cons, List.mem_nil_iff, or_false] at hm
   rcases hm with rfl | rfl | rfl
   all_goals (show Tryz.prog.wantsStandIn _ = false; kernel_rfl))) (by kernel_rfl)
end Go.Proofs.YtcbaahlahohfmaaGreatDoor.lawAnswers
