/- LineLevels: for every two lists and every three numbers, a line's levels are the document's, and what was handed in stays. Conditions: none. -/
import Derived.Test.YtadfleopbpomfaaLnV
import Derived.Test.YtadfleopbpomfaaLaw
import Derived.Test.YtadfleopbpomfaaSame
import Derived.Test.YtadfleopbpomfaaHeld
import Derived.Test.YtadfleopbpomfaaRows
namespace Go.Proofs.Ytadfleopbpomfaa.lawLevels
open Go.ChangeShapes Go.WideShapes Go.ChangeAt Go.RowKit

theorem levelsL_le (chars levels : List Int) (base F T : Int) : (levelsL chars levels base F T).length ≤ chars.length := by
  rw [levelsL]
  split
  · rw [lineL_length]; omega
  · exact Nat.zero_le _

set_option maxRecDepth 20000 in
set_option maxHeartbeats 8000000 in
theorem walk_ok (w : World) (A : Option Addr) (l : List Int) (c : Nat) (A' : Option Addr) (m : List Int) (c' : Nat) (hl : l.length ≤ 300) (hm : m.length ≤ 300) (hcl : l.length ≤ c) (hc' : m.length ≤ c') (h : Lies w w.heap.size A (ints .i64 l)) (h' : Lies w w.heap.size A' (ints .i64 m)) (x y z : Int) :
    Calls Try.prog 4 #[.slice A l.length c, .slice A' m.length c', .agg #[.int .i64 x, .int .i64 y, .int .i64 z]] w fun e w' => e = .returned (.bool true) ∧ Below w.heap.size w w' := by
  obtain ⟨w0, hw0'⟩ : ∃ u, w.alloc (.cells #[.int .i64 x, .int .i64 y, .int .i64 z] 35) = u := ⟨_, rfl⟩
  obtain ⟨q, hq⟩ : ∃ q, w.heap.size = q := ⟨_, rfl⟩
  have B0 : Hid (Below w.heap.size w w0) := Lib.hid (hw0' ▸ below_alloc w _)
  have BX : Hid (∀ u, Below w0.heap.size w0 u → u.cell? ⟨q, 0, none⟩ = some (.int .i64 x) ∧ u.cell? ⟨q, 1, none⟩ = some (.int .i64 y) ∧ u.cell? ⟨q, 2, none⟩ = some (.int .i64 z)) := by
    subst hw0' hq
    exact Lib.hid fun u hu => ⟨boxed hu rfl, boxed hu rfl, boxed hu rfl⟩
  have H := Lib.hid (h.up B0.out)
  have H' := Lib.hid (h'.up B0.out)
  clear h h'
  go_enter Try.func4, Try.ntmps4
  go_wp2_with fail
  clear hw0'
  have hq' := Lib.hid hq
  clear hq
  refine (lnalive_any w0).mono ?_
  rintro e w1 ⟨rfl, b1⟩
  have D1 := Lib.hid b1
  have B1 := Lib.hid (below_then B0.out b1)
  have H1 := Lib.hid (H.out.up b1)
  have H1' := Lib.hid (H'.out.up b1)
  clear b1
  go_wp2_with (first
    | (at_builtin; refine app_src intsT w1 (w1.alloc (.cells #[] 3)) w1.heap.size w1.heap.size _ _ _ [] (ints .i64 m) A' m.length c' rfl rfl rfl rfl (by simp [ints]) (Own.ofLit #[] (Nat.le_refl _) (by decide)) (H1'.out.alloc (Nat.le_refl _) _) (ints_one _ _) (below_alloc _ _) (by simp) (by unfold maxLen; simp [ints]; omega) (by simp [ints]; omega) ?_; intro v2 w2 o2 b2 _ _; have O2 := Lib.hid o2; have D2 := Lib.hid b2; obtain ⟨x0, x1, x2⟩ := BX.out w2 (below_then D1.out b2); clear o2 b2)
    | fail)
  obtain ⟨p, hp⟩ : ∃ p, w2.heap.size = p := ⟨_, rfl⟩
  obtain ⟨w3, hw3⟩ : ∃ u, w2.alloc (.cells #[.int .i64 x, .int .i64 y] 29) = u := ⟨_, rfl⟩
  have BS : Hid (∀ u, Below w3.heap.size w3 u → u.cell? ⟨p, 0, none⟩ = some (.int .i64 x) ∧ u.cell? ⟨p, 1, none⟩ = some (.int .i64 y)) := by
    subst hw3 hp
    exact Lib.hid fun u hu => ⟨boxed hu rfl, boxed hu rfl⟩
  have D3 : Hid (Below w2.heap.size w2 w3) := Lib.hid (hw3 ▸ below_alloc w2 _)
  have E3 : Hid (Below w1.heap.size w1 w3) := Lib.hid (below_then D2.out D3.out)
  have o2 := O2.out.below D3.out (Nat.le_refl _)
  rw [List.nil_append] at o2
  obtain ⟨A2, c2, hv2, l2, hc2, -⟩ := o2.form
  rw [ints, List.length_map] at hv2 hc2
  subst hv2
  have L2 := Lib.hid l2
  have H3 := Lib.hid (H1.out.up E3.out)
  have H3' := Lib.hid (H1'.out.up E3.out)
  have B3 := Lib.hid (below_then B1.out E3.out)
  have X3 := Lib.hid (below_then D1.out E3.out)
  obtain ⟨V, hV⟩ : ∃ V, levelsL l m z x y = V := ⟨_, rfl⟩
  have HV := Lib.hid hV
  have HVL : Hid (V.length ≤ 300) := Lib.hid (by rw [← hV]; have := levelsL_le l m z x y; omega)
  rw [hw3, hp]
  clear hw3 hp hV x0 x1 x2 l2 o2
  refine wp_region_E (S := fun w' => w'.cell? ⟨q, 2, none⟩ = some (.int .i64 z) ∧ w'.cell? ⟨p, 0, none⟩ = some (.int .i64 x) ∧ w'.cell? ⟨p, 1, none⟩ = some (.int .i64 y)) [] (by kernel_rfl) (⟨(BX.out w3.drew (by exact below_same X3.out rfl rfl rfl rfl)).2.2, BS.out w3.drew (by exact below_same (Below.refl _ _) rfl rfl rfl rfl)⟩) (fun hHeld hZ => ?_)
  refine' eY 0 hHeld hZ fun hZ => ?_
  try simp only [Act.put,ZA,ZB,ZD,ZE,ZF]
  refine' eY 1 hHeld hZ fun hZ => ?_
  try simp only [Act.put,ZA,ZB,ZC,ZD,ZE,ZF]
  refine' eY 2 hHeld hZ fun hZ => ?_
  try simp only [Act.put,ZA,ZB,ZC,ZD,ZE,ZF]
  refine' eY 3 hHeld hZ fun hZ => ?_
  try simp only [Act.put,ZA,ZB,ZC,ZD,ZE,ZF]
  refine' eY 4 hHeld hZ fun hZ => ?_
  try simp only [Act.put,ZA,ZB,ZC,ZD,ZE,ZF]
  refine' eY 6 hHeld hZ fun hZ => ?_
  try simp only [Act.put,ZA,ZB,ZC,ZD,ZE,ZF]
  refine' eY 7 hHeld hZ fun hZ => ?_
  try simp only [Act.put,ZA,ZB,ZC,ZD,ZE,ZF]
  refine' eY 8 hHeld hZ fun hZ => ?_
  try simp only [Act.put,ZA,ZB,ZC,ZD,ZE,ZF]
  refine' eY 9 hHeld hZ fun hZ => ?_
  try simp only [Act.put,ZA,ZB,ZC,ZD,ZE,ZF]
  refine' eY 10 hHeld hZ fun hZ => ?_
  try simp only [Act.put,ZA,ZB,ZC,ZD,ZE,ZF]
  refine eA 5 fun K hK => ?_
  go_simp
  refine (nlevels13_any A l c A2 m c2 z x y _ (H3.out.up (by exact below_same (Below.refl _ _) rfl rfl rfl rfl)) (L2.out.up (by exact below_same (Below.refl _ _) rfl rfl rfl rfl)) (by omega) hcl hc2).mono ?_
  rintro e w4 ⟨v4, rfl, o4, b4⟩
  rw [HV.out] at o4
  obtain ⟨A4, c4, rfl, l4, -, -⟩ := o4.form
  rw [ints, List.length_map]
  have D4 := Lib.hid (show Below w3.heap.size w3 w4 from ⟨b4.os, b4.tape, b4.output, b4.size, b4.block⟩)
  have X4 := Lib.hid (below_then X3.out D4.out)
  have B4 := Lib.hid (below_then B3.out D4.out)
  have L4 := Lib.hid l4
  clear l4 b4 o4
  refine eB hK hZ (⟨(BX.out w4 X4.out).2.2, BS.out w4 D4.out⟩) fun hHeld hZ => ?_
  clear hK K
  try simp only [Act.put,ZA,ZB,ZC,ZD,ZE,ZF]
  refine eA 11 fun K hK => ?_
  go_simp
  refine (rlevels13_any A l c A' m c' z x y w4 (H3.out.up D4.out) (H3'.out.up D4.out) (by omega) hc').mono ?_
  rintro e w5 ⟨v5, rfl, o5, b5⟩
  rw [HV.out] at o5
  obtain ⟨A5, c5, rfl, l5, -, -⟩ := o5.form
  rw [ints, List.length_map]
  have D5 := Lib.hid (below_then D4.out b5)
  have X5 := Lib.hid (below_then X3.out D5.out)
  have B5 := Lib.hid (below_then B3.out D5.out)
  have M4 := Lib.hid (L4.out.up b5)
  have L5 := Lib.hid l5
  clear l5 b5 o5
  refine eB hK hZ (⟨(BX.out w5 X5.out).2.2, BS.out w5 D5.out⟩) fun hHeld hZ => ?_
  clear hK K
  try simp only [Act.put,ZA,ZB,ZC,ZD,ZE,ZF]
  refine eA 12 fun K hK => ?_
  go_simp
  refine (ints_ok A4 A5 V c4 c5 w5 M4.out L5.out (by have := HVL.out; omega)).mono ?_
  rintro e w6 ⟨rfl, b6⟩
  have D6 := Lib.hid (below_then D5.out b6)
  have X6 := Lib.hid (below_then X3.out D6.out)
  have B6 := Lib.hid (below_then B3.out D6.out)
  clear b6
  refine eB hK hZ (⟨(BX.out w6 X6.out).2.2, BS.out w6 D6.out⟩) fun hHeld hZ => ?_
  clear hK K
  try simp only [Act.put,ZA,ZB,ZC,ZD,ZE,ZF]
  refine' eY 13 hHeld hZ fun hZ => ?_
  try simp only [Act.put,ZA,ZB,ZC,ZD,ZE,ZF]
  refine' eY 14 hHeld hZ fun hZ => ?_
  try simp only [Act.put,ZA,ZB,ZC,ZD,ZE,ZF]
  refine' eY 15 hHeld hZ fun hZ => ?_
  try simp only [Act.put,ZA,ZB,ZC,ZD,ZE,ZF]
  refine eA 16 fun K hK => ?_
  go_simp
  refine (ints_ok A2 A' m c2 c' w6 (L2.out.up D6.out) (H3'.out.up D6.out) (by omega)).mono ?_
  rintro e w7 ⟨rfl, b7⟩
  have D7 := Lib.hid (below_then D6.out b7)
  have X7 := Lib.hid (below_then X3.out D7.out)
  have B7 := Lib.hid (below_then B3.out D7.out)
  clear b7
  refine eB hK hZ (⟨(BX.out w7 X7.out).2.2, BS.out w7 D7.out⟩) fun hHeld hZ => ?_
  clear hK K
  try simp only [Act.put,ZA,ZB,ZC,ZD,ZE,ZF]
  refine' eY 17 hHeld hZ fun hZ => ?_
  try simp only [Act.put,ZA,ZB,ZC,ZD,ZE,ZF]
  refine' eY 18 hHeld hZ fun hZ => ?_
  try simp only [Act.put,ZA,ZB,ZC,ZD,ZE,ZF]
  refine wpAnyE_done (by kernel_rfl) ?_ _
  clear hZ
  go_wp2_with fail
  go_ret
  exact ⟨rfl, by exact below_same B7.out rfl rfl rfl rfl⟩

set_option maxHeartbeats 1000000 in
theorem walk_long (w : World) (A : Option Addr) (n : Nat) (c : Nat) (A' : Option Addr) (m c' : Nat) (hl : n ≤ 9223372036854775807) (hl' : m ≤ 9223372036854775807) (hh : 300 < n ∨ 300 < m) (x y z : Int) :
    Calls Try.prog 4 #[.slice A n c, .slice A' m c', .agg #[.int .i64 x, .int .i64 y, .int .i64 z]] w fun e w' => e = .returned (.bool true) ∧ Below w.heap.size w w' := by
  have B0 : Hid (Below w.heap.size w (w.alloc (.cells #[.int .i64 x, .int .i64 y, .int .i64 z] 35))) := Lib.hid (below_alloc w _)
  by_cases h1 : 300 < n
  · go_enter Try.func4, Try.ntmps4
    go_wp2_with fail
    refine (lnalive_any _).mono ?_
    rintro e w1 ⟨rfl, b1⟩
    have B1 := Lib.hid (below_then B0.out b1)
    clear b1
    go_wp2
    go_ret
    exact ⟨rfl, B1.out⟩
  · have h2 : 300 < m := by omega
    go_enter Try.func4, Try.ntmps4
    go_wp2_with fail
    refine (lnalive_any _).mono ?_
    rintro e w1 ⟨rfl, b1⟩
    have B1 := Lib.hid (below_then B0.out b1)
    clear b1
    go_wp2
    go_ret
    exact ⟨rfl, B1.out⟩

theorem walk (w : World) (A : Option Addr) (l : List Int) (c : Nat) (hc : l.length ≤ c) (hm : c ≤ maxLen) (h : Lies w w.heap.size A (ints .i64 l)) (_ : ∀ n ∈ l, (Lit.int .i64 n).wf = true)
    (A' : Option Addr) (m : List Int) (c' : Nat) (hc' : m.length ≤ c') (hm' : c' ≤ maxLen) (h' : Lies w w.heap.size A' (ints .i64 m)) (_ : ∀ n ∈ m, (Lit.int .i64 n).wf = true)
    (x y z : Int) (_ : (Lit.int .i64 x).wf = true) (_ : (Lit.int .i64 y).wf = true) (_ : (Lit.int .i64 z).wf = true) :
    Calls Try.prog 4 #[.slice A l.length c, .slice A' m.length c', .agg #[.int .i64 x, .int .i64 y, .int .i64 z]] w fun e w' => e = .returned (.bool true) ∧ Below w.heap.size w w' := by
  unfold maxLen at hm hm'
  by_cases hh : 300 < l.length ∨ 300 < m.length
  · exact walk_long w A _ c A' _ c' (by omega) (by omega) hh x y z
  · exact walk_ok w A l c A' m c' (by omega) (by omega) hc hc' h h' x y z
-- WRAP
theorem spec : LawSpec Rows.lineLevelsSpec 3 := ⟨rfl, fun H ds h => by
  match ds, h with
  | [d0, d1, d2], _ => rfl⟩
theorem params_ok : ∀ t ∈ Try.f4.params.toList, Try.prog.readableRec t = true ∧ t < Try.prog.types.size := by
  rw [Try.params4]
  intro t ht
  simp only [List.mem_cons, List.mem_nil_iff, or_false] at ht
  rcases ht with rfl | rfl | rfl
  all_goals exact ⟨by kernel_rfl, of_decide_eq_true (by kernel_rfl)⟩

theorem contract (H : Type) (enc : TypeId × Value → H) (W : World) (base : Nat) (args : Array Value) (ds gs : List (DataW H)) (before : List MemPlace)
    (hval : ∀ (j : Nat) t v, Try.f4.params[j]? = some t → args[j]? = some v → Value.okWide Try.prog W .any base t v)
    (hW : DataW.Whole enc Try.prog Try.f4.params.toList Rows.lineLevelsSpec.vars false W args.toList ds gs before) :
    Calls Try.prog 4 args W fun e W' => ∃ v, e = .returned v ∧ Rows.lineLevelsSpec.post enc Try.prog Try.f4 false true false false W args v W' := by
  have hW' := hW
  obtain ⟨p, q, hA0, hV, rfl, hfz, hnd⟩ := hW
  have hA : DataW.TrodAll enc Try.prog W 0 (fun _ => true) true Try.f4.params.toList args.toList ds p := hA0
  rw [Try.params4] at hA hval
  obtain ⟨v0, vs0, d0, ds0, p0, q0, hargs, rfl, rfl, h0, r0⟩ := trodAll_cons hA
  obtain ⟨v1, vs1, d1, ds1, p1, q1, rfl, rfl, rfl, h1, r1⟩ := trodAll_cons r0
  obtain ⟨v2, vs2, d2, ds2, p2, q2, rfl, rfl, rfl, h2, r2⟩ := trodAll_cons r1
  obtain ⟨rfl, rfl, rfl⟩ := trodAll_nil r2
  obtain rfl : args = #[v0, v1, v2] := by cases args; simp_all
  obtain ⟨A0, l0, c0, rfl, hc0, hm0, hl0, wf0⟩ := open_list Try.underlying22 Try.underlying3 (by kernel_rfl) (hval 0 22 v0 rfl rfl) h0
  obtain ⟨A1, l1, c1, rfl, hc1, hm1, hl1, wf1⟩ := open_list Try.underlying22 Try.underlying3 (by kernel_rfl) (hval 1 22 v1 rfl rfl) h1
  obtain ⟨n2, rfl, hn2, wf2⟩ := open_nums Try.underlying35 Try.underlying3 (by kernel_rfl) (by kernel_rfl) (hval 2 35 v2 rfl rfl) h2
  rcases n2 with _ | ⟨x2_0, n2⟩
  · simp at hn2
  rcases n2 with _ | ⟨x2_1, n2⟩
  · simp at hn2
  rcases n2 with _ | ⟨x2_2, n2⟩
  · simp at hn2
  obtain rfl : n2 = [] := List.eq_nil_of_length_eq_zero (by simpa using hn2)
  exact (walk W A0 l0 c0 hc0 hm0 hl0 wf0 A1 l1 c1 hc1 hm1 hl1 wf1 x2_0 x2_1 x2_2 (wf2 _ (by simp)) (wf2 _ (by simp)) (wf2 _ (by simp))).mono fun e W' ⟨he, hg⟩ => ⟨_, he, law_post spec (by rw [Try.params4]; rfl) (by kernel_rfl) params_ok (by kernel_rfl) Try.underlying4 hW' hg⟩

theorem own : ownKnob Try.prog.godebug = none := by kernel_rfl
set_option maxRecDepth 100000 in
theorem lifted (os : Os) (started : os.Started) (H : Type) (enc : TypeId × Value → H) :
    ReturnsInHanded {} Try.checked os 4 .any (Rows.lineLevelsSpec.pre6 enc Try.prog Try.f4 Rows.lineLevelsRow.domain false) (Rows.lineLevelsSpec.post enc Try.prog Try.f4 false true false false) := by
  refine returnsInHanded_of_change (C := Try.checked) own started (by kernel_rfl) Try.func4
    (ChangeSpec.witness6 (enc := enc) (C := Try.checked) false ⟨#[], #[.slice none 0 0, .slice none 0 0, .agg #[.int .i64 0, .int .i64 0, .int .i64 0]], []⟩ 8 (by kernel_rfl) (by kernel_rfl) (by kernel_rfl) (by kernel_rfl)) ?_
  intro W base args ds gs before hval hW _ _
  exact contract H enc W base args ds gs before hval hW
theorem said : Rows.LineLevelsSaid :=
  OpenClaim.holds_of_wide 4 Try.f4 rfl rfl rfl rfl rfl rfl rfl ⟨rfl, rfl, rfl, rfl, rfl⟩ rfl rfl rfl rfl rfl (by kernel_rfl) Try.func4 (by kernel_rfl)
    (of_decide_eq_true (by kernel_rfl)) (by unfold Func.isWrapper; first | (rw [if_pos (by decide +kernel)]; kernel_rfl) | (rw [if_neg (by decide +kernel)]; exact ⟨rfl, rfl⟩))
    (fun os started H enc _ => lifted os started H enc)
end Go.Proofs.Ytadfleopbpomfaa.lawLevels
