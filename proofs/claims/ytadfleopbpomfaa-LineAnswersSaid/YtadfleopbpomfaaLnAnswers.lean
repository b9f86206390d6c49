/- LineAnswers: for every list of breaks, every number and every place, the lines, the refusal, the line that the place is in and the lines of one length are the document's. Conditions: none. -/
import Derived.Test.YtadfleopbpomfaaLnV
import Derived.Test.YtadfleopbpomfaaLaw
import Derived.Test.YtadfleopbpomfaaSame
import Derived.Test.YtadfleopbpomfaaInts2
import Derived.Test.YtadfleopbpomfaaHeld
import Derived.Test.YtadfleopbpomfaaRows
namespace Go.Proofs.Ytadfleopbpomfaa.lawAnswers
open Go.ChangeShapes Go.WideShapes Go.ChangeAt Go.RowKit

theorem linesE_le (l : List Int) (n : Int) : (linesE l n).length ≤ l.length := by
  rw [linesE]
  split
  · rw [linesI_length]; exact Nat.le_refl _
  · exact Nat.zero_le _

theorem wrapI_le (n w : Int) : (wrapI n w).length ≤ 4000 := by
  rw [wrapI]
  split
  · simp
  · rw [wrapN]
    refine Nat.le_trans (List.length_filter_le _ _) ?_
    simp
    omega

set_option maxRecDepth 20000 in
set_option maxHeartbeats 8000000 in
theorem walk_ok (w : World) (A : Option Addr) (l : List Int) (c : Nat) (hl : l.length ≤ 1000) (h : Lies w w.heap.size A (ints .i64 l)) (n i : Int) :
    Calls Try.prog 3 #[.slice A l.length c, .int .i64 n, .int .i64 i] w fun e w' => e = .returned (.bool true) ∧ Below w.heap.size w w' := by
  have H := Lib.hid h
  obtain ⟨P, hP⟩ : ∃ P, linesE l n = P := ⟨_, rfl⟩
  have HP := Lib.hid hP
  have HPL : Hid (P.length ≤ 1000) := Lib.hid (by rw [← hP]; have := linesE_le l n; omega)
  obtain ⟨E, hE⟩ : ∃ E, linesR l n = E := ⟨_, rfl⟩
  have HE := Lib.hid hE
  clear h hP hE
  go_enter Try.func3, Try.ntmps3
  go_wp2_with fail
  refine (lnalive_any w).mono ?_
  rintro e w1 ⟨rfl, b1⟩
  have B1 := Lib.hid b1
  have H1 := Lib.hid (H.out.up b1)
  clear b1
  go_wp2_with fail
  refine (nlines13_any A l c n w1 H1.out (by omega)).mono ?_
  rintro e w2 ⟨v2, rfl, o2, b2⟩
  rw [HP.out] at o2
  rw [HE.out]
  obtain ⟨A2, c2, rfl, l2, -, -⟩ := o2.form
  have B2 := Lib.hid (below_then B1.out b2)
  have H2 := Lib.hid (H1.out.up b2)
  have L2 := Lib.hid l2
  clear o2 b2 l2
  go_wp2_with fail
  refine (rlines13_any A l c n w2 H2.out (by omega)).mono ?_
  rintro e w3 ⟨v3, rfl, o3, b3⟩
  rw [HP.out] at o3
  rw [HE.out]
  obtain ⟨A3, c3, rfl, l3, -, -⟩ := o3.form
  have B3 := Lib.hid (below_then B2.out b3)
  have H3 := Lib.hid (H2.out.up b3)
  have M2 := Lib.hid (L2.out.up b3)
  have L3 := Lib.hid l3
  clear o3 b3 l3
  have hee : (E != E) = false := by simp
  go_wp2_with fail
  go_loopw [11] (fun kv wr => ∃ k : Nat, k ≤ P.length ∧ kv = .int .i64 k ∧ Hid (Below w3.heap.size w3 wr)) (fun kv _ => P.length - (intOf kv).toNat)
  case atStart => exact ⟨0, by omega, rfl, Lib.hid (Below.refl _ _)⟩
  case round =>
    obtain ⟨k, hk, rfl, HB⟩ := hrel
    by_cases hlt : k < P.length
    · obtain ⟨g, off, hA, hg, p0, p1⟩ := prC_at (Lies.up M2.out HB.out) hlt
      obtain ⟨g', off', hA', hg', q0, q1⟩ := prC_at (Lies.up L3.out HB.out) hlt
      subst hA hA'
      have k0 : (0 : Int) ≤ (k : Int) := by omega
      have k1 : (k : Int) < (P.length : Int) := by omega
      obtain ⟨x, hx⟩ : ∃ x, P[k].1 = x := ⟨_, rfl⟩
      obtain ⟨y, hy⟩ : ∃ x, P[k].2 = x := ⟨_, rfl⟩
      rw [hx] at p0 q0
      rw [hy] at p1 q1
      clear hx hy
      have hk0 : wr.drew.cell? ⟨g, off + k * 2, none⟩ = some (.int .i64 x) ∧ wr.drew.cell? ⟨g, off + k * 2 + 1, none⟩ = some (.int .i64 y) ∧ wr.drew.cell? ⟨g', off' + k * 2, none⟩ = some (.int .i64 x) ∧ wr.drew.cell? ⟨g', off' + k * 2 + 1, none⟩ = some (.int .i64 y) := ⟨p0, p1, q0, q1⟩
      have HK := Lib.hid hlt
      have hpl := HPL.out
      have heq := fun u => eq_sp x y u
      clear p0 p1 q0 q1
      go_wp2_with fail
      refine wp_region_E (S := fun w' => w'.cell? ⟨g, off + k * 2, none⟩ = some (.int .i64 x) ∧ w'.cell? ⟨g, off + k * 2 + 1, none⟩ = some (.int .i64 y) ∧ w'.cell? ⟨g', off' + k * 2, none⟩ = some (.int .i64 x) ∧ w'.cell? ⟨g', off' + k * 2 + 1, none⟩ = some (.int .i64 y)) [] (by kernel_rfl) (hk0) (fun hHeld hZ => ?_)
      refine' eY 0 hHeld hZ fun hZ => ?_
      try simp only [Act.put,ZA,ZB,ZD,ZE,ZF]
      refine' eY 1 hHeld hZ fun hZ => ?_
      try simp only [Act.put,ZA,ZB,ZC,ZD,ZE,ZF]
      refine' eY 2 hHeld hZ fun hZ => ?_
      try simp only [Act.put,ZA,ZB,ZC,ZD,ZE,ZF]
      refine' eY 3 hHeld hZ fun hZ => ?_
      try simp only [Act.put,ZA,ZB,ZC,ZD,ZE,ZF]
      refine' eY 4 hHeld hZ fun hZ => ?_
      try simp only [Act.put,ZA,ZB,ZC,ZD,ZE,ZF]
      refine' eY 5 hHeld hZ fun hZ => ?_
      try simp only [Act.put,ZA,ZB,ZC,ZD,ZE,ZF]
      refine' eY 6 hHeld hZ fun hZ => ?_
      try simp only [Act.put,ZA,ZB,ZC,ZD,ZE,ZF]
      refine' eY 7 hHeld hZ fun hZ => ?_
      try simp only [Act.put,ZA,ZB,ZC,ZD,ZE,ZF]
      refine' eY 8 hHeld hZ fun hZ => ?_
      try simp only [Act.put,ZA,ZB,ZC,ZD,ZE,ZF]
      refine wpAnyE_done (by kernel_rfl) ?_ _
      clear hZ
      go_wp2_with fail
      go_roundw
      case rel =>
        have hk' := HK.out
        exact ⟨k + 1, by omega, by go_num, Lib.hid (by exact below_same HB.out rfl rfl rfl rfl)⟩
      case measure =>
        have hk' := HK.out
        simp [intOf]
        omega
    · obtain rfl : k = P.length := by omega
      have k1 : ¬ (P.length : Int) < (P.length : Int) := by omega
      have BR := Lib.hid (below_then B3.out HB.out)
      have HR := Lib.hid (H3.out.up HB.out)
      obtain ⟨r, hr⟩ : ∃ r, rightI l n = r := ⟨_, rfl⟩
      have HRR := Lib.hid hr
      clear hr
      go_wp2_with fail
      go_wp2_with fail
      refine (rright13_any A l c n wr HR.out (by omega)).mono ?_
      rintro e wq ⟨rfl, rfl⟩
      rw [HRR.out]
      go_wp2_with fail
      refine (nright13_any A l c n wr HR.out (by omega)).mono ?_
      rintro e w5 ⟨rfl, b5⟩
      rw [HRR.out]
      have B5 := Lib.hid (below_then BR.out b5)
      have H5 := Lib.hid (HR.out.up b5)
      clear b5
      cases r
      · go_wp2_with fail
        refine (nwrap13_any n i w5).mono ?_
        rintro e w7 ⟨v7, rfl, o7, b7⟩
        obtain ⟨A7, c7, rfl, l7, -, -⟩ := o7.form
        rw [ints, List.length_map]
        have B7 := Lib.hid (below_then B5.out b7)
        have L7 := Lib.hid l7
        clear o7 b7 l7
        go_wp2_with fail
        refine (rwrap13_any n i w7).mono ?_
        rintro e w8 ⟨v8, rfl, o8, b8⟩
        obtain ⟨A8, c8, rfl, l8, -, -⟩ := o8.form
        rw [ints, List.length_map]
        have B8 := Lib.hid (below_then B7.out b8)
        have M7 := Lib.hid (L7.out.up b8)
        have L8 := Lib.hid l8
        clear o8 b8 l8
        go_wp2_with fail
        refine (ints_ok A7 A8 (wrapI n i) c7 c8 w8 M7.out L8.out (by have := wrapI_le n i; omega)).mono ?_
        rintro e w9 ⟨rfl, b9⟩
        have B9 := Lib.hid (below_then B8.out b9)
        clear b9
        go_wp2
        go_ret
        exact ⟨rfl, B9.out⟩
      · go_wp2_with fail
        refine (nof13_any A l c i w5 H5.out (by omega) (by have := HRR.out; rw [rightI, Bool.and_eq_true] at this; exact this.1)).mono ?_
        rintro e w6 ⟨rfl, b6⟩
        have B6 := Lib.hid (below_then B5.out b6)
        have H6 := Lib.hid (H5.out.up b6)
        clear b6
        obtain ⟨z, hz⟩ : ∃ z, lineOf l i = z := ⟨_, rfl⟩
        rw [hz]
        go_wp2_with fail
        refine (rlof13_any A l c i w6 H6.out (by omega)).mono ?_
        rintro e wq ⟨rfl, rfl⟩
        rw [hz]
        go_wp2_with fail
        refine (nwrap13_any n i w6).mono ?_
        rintro e w7 ⟨v7, rfl, o7, b7⟩
        obtain ⟨A7, c7, rfl, l7, -, -⟩ := o7.form
        rw [ints, List.length_map]
        have B7 := Lib.hid (below_then B6.out b7)
        have L7 := Lib.hid l7
        clear o7 b7 l7
        go_wp2_with fail
        refine (rwrap13_any n i w7).mono ?_
        rintro e w8 ⟨v8, rfl, o8, b8⟩
        obtain ⟨A8, c8, rfl, l8, -, -⟩ := o8.form
        rw [ints, List.length_map]
        have B8 := Lib.hid (below_then B7.out b8)
        have M7 := Lib.hid (L7.out.up b8)
        have L8 := Lib.hid l8
        clear o8 b8 l8
        go_wp2_with fail
        refine (ints_ok A7 A8 (wrapI n i) c7 c8 w8 M7.out L8.out (by have := wrapI_le n i; omega)).mono ?_
        rintro e w9 ⟨rfl, b9⟩
        have B9 := Lib.hid (below_then B8.out b9)
        clear b9
        go_wp2
        go_ret
        exact ⟨rfl, B9.out⟩

set_option maxHeartbeats 1000000 in
theorem walk_long (w : World) (A : Option Addr) (l : List Int) (c : Nat) (hl : l.length ≤ 9223372036854775807) (hh : 1000 < l.length) (n i : Int) :
    Calls Try.prog 3 #[.slice A l.length c, .int .i64 n, .int .i64 i] w fun e w' => e = .returned (.bool true) ∧ Below w.heap.size w w' := by
  go_enter Try.func3, Try.ntmps3
  go_wp2_with fail
  refine (lnalive_any _).mono ?_
  rintro e w1 ⟨rfl, b1⟩
  have B1 := Lib.hid b1
  clear b1
  go_wp2
  go_ret
  exact ⟨rfl, B1.out⟩

theorem walk (w : World) (A : Option Addr) (l : List Int) (c : Nat) (hc : l.length ≤ c) (hm : c ≤ maxLen) (h : Lies w w.heap.size A (ints .i64 l)) (_ : ∀ n ∈ l, (Lit.int .i64 n).wf = true) (n : Int) (_ : (Lit.int .i64 n).wf = true) (i : Int) (_ : (Lit.int .i64 i).wf = true) :
    Calls Try.prog 3 #[.slice A l.length c, .int .i64 n, .int .i64 i] w fun e w' => e = .returned (.bool true) ∧ Below w.heap.size w w' := by
  unfold maxLen at hm
  by_cases hh : 1000 < l.length
  · exact walk_long w A l c (by omega) hh n i
  · exact walk_ok w A l c (by omega) h n i
-- WRAP
theorem spec : LawSpec Rows.lineAnswersSpec 3 := ⟨rfl, fun H ds h => by
  match ds, h with
  | [d0, d1, d2], _ => rfl⟩
theorem params_ok : ∀ t ∈ Try.f3.params.toList, Try.prog.readableRec t = true ∧ t < Try.prog.types.size := by
  rw [Try.params3]
  intro t ht
  simp only [List.mem_cons, List.mem_nil_iff, or_false] at ht
  rcases ht with rfl | rfl | rfl
  all_goals exact ⟨by kernel_rfl, of_decide_eq_true (by kernel_rfl)⟩

theorem contract (H : Type) (enc : TypeId × Value → H) (W : World) (base : Nat) (args : Array Value) (ds gs : List (DataW H)) (before : List MemPlace)
    (hval : ∀ (j : Nat) t v, Try.f3.params[j]? = some t → args[j]? = some v → Value.okWide Try.prog W .any base t v)
    (hW : DataW.Whole enc Try.prog Try.f3.params.toList Rows.lineAnswersSpec.vars false W args.toList ds gs before) :
    Calls Try.prog 3 args W fun e W' => ∃ v, e = .returned v ∧ Rows.lineAnswersSpec.post enc Try.prog Try.f3 false true false false W args v W' := by
  have hW' := hW
  obtain ⟨p, q, hA0, hV, rfl, hfz, hnd⟩ := hW
  have hA : DataW.TrodAll enc Try.prog W 0 (fun _ => true) true Try.f3.params.toList args.toList ds p := hA0
  rw [Try.params3] at hA hval
  obtain ⟨v0, vs0, d0, ds0, p0, q0, hargs, rfl, rfl, h0, r0⟩ := trodAll_cons hA
  obtain ⟨v1, vs1, d1, ds1, p1, q1, rfl, rfl, rfl, h1, r1⟩ := trodAll_cons r0
  obtain ⟨v2, vs2, d2, ds2, p2, q2, rfl, rfl, rfl, h2, r2⟩ := trodAll_cons r1
  obtain ⟨rfl, rfl, rfl⟩ := trodAll_nil r2
  obtain rfl : args = #[v0, v1, v2] := by cases args; simp_all
  obtain ⟨A0, l0, c0, rfl, hc0, hm0, hl0, wf0⟩ := open_list Try.underlying22 Try.underlying3 (by kernel_rfl) (hval 0 22 v0 rfl rfl) h0
  obtain ⟨a1, rfl, rfl, rfl, w1⟩ := open_int Try.underlying3 (hval 1 3 v1 rfl rfl) h1
  obtain ⟨a2, rfl, rfl, rfl, w2⟩ := open_int Try.underlying3 (hval 2 3 v2 rfl rfl) h2
  exact (walk W A0 l0 c0 hc0 hm0 hl0 wf0 a1 w1 a2 w2).mono fun e W' ⟨he, hg⟩ => ⟨_, he, law_post spec (by rw [Try.params3]; rfl) (by kernel_rfl) params_ok (by kernel_rfl) Try.underlying4 hW' hg⟩

theorem own : ownKnob Try.prog.godebug = none := by kernel_rfl
set_option maxRecDepth 100000 in
theorem lifted (os : Os) (started : os.Started) (H : Type) (enc : TypeId × Value → H) :
    ReturnsInHanded {} Try.checked os 3 .any (Rows.lineAnswersSpec.pre6 enc Try.prog Try.f3 Rows.lineAnswersRow.domain false) (Rows.lineAnswersSpec.post enc Try.prog Try.f3 false true false false) := by
  refine returnsInHanded_of_change (C := Try.checked) own started (by kernel_rfl) Try.func3
    (ChangeSpec.witness6 (enc := enc) (C := Try.checked) false ⟨#[], #[.slice none 0 0, .int .i64 0, .int .i64 0], []⟩ 8 (by kernel_rfl) (by kernel_rfl) (by kernel_rfl) (by kernel_rfl)) ?_
  intro W base args ds gs before hval hW _ _
  exact contract H enc W base args ds gs before hval hW
theorem said : Rows.LineAnswersSaid :=
  OpenClaim.holds_of_wide 3 Try.f3 rfl rfl rfl rfl rfl rfl rfl ⟨rfl, rfl, rfl, rfl, rfl⟩ rfl rfl rfl rfl rfl (by kernel_rfl) Try.func3 (by kernel_rfl)
    (of_decide_eq_true (by kernel_rfl)) (by unfold Func.isWrapper; first | (rw [if_pos (by decide +kernel)]; kernel_rfl) | (rw [if_neg (by decide +kernel)]; exact ⟨rfl, rfl⟩))
    (fun os started H enc _ => lifted os started H enc)
end Go.Proofs.Ytadfleopbpomfaa.lawAnswers
