/- TreeUnions: A set of two lists of ranges has what one of both has; turned round, what neither has; of up to 60. Conditions: none. -/
import Derived.Test.YtkojnnjcgcllmaaGreatDoorRows
import Derived.Deep.DeepCutAuto
import Derived.IntWalk
import Derived.Test.YtkojnnjcgcllmaaGreatDoorZB1
import Derived.Test.YtkojnnjcgcllmaaGreatDoorZB6
import Derived.Test.YtkojnnjcgcllmaaGreatDoorZB12
import Derived.Test.YtkojnnjcgcllmaaGreatDoorZB18
namespace Go.Proofs.YtkojnnjcgcllmaaGreatDoor.lawUnions
open Go.ChangeShapes Go.WideShapes Go.ChangeAt Go.RowKit
set_option maxRecDepth 20000 in
set_option maxHeartbeats 8000000 in
theorem walk_ok (w : World) (hFT : FoTabs w) (A : Option Addr) (R : List (Int × Int)) (c : Nat) (A' : Option Addr) (Q : List (Int × Int)) (c' : Nat) (x : Int) (hl : R.length ≤ 60) (hl' : Q.length ≤ 60) (h : Lies w w.heap.size A (prC R)) (h' : Lies w w.heap.size A' (prC Q)) :
 Calls Tryz.prog 7 #[.slice A R.length c, .slice A' Q.length c', .int .i64 x] w fun e w' => e = .returned (.bool true) ∧ Below w.heap.size w w' := by
 have HFT := Lib.hid hFT
 clear hFT
 have LR := Lib.hid h
 have LQ := Lib.hid h'
 obtain ⟨J, hJ⟩ : ∃ J, R ++ Q = J := ⟨_, rfl⟩
 have HJ := Lib.hid hJ
 have hjl : J.length ≤ 120 := by rw [← hJ, List.length_append]; omega
 have hz1 := (setR_le J).2
 have H1 := Lib.hid (setR_has (R := J) (by omega) x)
 have H2 := Lib.hid (turnR_has (R := J) (by omega) x)
 have H5 := Lib.hid (set_join (A := R) (B := Q) (by omega))
 rw [hJ] at H5
 obtain ⟨U, hU⟩ : ∃ U, setR R = U := ⟨_, rfl⟩
 have HU := Lib.hid hU
 have hu : U.length ≤ 60 := by have := (setR_le R).2; rw [← hU]; omega
 obtain ⟨V, hV⟩ : ∃ V, setR Q = V := ⟨_, rfl⟩
 have HV := Lib.hid hV
 have hv : V.length ≤ 60 := by have := (setR_le Q).2; rw [← hV]; omega
 rw [hU, hV] at H5
 obtain ⟨S, hS⟩ : ∃ S, setR J = S := ⟨_, rfl⟩
 have HS := Lib.hid hS
 rw [hS] at hz1 H1 H5
 obtain ⟨T, hT⟩ : ∃ T, turnR J = T := ⟨_, rfl⟩
 have HT := Lib.hid hT
 have hz3 : T.length ≤ 500 := by have := turnR_len (R := J) (by omega); rw [← hT]; omega
 rw [hT] at H2
 have HX : Hid ((decide (0 ≤ x) && decide (x ≤ topR)) = insB x) := Lib.hid rfl
 rw [HX.out, ← hJ, hasR_append] at H1
 rw [← hJ, hasR_append] at H2
 obtain ⟨p, hp⟩ : ∃ q, hasR R x = q := ⟨_, rfl⟩
 have HP := Lib.hid hp
 obtain ⟨q, hq⟩ : ∃ q, hasR Q x = q := ⟨_, rfl⟩
 have HQ := Lib.hid hq
 rw [hp, hq] at H1 H2
 obtain ⟨ins, hi⟩ : ∃ b, insB x = b := ⟨_, rfl⟩
 rw [hi] at HX H1 H2
 have d1 : decide (60 < (R.length : Int)) = false := decide_eq_false (by omega)
 have d1' : decide (60 < (Q.length : Int)) = false := decide_eq_false (by omega)
 clear h h' hJ hS hT hp hq hi hU hV
 go_enter Tryz.func7, Tryz.ntmps7
 go_wp2_with fail
 refine (alive_any w HFT.out).mono ?_
 rintro e w1 ⟨rfl, b⟩
 have LR := Lib.hid (LR.out.up b)
 have LQ := Lib.hid (LQ.out.up b)
 have BB := Lib.hid (b)
 clear b
 have E1 := Lib.hid (OwnN.ofLit (w := w1) (B := w1.heap.size) (e := 30) (size := 2) (n := 0) #[] (Nat.le_refl _) (by simp [maxLen]) rfl)
 go_wp2_with (first
  | (at_builtin; refine appN_at rgT w1 _ w1.heap.size _ _ _ (.slice (some ⟨w1.heap.size, 0, none⟩) 0 0) 0 R.length [] (prC R) _ _ rfl rfl rfl rfl E1.out (LR.out.alloc (Nat.le_refl _) _) (prC_length R) (prC_one _) (below_alloc _ _) (by simp) (by unfold maxLen; omega) (by omega) ?_; intro va wa oa ba _ _; have OA : Hid (OwnN wa w1.heap.size 30 2 va R.length (prC R)) := Lib.hid (by simpa using oa); have BA := Lib.hid ba; clear oa ba)
  | (at_builtin; refine appN_at rgT w1 _ w1.heap.size _ _ _ va R.length Q.length (prC R) (prC Q) _ _ rfl rfl rfl rfl OA.out (LQ.out.below BA.out) (prC_length Q) (prC_one _) BA.out BA.out.size (by unfold maxLen; omega) (by omega) ?_; intro vj wj oj bj _ _; have OJ : Hid (OwnN wj w1.heap.size 30 2 vj J.length (prC J)) := Lib.hid (by rw [← HJ.out, prC_append, List.length_append]; exact oj); have BJ := Lib.hid bj; clear oj bj)
  | fail)
 obtain ⟨AJ, cJ, rfl, lJ, -, -⟩ := OJ.out.form
 have LJ := Lib.hid lJ
 clear lJ
 have b := BJ.out
 have LR := Lib.hid (LR.out.up b)
 have LQ := Lib.hid (LQ.out.up b)
 have BB := Lib.hid (below_then BB.out b)
 clear b
 go_wp2_with fail
 refine (trset_any wj AJ J cJ LJ.out).mono ?_
 rintro e w2 ⟨v, rfl, o, b⟩
 rw [HS.out] at o
 obtain ⟨A1, c1, rfl, l, -, -⟩ := o.form
 have LR := Lib.hid (LR.out.up b)
 have LQ := Lib.hid (LQ.out.up b)
 have LJ := Lib.hid (LJ.out.up b)
 have BB := Lib.hid (below_then BB.out b)
 have L1 := Lib.hid l
 clear o b l
 go_wp2_with fail
 refine (trturn_any w2 AJ J cJ LJ.out).mono ?_
 rintro e w3 ⟨v, rfl, o, b⟩
 rw [HT.out] at o
 obtain ⟨A2, c2, rfl, l, -, -⟩ := o.form
 have LR := Lib.hid (LR.out.up b)
 have LQ := Lib.hid (LQ.out.up b)
 have LJ := Lib.hid (LJ.out.up b)
 have L1 := Lib.hid (L1.out.up b)
 have BB := Lib.hid (below_then BB.out b)
 have L2 := Lib.hid l
 clear o b l
 go_upto_region 7 with fail
 go_cut [10] (fun v wx => v = .bool ins ∧ w3 = wx)
 case first =>
  by_cases h0 : 0 ≤ x
  ·by_cases h1 : x ≤ 1114111
   ·have d2 : decide (0 ≤ x) = true := decide_eq_true h0
    have d3 : decide (x ≤ 1114111) = true := decide_eq_true h1
    have HE : Hid (true = ins) := Lib.hid (by rw [← HX.out]; unfold topR; rw [d2, d3]; rfl)
    clear h0 h1
    go_wp2_with fail
    go_meet
    exact ⟨by rw [HE.out], rfl⟩
   ·have d2 : decide (0 ≤ x) = true := decide_eq_true h0
    have d3 : decide (x ≤ 1114111) = false := decide_eq_false h1
    have HE : Hid (false = ins) := Lib.hid (by rw [← HX.out]; unfold topR; rw [d2, d3]; rfl)
    clear h0 h1
    go_wp2_with fail
    go_meet
    exact ⟨by rw [HE.out], rfl⟩
  ·have d2 : decide (0 ≤ x) = false := decide_eq_false h0
   have HE : Hid (false = ins) := Lib.hid (by rw [← HX.out, d2]; rfl)
   clear h0
   go_wp2_with fail
   go_meet
   exact ⟨by rw [HE.out], rfl⟩
 case rest =>
  obtain ⟨rfl, rfl⟩ := hcut
  obtain ⟨hs, hhs⟩ : ∃ b, (ins && (p || q)) = b := ⟨_, rfl⟩
  have HH := Lib.hid hhs
  rw [hhs] at H1
  have H2' : Hid (hasR T x = (ins && !hs)) := Lib.hid (by rw [H2.out, ← hhs]; cases ins <;> rfl)
  clear hhs
  go_upto_region 8 with fail
  go_cut [11] (fun v wx => v = .bool hs ∧ Below w3.heap.size w3 wx)
  case first =>
   rcases ins with _ | _
   ·have HE : Hid (false = hs) := Lib.hid (by rw [← HH.out]; rfl)
    go_wp2_with fail
    go_meet
    exact ⟨by rw [HE.out], Below.refl _ _⟩
   ·rcases p with _ | _
    ·have HE : Hid (q = hs) := Lib.hid (by rw [← HH.out]; rfl)
     go_wp2_with fail
     refine (trhas_any w3 A R c x LR.out (by omega)).mono ?_
     rintro e wq ⟨rfl, bq⟩
     rw [HP.out]
     have LQq := Lib.hid (LQ.out.up bq)
     have BQ := Lib.hid bq
     clear bq
     go_wp2_with fail
     refine (trhas_any wq A' Q c' x LQq.out (by omega)).mono ?_
     rintro e wp ⟨rfl, bp⟩
     rw [HQ.out, HE.out]
     have BP := Lib.hid (below_then BQ.out bp)
     clear bp
     go_wp2_with fail
     go_meet
     exact ⟨rfl, BP.out⟩
    ·have HE : Hid (true = hs) := Lib.hid (by rw [← HH.out]; rfl)
     go_wp2_with fail
     refine (trhas_any w3 A R c x LR.out (by omega)).mono ?_
     rintro e wq ⟨rfl, bq⟩
     rw [HP.out]
     have BQ := Lib.hid bq
     clear bq
     go_wp2_with fail
     go_meet
     exact ⟨by rw [HE.out], BQ.out⟩
  case rest =>
   obtain ⟨rfl, b⟩ := hcut
   have LR := Lib.hid (LR.out.up b)
   have LQ := Lib.hid (LQ.out.up b)
   have L1 := Lib.hid (L1.out.up b)
   have L2 := Lib.hid (L2.out.up b)
   have BB := Lib.hid (below_then BB.out b)
   clear b
   rcases hs with _ | _
   all_goals rcases ins with _ | _
   all_goals (try (exfalso; have := HH.out; simp at this; done))
   all_goals
    go_wp2_with fail
    refine (trhas_any wc A1 S c1 x L1.out (by omega)).mono ?_
    rintro e w4 ⟨rfl, b⟩
    rw [H1.out]
    have LR := Lib.hid (LR.out.up b)
    have LQ := Lib.hid (LQ.out.up b)
    have L1 := Lib.hid (L1.out.up b)
    have L2 := Lib.hid (L2.out.up b)
    have BB := Lib.hid (below_then BB.out b)
    clear b
    go_wp2_with fail
    refine (trhas_any w4 A2 T c2 x L2.out (by omega)).mono ?_
    rintro e w5 ⟨rfl, b⟩
    rw [H2'.out]
    have LR := Lib.hid (LR.out.up b)
    have LQ := Lib.hid (LQ.out.up b)
    have L1 := Lib.hid (L1.out.up b)
    have L2 := Lib.hid (L2.out.up b)
    have BB := Lib.hid (below_then BB.out b)
    clear b
    have L1p := L1
    go_wp2_with fail
    refine (trset_any w5 A R c LR.out).mono ?_
    rintro e wu ⟨v, rfl, o, b⟩
    rw [HU.out] at o
    obtain ⟨AU, cU, rfl, -, -, -⟩ := o.form
    have LR := Lib.hid (LR.out.up b)
    have LQ := Lib.hid (LQ.out.up b)
    have L1 := Lib.hid (L1.out.up b)
    have L2 := Lib.hid (L2.out.up b)
    have OU := Lib.hid o
    have BU := Lib.hid b
    clear o b
    go_wp2_with fail
    refine (trset_any wu A' Q c' LQ.out).mono ?_
    rintro e wv ⟨v, rfl, o, b⟩
    rw [HV.out] at o
    obtain ⟨AV, cV, rfl, l, -, -⟩ := o.form
    have LR := Lib.hid (LR.out.up b)
    have LQ := Lib.hid (LQ.out.up b)
    have L1 := Lib.hid (L1.out.up b)
    have L2 := Lib.hid (L2.out.up b)
    have LV := Lib.hid l
    have OU := Lib.hid (OU.out.below b (Nat.le_refl _))
    have BU := Lib.hid (below_then BU.out b)
    clear o b l
    go_wp2_with (first
     | (at_builtin; refine appN_on rgT w5 _ w5.heap.size _ _ _ (.slice AU U.length cU) U.length V.length (prC U) (prC V) _ _ (by first | rfl | decide) rfl rfl rfl OU.out LV.out (prC_length V) (prC_one _) BU.out BU.out.size (by unfold maxLen; omega) (by omega) ?_; intro vy wy oy bY; have OY : Hid (OwnN wy w5.heap.size 30 2 vy (U ++ V).length (prC (U ++ V))) := Lib.hid (by rw [prC_append, List.length_append]; exact oy); have BY := Lib.hid bY; clear oy bY)
     | fail)
    obtain ⟨AY, cY, rfl, lY, -, -⟩ := OY.out.form
    have LY := Lib.hid lY
    have b := BY.out
    clear lY
    have BB := Lib.hid (below_then BB.out b)
    have L1 := Lib.hid (L1p.out.up b)
    clear b
    have HSJ := trset_any wy AY (U ++ V) cY LY.out
    rw [H5.out, List.length_append] at HSJ
    simp only [List.length_append]
    go_wp2_with fail
    refine HSJ.mono ?_
    clear HSJ
    rintro e wz ⟨v, rfl, o, b⟩
    obtain ⟨AZ, cZ, rfl, l, -, -⟩ := o.form
    have L1 := Lib.hid (L1.out.up b)
    have BB := Lib.hid (below_then BB.out b)
    have LZ := Lib.hid l
    clear o b l
    go_wp2_with fail
    refine (rsamesets_any wz _ _ AZ A1 S S cZ c1 LZ.out L1.out (by omega) (by omega)).mono ?_
    rintro e we ⟨rfl, b⟩
    rw [show decide (S = S) = true from decide_eq_true rfl]
    have BB := Lib.hid (below_then BB.out b)
    clear b
    go_wp2_with fail
    go_ret
    exact ⟨rfl, BB.out⟩
set_option maxRecDepth 20000 in
set_option maxHeartbeats 1000000 in
theorem walk_long (w : World) (hFT : FoTabs w) (A : Option Addr) (R : List (Int × Int)) (c : Nat) (A' : Option Addr) (Q : List (Int × Int)) (c' : Nat) (x : Int) (hl : 60 < R.length ∨ 60 < Q.length) :
 Calls Tryz.prog 7 #[.slice A R.length c, .slice A' Q.length c', .int .i64 x] w fun e w' => e = .returned (.bool true) ∧ Below w.heap.size w w' := by
 obtain ⟨n, hn⟩ : ∃ n, R.length = n := ⟨_, rfl⟩
 obtain ⟨m, hm⟩ : ∃ n, Q.length = n := ⟨_, rfl⟩
 rw [hn, hm] at hl ⊢
 by_cases h0 : 60 < n
 ·have d1 : decide (60 < (n : Int)) = true := decide_eq_true (by omega)
  clear hl h0
  go_enter Tryz.func7, Tryz.ntmps7
  go_wp2_with fail
  refine (alive_any w hFT).mono ?_
  rintro e w1 ⟨rfl, b1⟩
  have B1 := Lib.hid b1
  clear b1
  go_wp2_with fail
  go_ret
  exact ⟨rfl, B1.out⟩
 ·have d1 : decide (60 < (n : Int)) = false := decide_eq_false (by omega)
  have d2 : decide (60 < (m : Int)) = true := decide_eq_true (by omega)
  clear hl h0
  go_enter Tryz.func7, Tryz.ntmps7
  go_wp2_with fail
  refine (alive_any w hFT).mono ?_
  rintro e w1 ⟨rfl, b1⟩
  have B1 := Lib.hid b1
  clear b1
  go_wp2_with fail
  go_ret
  exact ⟨rfl, B1.out⟩
theorem walk (w : World) (hFT : FoTabs w) (A : Option Addr) (R : List (Int × Int)) (c : Nat) (_ : R.length ≤ c) (_ : c ≤ maxLen) (h : Lies w w.heap.size A (prC R)) (_ : ∀ r ∈ R, (Lit.int .i64 r.1).wf = true ∧ (Lit.int .i64 r.2).wf = true) (A' : Option Addr) (Q : List (Int × Int)) (c' : Nat) (_ : Q.length ≤ c') (_ : c' ≤ maxLen) (h' : Lies w w.heap.size A' (prC Q)) (_ : ∀ r ∈ Q, (Lit.int .i64 r.1).wf = true ∧ (Lit.int .i64 r.2).wf = true) (x : Int) (_ : (Lit.int .i64 x).wf = true) :
 Calls Tryz.prog 7 #[.slice A R.length c, .slice A' Q.length c', .int .i64 x] w fun e w' => e = .returned (.bool true) ∧ Below w.heap.size w w' := by
 by_cases hh : 60 < R.length ∨ 60 < Q.length
 ·exact walk_long w hFT A R c A' Q c' x hh
 ·exact walk_ok w hFT A R c A' Q c' x (by omega) (by omega) h h'
-- WRAP
theorem spec : LawSpec Rows.treeUnionsSpec 3 := ⟨rfl, fun H ds h => by
 match ds, h with
 | [d0, d1, d2], _ => rfl⟩
theorem params_ok : ∀ t ∈ Tryz.f7.params.toList, Tryz.prog.readableRec t = true ∧ t < Tryz.prog.types.size := by
 rw [Tryz.params7]
 intro t ht
 simp only [List.mem_cons, List.mem_nil_iff, or_false] at ht
 rcases ht with rfl | rfl | rfl
 all_goals exact ⟨by kernel_rfl, of_decide_eq_true (by kernel_rfl)⟩
set_option maxRecDepth 100000 in
theorem contract (H : Type) (enc : TypeId × Value → H) (W : World) (base : Nat) (args : Array Value) (ds gs : List (DataW H)) (before : List MemPlace)
 (hval : ∀ (j : Nat) t v, Tryz.f7.params[j]? = some t → args[j]? = some v → Value.okWide Tryz.prog W .any base t v)
 (hW : DataW.Whole enc Tryz.prog Tryz.f7.params.toList Rows.treeUnionsSpec.vars false W args.toList ds gs before) (hL : laidMetH Tryz.prog laidList W) :
 Calls Tryz.prog 7 args W fun e W' => ∃ v, e = .returned v ∧ Rows.treeUnionsSpec.post enc Tryz.prog Tryz.f7 false true false false W args v W' := by
 have hW' := hW
 obtain ⟨p, q, hA0, hV, rfl, hfz, hnd⟩ := hW
 have hA : DataW.TrodAll enc Tryz.prog W 0 (fun _ => true) true Tryz.f7.params.toList args.toList ds p := hA0
 rw [Tryz.params7] at hA hval
 obtain ⟨v0, vs0, d0, ds0, p0, q0, hargs, rfl, rfl, h0, r0⟩ := trodAll_cons hA
 obtain ⟨v1, vs1, d1, ds1, p1, q1, rfl, rfl, rfl, h1, r1⟩ := trodAll_cons r0
 obtain ⟨v2, vs2, d2, ds2, p2, q2, rfl, rfl, rfl, h2, r2⟩ := trodAll_cons r1
 obtain ⟨rfl, rfl, rfl⟩ := trodAll_nil r2
 obtain rfl : args = #[v0, v1, v2] := by cases args; simp_all
 obtain ⟨A0, l0, c0, rfl, hc0, hm0, hl0, wf0⟩ := open_ranges Tryz.underlying22 Tryz.underlying30 (by kernel_rfl) rfl rfl (by kernel_rfl) (by kernel_rfl) Tryz.underlying3 Tryz.underlying3 (hval 0 22 v0 rfl rfl) h0
 obtain ⟨A1, l1, c1, rfl, hc1, hm1, hl1, wf1⟩ := open_ranges Tryz.underlying22 Tryz.underlying30 (by kernel_rfl) rfl rfl (by kernel_rfl) (by kernel_rfl) Tryz.underlying3 Tryz.underlying3 (hval 1 22 v1 rfl rfl) h1
 obtain ⟨a2, rfl, rfl, rfl, w2⟩ := open_int Tryz.underlying3 (hval 2 3 v2 rfl rfl) h2
 exact (walk W (tabs_of hL) A0 l0 c0 hc0 hm0 hl0 wf0 A1 l1 c1 hc1 hm1 hl1 wf1 a2 w2).mono fun e W' ⟨he, hg⟩ => ⟨_, he, law_post spec (by rw [Tryz.params7]; rfl) (by kernel_rfl) params_ok (by kernel_rfl) Tryz.underlying4 hW' hg⟩
set_option maxRecDepth 100000 in
theorem laid_met (os : Os) : laidMet Tryz.prog Rows.treeUnionsRow.laid ((laidWorld os #[.slice none 0 0, .slice none 0 0, .int .i64 0]).forCall (fun _ _ => 0) ⟨#[], #[.slice none 0 0, .slice none 0 0, .int .i64 0], []⟩).memory :=
 laidMet_of_run' 8 (by kernel_rfl) (by kernel_rfl)
set_option maxRecDepth 100000 in
theorem reads (os : Os) {H : Type} (enc : TypeId × Value → H) : ∃ places, DataW.whole enc Tryz.prog ((laidWorld os #[.slice none 0 0, .slice none 0 0, .int .i64 0]).forCall (fun _ _ => 0) ⟨#[], #[.slice none 0 0, .slice none 0 0, .int .i64 0], []⟩).memory Tryz.f7.params.toList Rows.treeUnionsSpec.vars false #[.slice none 0 0, .slice none 0 0, .int .i64 0].toList 8 = some ([.nil, .nil, .lit (.int .i64 0)], [], places) :=
 ⟨[], by kernel_rfl⟩
set_option maxRecDepth 100000 in
theorem lifted (os : Os) (started : os.Started) (H : Type) (enc : TypeId × Value → H) (F : Stop.Interp) :
 ReturnsInHanded {} Tryz.checked os 7 .any ((OpenSpec.ofChange Rows.treeUnionsSpec).preRow enc Tryz.prog Tryz.f7 Rows.treeUnionsRow.domain false Rows.treeUnionsRow.laid) (((OpenSpec.ofChange Rows.treeUnionsSpec).at F).post enc Tryz.prog Tryz.f7 false true false false) := by
 obtain ⟨places, hx⟩ := reads os enc
 refine returnsInHanded_of_row (C := Tryz.checked) (s := OpenSpec.ofChange Rows.treeUnionsSpec) own started (by kernel_rfl) Tryz.func7
  (witness_row_at (enc := enc) (C := Tryz.checked) false (laidWorld os #[.slice none 0 0, .slice none 0 0, .int .i64 0]) #[.slice none 0 0, .slice none 0 0, .int .i64 0] rfl (by kernel_rfl) (by kernel_rfl) (by kernel_rfl)
   (OpenSpec.preRow_of_cond 8 hx (by kernel_rfl) (fun k hk => by cases hk) (by kernel_rfl) (laid_met os))) ?_
 intro W base args ds gs before hval hW _ _ _ hL _ _
 exact contract H enc W base args ds gs before hval hW hL
set_option maxRecDepth 100000 in
theorem said : Rows.TreeUnionsSaid :=
 OpenClaim.holds_of_cond 7 Tryz.f7 rfl rfl rfl rfl rfl rfl rfl ⟨rfl, rfl, rfl, rfl, rfl⟩ rfl rfl rfl rfl rfl (by kernel_rfl) Tryz.func7 (by kernel_rfl)
  (of_decide_eq_true (by kernel_rfl)) (by unfold Func.isWrapper; first | (rw [if_pos (by decide +kernel)]; kernel_rfl) | (rw [if_neg (by decide +kernel)]; exact ⟨rfl, rfl⟩))
  (fun os started H enc _ F => by rw [OpenClaim.pre_eq_preRow]; exact lifted os started H enc F)
set_option maxRecDepth 100000 in
theorem card : Rows.TreeUnionsCardSaid :=
 Claim7.holds_tied_plain_at .later [] _ _ _ _ said (fun _ h => by cases h) (by kernel_rfl) (fun _ h => by cases h) treeUnions_row_tie rfl ⟨rfl, rfl⟩ (by kernel_rfl) rfl
  (plainOf "ductus/ductuslaw16.TreeUnions" 7 Tryz.f7 (by kernel_rfl) Tryz.func7 (by kernel_rfl) (fun j t ht => by
   rw [Tryz.params7] at ht
   have hm := Array.mem_of_getElem? ht
   simp only [List.mem_toArray, List.mem_cons, List.mem_nil_iff, or_false] at hm
   rcases hm with rfl | rfl | rfl
   all_goals (show Tryz.prog.wantsStandIn _ = false; kernel_rfl))) (by kernel_rfl)
end Go.Proofs.YtkojnnjcgcllmaaGreatDoor.lawUnions
