/- TreeSets: Any ranges, as they are least, behind flags, turned round: the program's are the document's; of up to 60. Conditions: none. -/
import Derived.Test.YtkojnnjcgcllmaaGreatDoorRows
import Derived.Deep.DeepCutAuto
import Derived.IntWalk
import Derived.Test.YtkojnnjcgcllmaaGreatDoorZB1
import Derived.Test.YtkojnnjcgcllmaaGreatDoorZB6
import Derived.Test.YtkojnnjcgcllmaaGreatDoorZB12
import Derived.Test.YtkojnnjcgcllmaaGreatDoorZB18
namespace Go.Proofs.YtkojnnjcgcllmaaGreatDoor.lawSets
open Go.ChangeShapes Go.WideShapes Go.ChangeAt Go.RowKit
set_option maxRecDepth 20000 in
set_option maxHeartbeats 8000000 in
theorem walk_ok (w : World) (hFT : FoTabs w) (A : Option Addr) (R : List (Int × Int)) (c : Nat) (f x : Int) (hl : R.length ≤ 60) (h : Lies w w.heap.size A (prC R)) :
 Calls Tryz.prog 3 #[.slice A R.length c, .int .i64 f, .int .i64 x] w fun e w' => e = .returned (.bool true) ∧ Below w.heap.size w w' := by
 have HFT := Lib.hid hFT
 clear hFT
 have LR := Lib.hid h
 have hz1 := (setR_le R).1
 obtain ⟨S, hS⟩ : ∃ S, setR R = S := ⟨_, rfl⟩
 have HS := Lib.hid hS
 rw [hS] at hz1
 obtain ⟨C, hC⟩ : ∃ C, closeR (bits .and .i64 f 1 == 1) (bits .and .i64 f 2 == 2) R = C := ⟨_, rfl⟩
 have HC := Lib.hid hC
 have hz2 : C.length ≤ 500 := by rw [← hC]; exact closeR_le _ _ R
 obtain ⟨T, hT⟩ : ∃ T, turnR R = T := ⟨_, rfl⟩
 have HT := Lib.hid hT
 have hz3 : T.length ≤ 500 := by have := turnR_len (R := R) (by omega); rw [← hT]; omega
 obtain ⟨q, hq⟩ : ∃ q, hasR R x = q := ⟨_, rfl⟩
 have HQ := Lib.hid hq
 have d1 : decide (60 < (R.length : Int)) = false := decide_eq_false (by omega)
 clear h hS hC hT hq
 go_enter Tryz.func3, Tryz.ntmps3
 go_wp2_with fail
 refine (alive_any w HFT.out).mono ?_
 rintro e w1 ⟨rfl, b⟩
 have LR := Lib.hid (LR.out.up b)
 have BB := Lib.hid (b)
 clear b
 go_wp2_with fail
 refine (trset_any w1 A R c LR.out).mono ?_
 rintro e w2 ⟨v, rfl, o, b⟩
 rw [HS.out] at o
 obtain ⟨A1, c1, rfl, l, -, -⟩ := o.form
 have LR := Lib.hid (LR.out.up b)
 have BB := Lib.hid (below_then BB.out b)
 have L1 := Lib.hid l
 clear o b l
 go_wp2_with fail
 refine (rset16_any w2 A R c LR.out).mono ?_
 rintro e w3 ⟨v, rfl, o, b⟩
 rw [HS.out] at o
 obtain ⟨A2, c2, rfl, l, -, -⟩ := o.form
 have LR := Lib.hid (LR.out.up b)
 have L1 := Lib.hid (L1.out.up b)
 have BB := Lib.hid (below_then BB.out b)
 have L2 := Lib.hid l
 clear o b l
 go_wp2_with fail
 refine (rsamesets_any w3 _ _ A1 A2 S S c1 c2 L1.out L2.out (by omega) (by omega)).mono ?_
 rintro e w4 ⟨rfl, b⟩
 rw [show decide (S = S) = true from decide_eq_true rfl]
 have LR := Lib.hid (LR.out.up b)
 have L1 := Lib.hid (L1.out.up b)
 have L2 := Lib.hid (L2.out.up b)
 have BB := Lib.hid (below_then BB.out b)
 clear b
 go_wp2_with fail
 refine (trclose_any w4 (HFT.out.below BB.out HFT.out.big) A R c f LR.out (beh_close _ _ (by omega))).mono ?_
 rintro e w5 ⟨v, rfl, o, b⟩
 rw [HC.out] at o
 obtain ⟨A3, c3, rfl, l, -, -⟩ := o.form
 have LR := Lib.hid (LR.out.up b)
 have BB := Lib.hid (below_then BB.out b)
 have L3 := Lib.hid l
 clear o b l
 go_wp2_with fail
 refine (rclose16_any w5 A R c f LR.out).mono ?_
 rintro e w6 ⟨v, rfl, o, b⟩
 rw [HC.out] at o
 obtain ⟨A4, c4, rfl, l, -, -⟩ := o.form
 have LR := Lib.hid (LR.out.up b)
 have L3 := Lib.hid (L3.out.up b)
 have BB := Lib.hid (below_then BB.out b)
 have L4 := Lib.hid l
 clear o b l
 go_wp2_with fail
 refine (rsamesets_any w6 _ _ A3 A4 C C c3 c4 L3.out L4.out (by omega) (by omega)).mono ?_
 rintro e w7 ⟨rfl, b⟩
 rw [show decide (C = C) = true from decide_eq_true rfl]
 have LR := Lib.hid (LR.out.up b)
 have L3 := Lib.hid (L3.out.up b)
 have L4 := Lib.hid (L4.out.up b)
 have BB := Lib.hid (below_then BB.out b)
 clear b
 go_wp2_with fail
 refine (trturn_any w7 A R c LR.out).mono ?_
 rintro e w8 ⟨v, rfl, o, b⟩
 rw [HT.out] at o
 obtain ⟨A5, c5, rfl, l, -, -⟩ := o.form
 have LR := Lib.hid (LR.out.up b)
 have BB := Lib.hid (below_then BB.out b)
 have L5 := Lib.hid l
 clear o b l
 go_wp2_with fail
 refine (rturn16_any w8 A R c LR.out).mono ?_
 rintro e w9 ⟨v, rfl, o, b⟩
 rw [HT.out] at o
 obtain ⟨A6, c6, rfl, l, -, -⟩ := o.form
 have LR := Lib.hid (LR.out.up b)
 have L5 := Lib.hid (L5.out.up b)
 have BB := Lib.hid (below_then BB.out b)
 have L6 := Lib.hid l
 clear o b l
 go_wp2_with fail
 refine (rsamesets_any w9 _ _ A5 A6 T T c5 c6 L5.out L6.out (by omega) (by omega)).mono ?_
 rintro e w10 ⟨rfl, b⟩
 rw [show decide (T = T) = true from decide_eq_true rfl]
 have LR := Lib.hid (LR.out.up b)
 have L5 := Lib.hid (L5.out.up b)
 have L6 := Lib.hid (L6.out.up b)
 have BB := Lib.hid (below_then BB.out b)
 clear b
 rcases q with _ | _
 all_goals
  go_wp2_with fail
  refine (trhas_any w10 A R c x LR.out (by omega)).mono ?_
  rintro e w11 ⟨rfl, b⟩
  rw [HQ.out]
  have LR := Lib.hid (LR.out.up b)
  have BB := Lib.hid (below_then BB.out b)
  clear b
  go_wp2_with fail
  refine (rhas16_any w11 _ A R c x LR.out (by omega)).mono ?_
  rintro e wq ⟨rfl, rfl⟩
  rw [HQ.out]
  go_wp2_with fail
  go_ret
  exact ⟨rfl, BB.out⟩
set_option maxRecDepth 20000 in
set_option maxHeartbeats 1000000 in
theorem walk_long (w : World) (hFT : FoTabs w) (A : Option Addr) (R : List (Int × Int)) (c : Nat) (f x : Int) (hl : 60 < R.length) :
 Calls Tryz.prog 3 #[.slice A R.length c, .int .i64 f, .int .i64 x] w fun e w' => e = .returned (.bool true) ∧ Below w.heap.size w w' := by
 have d1 : decide (60 < (R.length : Int)) = true := decide_eq_true (by omega)
 clear hl
 go_enter Tryz.func3, Tryz.ntmps3
 go_wp2_with fail
 refine (alive_any w hFT).mono ?_
 rintro e w1 ⟨rfl, b1⟩
 have B1 := Lib.hid b1
 clear b1
 go_wp2_with fail
 go_ret
 exact ⟨rfl, B1.out⟩
theorem walk (w : World) (hFT : FoTabs w) (A : Option Addr) (R : List (Int × Int)) (c : Nat) (_ : R.length ≤ c) (_ : c ≤ maxLen) (h : Lies w w.heap.size A (prC R)) (_ : ∀ r ∈ R, (Lit.int .i64 r.1).wf = true ∧ (Lit.int .i64 r.2).wf = true) (f : Int) (_ : (Lit.int .i64 f).wf = true) (x : Int) (_ : (Lit.int .i64 x).wf = true) :
 Calls Tryz.prog 3 #[.slice A R.length c, .int .i64 f, .int .i64 x] w fun e w' => e = .returned (.bool true) ∧ Below w.heap.size w w' := by
 by_cases hh : 60 < R.length
 ·exact walk_long w hFT A R c f x hh
 ·exact walk_ok w hFT A R c f x (by omega) h
-- WRAP
theorem spec : LawSpec Rows.treeSetsSpec 3 := ⟨rfl, fun H ds h => by
 match ds, h with
 | [d0, d1, d2], _ => rfl⟩
theorem params_ok : ∀ t ∈ Tryz.f3.params.toList, Tryz.prog.readableRec t = true ∧ t < Tryz.prog.types.size := by
 rw [Tryz.params3]
 intro t ht
 simp only [List.mem_cons, List.mem_nil_iff, or_false] at ht
 rcases ht with rfl | rfl | rfl
 all_goals exact ⟨by kernel_rfl, of_decide_eq_true (by kernel_rfl)⟩
set_option maxRecDepth 100000 in
theorem contract (H : Type) (enc : TypeId × Value → H) (W : World) (base : Nat) (args : Array Value) (ds gs : List (DataW H)) (before : List MemPlace)
 (hval : ∀ (j : Nat) t v, Tryz.f3.params[j]? = some t → args[j]? = some v → Value.okWide Tryz.prog W .any base t v)
 (hW : DataW.Whole enc Tryz.prog Tryz.f3.params.toList Rows.treeSetsSpec.vars false W args.toList ds gs before) (hL : laidMetH Tryz.prog laidList W) :
 Calls Tryz.prog 3 args W fun e W' => ∃ v, e = .returned v ∧ Rows.treeSetsSpec.post enc Tryz.prog Tryz.f3 false true false false W args v W' := by
 have hW' := hW
 obtain ⟨p, q, hA0, hV, rfl, hfz, hnd⟩ := hW
 have hA : DataW.TrodAll enc Tryz.prog W 0 (fun _ => true) true Tryz.f3.params.toList args.toList ds p := hA0
 rw [Tryz.params3] at hA hval
 obtain ⟨v0, vs0, d0, ds0, p0, q0, hargs, rfl, rfl, h0, r0⟩ := trodAll_cons hA
 obtain ⟨v1, vs1, d1, ds1, p1, q1, rfl, rfl, rfl, h1, r1⟩ := trodAll_cons r0
 obtain ⟨v2, vs2, d2, ds2, p2, q2, rfl, rfl, rfl, h2, r2⟩ := trodAll_cons r1
 obtain ⟨rfl, rfl, rfl⟩ := trodAll_nil r2
 obtain rfl : args = #[v0, v1, v2] := by cases args; simp_all
 obtain ⟨A0, l0, c0, rfl, hc0, hm0, hl0, wf0⟩ := open_ranges Tryz.underlying22 Tryz.underlying30 (by kernel_rfl) rfl rfl (by kernel_rfl) (by kernel_rfl) Tryz.underlying3 Tryz.underlying3 (hval 0 22 v0 rfl rfl) h0
 obtain ⟨a1, rfl, rfl, rfl, w1⟩ := open_int Tryz.underlying3 (hval 1 3 v1 rfl rfl) h1
 obtain ⟨a2, rfl, rfl, rfl, w2⟩ := open_int Tryz.underlying3 (hval 2 3 v2 rfl rfl) h2
 exact (walk W (tabs_of hL) A0 l0 c0 hc0 hm0 hl0 wf0 a1 w1 a2 w2).mono fun e W' ⟨he, hg⟩ => ⟨_, he, law_post spec (by rw [Tryz.params3]; rfl) (by kernel_rfl) params_ok (by kernel_rfl) Tryz.underlying4 hW' hg⟩
set_option maxRecDepth 100000 in
theorem laid_met (os : Os) : laidMet Tryz.prog Rows.treeSetsRow.laid ((laidWorld os #[.slice none 0 0, .int .i64 0, .int .i64 0]).forCall (fun _ _ => 0) ⟨#[], #[.slice none 0 0, .int .i64 0, .int .i64 0], []⟩).memory :=
 laidMet_of_run' 8 (by kernel_rfl) (by kernel_rfl)
set_option maxRecDepth 100000 in
theorem reads (os : Os) {H : Type} (enc : TypeId × Value → H) : ∃ places, DataW.whole enc Tryz.prog ((laidWorld os #[.slice none 0 0, .int .i64 0, .int .i64 0]).forCall (fun _ _ => 0) ⟨#[], #[.slice none 0 0, .int .i64 0, .int .i64 0], []⟩).memory Tryz.f3.params.toList Rows.treeSetsSpec.vars false #[.slice none 0 0, .int .i64 0, .int .i64 0].toList 8 = some ([.nil, .lit (.int .i64 0), .lit (.int .i64 0)], [], places) :=
 ⟨[], by kernel_rfl⟩
set_option maxRecDepth 100000 in
theorem lifted (os : Os) (started : os.Started) (H : Type) (enc : TypeId × Value → H) (F : Stop.Interp) :
 ReturnsInHanded {} Tryz.checked os 3 .any ((OpenSpec.ofChange Rows.treeSetsSpec).preRow enc Tryz.prog Tryz.f3 Rows.treeSetsRow.domain false Rows.treeSetsRow.laid) (((OpenSpec.ofChange Rows.treeSetsSpec).at F).post enc Tryz.prog Tryz.f3 false true false false) := by
 obtain ⟨places, hx⟩ := reads os enc
 refine returnsInHanded_of_row (C := Tryz.checked) (s := OpenSpec.ofChange Rows.treeSetsSpec) own started (by kernel_rfl) Tryz.func3
  (witness_row_at (enc := enc) (C := Tryz.checked) false (laidWorld os #[.slice none 0 0, .int .i64 0, .int .i64 0]) #[.slice none 0 0, .int .i64 0, .int .i64 0] rfl (by kernel_rfl) (by kernel_rfl) (by kernel_rfl)
   (OpenSpec.preRow_of_cond 8 hx (by kernel_rfl) (fun k hk => by cases hk) (by kernel_rfl) (laid_met os))) ?_
 intro W base args ds gs before hval hW _ _ _ hL _ _
 exact contract H enc W base args ds gs before hval hW hL
set_option maxRecDepth 100000 in
theorem said : Rows.TreeSetsSaid :=
 OpenClaim.holds_of_cond 3 Tryz.f3 rfl rfl rfl rfl rfl rfl rfl ⟨rfl, rfl, rfl, rfl, rfl⟩ rfl rfl rfl rfl rfl (by kernel_rfl) Tryz.func3 (by kernel_rfl)
  (of_decide_eq_true (by kernel_rfl)) (by unfold Func.isWrapper; first | (rw [if_pos (by decide +kernel)]; kernel_rfl) | (rw [if_neg (by decide +kernel)]; exact ⟨rfl, rfl⟩))
  (fun os started H enc _ F => by rw [OpenClaim.pre_eq_preRow]; exact lifted os started H enc F)
set_option maxRecDepth 100000 in
theorem card : Rows.TreeSetsCardSaid :=
 Claim7.holds_tied_plain_at .later [] _ _ _ _ said (fun _ h => by cases h) (by kernel_rfl) (fun _ h => by cases h) treeSets_row_tie rfl ⟨rfl, rfl⟩ (by kernel_rfl) rfl
  (plainOf "ductus/ductuslaw16.TreeSets" 3 Tryz.f3 (by kernel_rfl) Tryz.func3 (by kernel_rfl) (fun j t ht => by
   rw [Tryz.params3] at ht
   have hm := Array.mem_of_getElem? ht
   simp only [List.mem_toArray, List.mem_cons, List.mem_nil_iff, or_false] at hm
   rcases hm with rfl | rfl | rfl
   all_goals (show Tryz.prog.wantsStandIn _ = false; kernel_rfl))) (by kernel_rfl)
end Go.Proofs.YtkojnnjcgcllmaaGreatDoor.lawSets
