/- TreeTurns: A character is in one of both, a set and it turned round; turned round twice it is as it was; of up to 60. Conditions: none. -/
import Derived.Test.YtkojnnjcgcllmaaGreatDoorRows
import Derived.Deep.DeepCutAuto
import Derived.IntWalk
import Derived.Test.YtkojnnjcgcllmaaGreatDoorZB1
import Derived.Test.YtkojnnjcgcllmaaGreatDoorZB6
import Derived.Test.YtkojnnjcgcllmaaGreatDoorZB12
import Derived.Test.YtkojnnjcgcllmaaGreatDoorZB18
namespace Go.Proofs.YtkojnnjcgcllmaaGreatDoor.lawTurns
open Go.ChangeShapes Go.WideShapes Go.ChangeAt Go.RowKit
set_option maxRecDepth 20000 in
set_option maxHeartbeats 8000000 in
theorem walk_ok (w : World) (hFT : FoTabs w) (A : Option Addr) (R : List (Int × Int)) (c : Nat) (x : Int) (hl : R.length ≤ 60) (h : Lies w w.heap.size A (prC R)) :
 Calls Tryz.prog 4 #[.slice A R.length c, .int .i64 x] w fun e w' => e = .returned (.bool true) ∧ Below w.heap.size w w' := by
 have HFT := Lib.hid hFT
 clear hFT
 have LR := Lib.hid h
 have hz1 := (setR_le R).2
 have HCA := Lib.hid (setR_canon R)
 have H1 := Lib.hid (setR_has (R := R) (by omega) x)
 have H2 := Lib.hid (turnR_has (R := R) (by omega) x)
 have H3 := Lib.hid (turn_twice (R := R) (by omega))
 have H4 := Lib.hid (set_self (setR_canon R) (by omega))
 obtain ⟨S, hS⟩ : ∃ S, setR R = S := ⟨_, rfl⟩
 have HS := Lib.hid hS
 rw [hS] at hz1 HCA H1 H3 H4
 obtain ⟨T, hT⟩ : ∃ T, turnR R = T := ⟨_, rfl⟩
 have HT := Lib.hid hT
 have hz3 : T.length ≤ 500 := by have := turnR_len (R := R) (by omega); rw [← hT]; omega
 rw [hT] at H2 H3
 have HX : Hid ((decide (0 ≤ x) && decide (x ≤ topR)) = insB x) := Lib.hid rfl
 rw [HX.out] at H1
 obtain ⟨q, hq⟩ : ∃ q, hasR R x = q := ⟨_, rfl⟩
 have HQ := Lib.hid hq
 rw [hq] at H1 H2
 obtain ⟨ins, hi⟩ : ∃ b, insB x = b := ⟨_, rfl⟩
 rw [hi] at HX H1 H2
 obtain ⟨n, hn⟩ : ∃ n, S.length = n := ⟨_, rfl⟩
 have HN := Lib.hid hn
 rw [hn] at hz1
 have d1 : decide (60 < (R.length : Int)) = false := decide_eq_false (by omega)
 clear h hS hT hq hi hn
 go_enter Tryz.func4, Tryz.ntmps4
 go_wp2_with fail
 refine (alive_any w HFT.out).mono ?_
 rintro e w1 ⟨rfl, b⟩
 have LR := Lib.hid (LR.out.up b)
 have BB := Lib.hid (b)
 clear b
 go_wp2_with fail
 refine (trset_any w1 A R c LR.out).mono ?_
 rintro e w2 ⟨v, rfl, o, b⟩
 rw [HS.out] at o
 obtain ⟨A1, c1, rfl, l, -, -⟩ := o.form
 have LR := Lib.hid (LR.out.up b)
 have BB := Lib.hid (below_then BB.out b)
 have L1 := Lib.hid l
 clear o b l
 go_wp2_with fail
 refine (trturn_any w2 A R c LR.out).mono ?_
 rintro e w3 ⟨v, rfl, o, b⟩
 rw [HT.out] at o
 obtain ⟨A2, c2, rfl, l, -, -⟩ := o.form
 have LR := Lib.hid (LR.out.up b)
 have L1 := Lib.hid (L1.out.up b)
 have BB := Lib.hid (below_then BB.out b)
 have L2 := Lib.hid l
 clear o b l
 rw [HN.out]
 go_upto_region 6 with fail
 go_cut [7] (fun v wx => v = .bool ins ∧ w3 = wx)
 case first =>
  by_cases h0 : 0 ≤ x
  ·by_cases h1 : x ≤ 1114111
   ·have d2 : decide (0 ≤ x) = true := decide_eq_true h0
    have d3 : decide (x ≤ 1114111) = true := decide_eq_true h1
    have HE : Hid (true = ins) := Lib.hid (by rw [← HX.out]; unfold topR; rw [d2, d3]; rfl)
    clear h0 h1
    go_wp2_with fail
    go_meet
    exact ⟨by rw [HE.out], rfl⟩
   ·have d2 : decide (0 ≤ x) = true := decide_eq_true h0
    have d3 : decide (x ≤ 1114111) = false := decide_eq_false h1
    have HE : Hid (false = ins) := Lib.hid (by rw [← HX.out]; unfold topR; rw [d2, d3]; rfl)
    clear h0 h1
    go_wp2_with fail
    go_meet
    exact ⟨by rw [HE.out], rfl⟩
  ·have d2 : decide (0 ≤ x) = false := decide_eq_false h0
   have HE : Hid (false = ins) := Lib.hid (by rw [← HX.out, d2]; rfl)
   clear h0
   go_wp2_with fail
   go_meet
   exact ⟨by rw [HE.out], rfl⟩
 case rest =>
  obtain ⟨rfl, rfl⟩ := hcut
  go_wp2_with fail
  go_loopw [8] (fun iv wv => ∃ k m : Nat, k ≤ n ∧ iv = .int .i64 k ∧ wv = w3.drewN m) (fun iv _ => n - (intOf iv).toNat)
  case atStart => exact ⟨0, 0, by omega, rfl, rfl⟩
  case round =>
   obtain ⟨k, m, hk, rfl, rfl⟩ := hrel
   by_cases hlt : k < n
   ·have hls : k < S.length := by rw [HN.out]; exact hlt
    obtain ⟨g, off, rfl, -, m0, m1⟩ := prC_at L1.out hls
    obtain ⟨e0, e1, e2, e3⟩ := canon_at HCA.out k hls
    obtain ⟨lo, hlo⟩ : ∃ y, S[k].1 = y := ⟨_, rfl⟩
    obtain ⟨hi, hhi⟩ : ∃ y, S[k].2 = y := ⟨_, rfl⟩
    rw [hlo] at m0 e0 e1 e3
    rw [hhi] at m1 e1 e2
    unfold topR at e2
    have d2 : decide (hi < lo) = false := decide_eq_false (by omega)
    have d3 : decide (lo < 0) = false := decide_eq_false (by omega)
    have d4 : decide (1114111 < hi) = false := decide_eq_false (by omega)
    have k0 : (0 : Int) ≤ (k : Int) := by omega
    have k1 : (k : Int) < (n : Int) := by omega
    clear hlo hhi
    by_cases hk0 : k = 0
    ·subst hk0
     clear e0 e1 e2 e3
     simp only [Nat.zero_mul, Nat.add_zero] at m0 m1
     have d5 : decide ((0 : Int) < ((0 : Nat) : Int)) = false := rfl
     go_wp2_with fail
     go_quiet (fail)
     go_wp2_with fail
     go_roundw
     case rel => exact ⟨1, m + nq, by omega, by go_num, rfl⟩
     case measure => simp [intOf]; omega
    ·have hjs : k - 1 < S.length := by omega
     obtain ⟨g', off', hA', -, -, mp⟩ := prC_at L1.out hjs
     obtain ⟨rfl, rfl⟩ : g = g' ∧ off = off' := by injection hA' with hA'; injection hA' with h1 h2; exact ⟨h1, h2⟩
     have e3 := e3 (by omega)
     have e4 := canon_at HCA.out (k - 1) hjs
     obtain ⟨pv, hpv⟩ : ∃ y, S[k - 1].2 = y := ⟨_, rfl⟩
     rw [hpv] at mp e3 e4
     unfold topR at e4
     obtain ⟨j, hj⟩ : ∃ j, k - 1 = j := ⟨_, rfl⟩
     rw [hj] at mp
     have hw1 : IntKind.i64.wrap ((k : Int) - 1) = (k : Int) - 1 := IntWalk.i64_in _ (by omega)
     have hw2 : IntKind.i64.wrap (pv + 1) = pv + 1 := IntWalk.i64_in _ (by omega)
     have d5 : decide ((0 : Int) < (k : Int)) = true := decide_eq_true (by omega)
     have d7 : 0 < k := by omega
     have d8 : (0 : Int) < (k : Int) := by omega
     have d6 : decide (lo ≤ pv + 1) = false := decide_eq_false (by omega)
     have j0 : (0 : Int) ≤ (k : Int) - 1 := by omega
     have j1 : (k : Int) - 1 < (n : Int) := by omega
     have jt : ((k : Int) - 1).toNat = j := by omega
     clear e0 e1 e2 e3 e4 hA' hpv hj hjs hk0
     go_wp2_with fail
     go_quiet (fail)
     go_wp2_with fail
     go_roundw
     case rel => exact ⟨k + 1, m + nq, by omega, by go_num, rfl⟩
     case measure => simp [intOf]; omega
   ·obtain rfl : k = n := by omega
    obtain ⟨wd, hwd⟩ : ∃ wd, w3.drewN m = wd := ⟨_, rfl⟩
    have bd : Below w3.heap.size w3 wd := by rw [← hwd]; exact below_drawn (Below.refl _ _) m
    rw [hwd]
    have HW := Lib.hid hwd
    have LR := Lib.hid (LR.out.up bd)
    have L1 := Lib.hid (L1.out.up bd)
    have L2 := Lib.hid (L2.out.up bd)
    have BB := Lib.hid (below_then BB.out bd)
    clear bd hwd
    rcases ins with _ | _
    ·have H1' : Hid (hasR S x = false) := Lib.hid (by rw [H1.out]; rfl)
     have H2' : Hid (hasR T x = false) := Lib.hid (by rw [H2.out]; rfl)
     go_wp2_with fail
     have HAS := trhas_any wd A1 S c1 x L1.out (by have := HN.out; omega)
     rw [HN.out, H1'.out] at HAS
     refine HAS.mono ?_
     clear HAS
     rintro e w4 ⟨rfl, b⟩
     have LR := Lib.hid (LR.out.up b)
     have L1 := Lib.hid (L1.out.up b)
     have L2 := Lib.hid (L2.out.up b)
     have BB := Lib.hid (below_then BB.out b)
     clear b
     go_wp2_with fail
     refine (trhas_any w4 A2 T c2 x L2.out (by omega)).mono ?_
     rintro e w5 ⟨rfl, b⟩
     rw [H2'.out]
     have LR := Lib.hid (LR.out.up b)
     have L1 := Lib.hid (L1.out.up b)
     have L2 := Lib.hid (L2.out.up b)
     have BB := Lib.hid (below_then BB.out b)
     clear b
     go_wp2_with fail
     refine (trturn_any w5 A2 T c2 L2.out).mono ?_
     rintro e w6 ⟨v, rfl, o, b⟩
     rw [H3.out] at o
     obtain ⟨A3, c3, rfl, l, -, -⟩ := o.form
     have LR := Lib.hid (LR.out.up b)
     have L1 := Lib.hid (L1.out.up b)
     have L2 := Lib.hid (L2.out.up b)
     have BB := Lib.hid (below_then BB.out b)
     have L3 := Lib.hid l
     clear o b l
     have HSS := rsamesets_any w6 _ _ A3 A1 S S c3 c1 L3.out L1.out (by have := HN.out; omega) (by have := HN.out; omega)
     rw [HN.out, show decide (S = S) = true from decide_eq_true rfl] at HSS
     rw [HN.out]
     go_wp2_with fail
     refine HSS.mono ?_
     clear HSS
     rintro e w7 ⟨rfl, b⟩
     have LR := Lib.hid (LR.out.up b)
     have L1 := Lib.hid (L1.out.up b)
     have L2 := Lib.hid (L2.out.up b)
     have L3 := Lib.hid (L3.out.up b)
     have BB := Lib.hid (below_then BB.out b)
     clear b
     have HST := trset_any w7 A1 S c1 L1.out
     rw [HN.out, H4.out] at HST
     go_wp2_with fail
     refine HST.mono ?_
     clear HST
     rintro e w8 ⟨v, rfl, o, b⟩
     rw [HN.out] at o
     obtain ⟨A4, c4, rfl, l, -, -⟩ := o.form
     have LR := Lib.hid (LR.out.up b)
     have L1 := Lib.hid (L1.out.up b)
     have L2 := Lib.hid (L2.out.up b)
     have L3 := Lib.hid (L3.out.up b)
     have BB := Lib.hid (below_then BB.out b)
     have L4 := Lib.hid l
     clear o b l
     have HSS := rsamesets_any w8 _ _ A4 A1 S S c4 c1 L4.out L1.out (by have := HN.out; omega) (by have := HN.out; omega)
     rw [HN.out, show decide (S = S) = true from decide_eq_true rfl] at HSS
     go_wp2_with fail
     refine HSS.mono ?_
     clear HSS
     rintro e w9 ⟨rfl, b⟩
     have BB := Lib.hid (below_then BB.out b)
     clear b
     go_wp2_with fail
     go_ret
     exact ⟨rfl, BB.out⟩
    ·have H1' : Hid (hasR S x = q) := Lib.hid (by rw [H1.out]; rfl)
     have H2' : Hid (hasR T x = !q) := Lib.hid (by rw [H2.out]; rfl)
     rcases q with _ | _
     all_goals
      go_wp2_with fail
      have HAS := trhas_any wd A1 S c1 x L1.out (by have := HN.out; omega)
      rw [HN.out, H1'.out] at HAS
      refine HAS.mono ?_
      clear HAS
      rintro e w4 ⟨rfl, b⟩
      have LR := Lib.hid (LR.out.up b)
      have L1 := Lib.hid (L1.out.up b)
      have L2 := Lib.hid (L2.out.up b)
      have BB := Lib.hid (below_then BB.out b)
      clear b
      go_wp2_with fail
      refine (rhas16_any w4 _ A R c x LR.out (by omega)).mono ?_
      rintro e wq ⟨rfl, rfl⟩
      rw [HQ.out]
      go_wp2_with fail
      refine (trhas_any w4 A2 T c2 x L2.out (by omega)).mono ?_
      rintro e w5 ⟨rfl, b⟩
      rw [H2'.out]
      have LR := Lib.hid (LR.out.up b)
      have L1 := Lib.hid (L1.out.up b)
      have L2 := Lib.hid (L2.out.up b)
      have BB := Lib.hid (below_then BB.out b)
      clear b
      go_wp2_with fail
      refine (rhas16_any w5 _ A R c x LR.out (by omega)).mono ?_
      rintro e wq ⟨rfl, rfl⟩
      rw [HQ.out]
      go_wp2_with fail
      refine (trturn_any w5 A2 T c2 L2.out).mono ?_
      rintro e w6 ⟨v, rfl, o, b⟩
      rw [H3.out] at o
      obtain ⟨A3, c3, rfl, l, -, -⟩ := o.form
      have LR := Lib.hid (LR.out.up b)
      have L1 := Lib.hid (L1.out.up b)
      have L2 := Lib.hid (L2.out.up b)
      have BB := Lib.hid (below_then BB.out b)
      have L3 := Lib.hid l
      clear o b l
      have HSS := rsamesets_any w6 _ _ A3 A1 S S c3 c1 L3.out L1.out (by have := HN.out; omega) (by have := HN.out; omega)
      rw [HN.out, show decide (S = S) = true from decide_eq_true rfl] at HSS
      rw [HN.out]
      go_wp2_with fail
      refine HSS.mono ?_
      clear HSS
      rintro e w7 ⟨rfl, b⟩
      have LR := Lib.hid (LR.out.up b)
      have L1 := Lib.hid (L1.out.up b)
      have L2 := Lib.hid (L2.out.up b)
      have L3 := Lib.hid (L3.out.up b)
      have BB := Lib.hid (below_then BB.out b)
      clear b
      have HST := trset_any w7 A1 S c1 L1.out
      rw [HN.out, H4.out] at HST
      go_wp2_with fail
      refine HST.mono ?_
      clear HST
      rintro e w8 ⟨v, rfl, o, b⟩
      rw [HN.out] at o
      obtain ⟨A4, c4, rfl, l, -, -⟩ := o.form
      have LR := Lib.hid (LR.out.up b)
      have L1 := Lib.hid (L1.out.up b)
      have L2 := Lib.hid (L2.out.up b)
      have L3 := Lib.hid (L3.out.up b)
      have BB := Lib.hid (below_then BB.out b)
      have L4 := Lib.hid l
      clear o b l
      have HSS := rsamesets_any w8 _ _ A4 A1 S S c4 c1 L4.out L1.out (by have := HN.out; omega) (by have := HN.out; omega)
      rw [HN.out, show decide (S = S) = true from decide_eq_true rfl] at HSS
      go_wp2_with fail
      refine HSS.mono ?_
      clear HSS
      rintro e w9 ⟨rfl, b⟩
      have BB := Lib.hid (below_then BB.out b)
      clear b
      go_wp2_with fail
      go_ret
      exact ⟨rfl, BB.out⟩
set_option maxRecDepth 20000 in
set_option maxHeartbeats 1000000 in
theorem walk_long (w : World) (hFT : FoTabs w) (A : Option Addr) (R : List (Int × Int)) (c : Nat) (x : Int) (hl : 60 < R.length) :
 Calls Tryz.prog 4 #[.slice A R.length c, .int .i64 x] w fun e w' => e = .returned (.bool true) ∧ Below w.heap.size w w' := by
 have d1 : decide (60 < (R.length : Int)) = true := decide_eq_true (by omega)
 clear hl
 go_enter Tryz.func4, Tryz.ntmps4
 go_wp2_with fail
 refine (alive_any w hFT).mono ?_
 rintro e w1 ⟨rfl, b1⟩
 have B1 := Lib.hid b1
 clear b1
 go_wp2_with fail
 go_ret
 exact ⟨rfl, B1.out⟩
theorem walk (w : World) (hFT : FoTabs w) (A : Option Addr) (R : List (Int × Int)) (c : Nat) (_ : R.length ≤ c) (_ : c ≤ maxLen) (h : Lies w w.heap.size A (prC R)) (_ : ∀ r ∈ R, (Lit.int .i64 r.1).wf = true ∧ (Lit.int .i64 r.2).wf = true) (x : Int) (_ : (Lit.int .i64 x).wf = true) :
 Calls Tryz.prog 4 #[.slice A R.length c, .int .i64 x] w fun e w' => e = .returned (.bool true) ∧ Below w.heap.size w w' := by
 by_cases hh : 60 < R.length
 ·exact walk_long w hFT A R c x hh
 ·exact walk_ok w hFT A R c x (by omega) h
-- WRAP
theorem spec : LawSpec Rows.treeTurnsSpec 2 := ⟨rfl, fun H ds h => by
 match ds, h with
 | [d0, d1], _ => rfl⟩
theorem params_ok : ∀ t ∈ Tryz.f4.params.toList, Tryz.prog.readableRec t = true ∧ t < Tryz.prog.types.size := by
 rw [Tryz.params4]
 intro t ht
 simp only [List.mem_cons, List.mem_nil_iff, or_false] at ht
 rcases ht with rfl | rfl
 all_goals exact ⟨by kernel_rfl, of_decide_eq_true (by kernel_rfl)⟩
set_option maxRecDepth 100000 in
theorem contract (H : Type) (enc : TypeId × Value → H) (W : World) (base : Nat) (args : Array Value) (ds gs : List (DataW H)) (before : List MemPlace)
 (hval : ∀ (j : Nat) t v, Tryz.f4.params[j]? = some t → args[j]? = some v → Value.okWide Tryz.prog W .any base t v)
 (hW : DataW.Whole enc Tryz.prog Tryz.f4.params.toList Rows.treeTurnsSpec.vars false W args.toList ds gs before) (hL : laidMetH Tryz.prog laidList W) :
 Calls Tryz.prog 4 args W fun e W' => ∃ v, e = .returned v ∧ Rows.treeTurnsSpec.post enc Tryz.prog Tryz.f4 false true false false W args v W' := by
 have hW' := hW
 obtain ⟨p, q, hA0, hV, rfl, hfz, hnd⟩ := hW
 have hA : DataW.TrodAll enc Tryz.prog W 0 (fun _ => true) true Tryz.f4.params.toList args.toList ds p := hA0
 rw [Tryz.params4] at hA hval
 obtain ⟨v0, vs0, d0, ds0, p0, q0, hargs, rfl, rfl, h0, r0⟩ := trodAll_cons hA
 obtain ⟨v1, vs1, d1, ds1, p1, q1, rfl, rfl, rfl, h1, r1⟩ := trodAll_cons r0
 obtain ⟨rfl, rfl, rfl⟩ := trodAll_nil r1
 obtain rfl : args = #[v0, v1] := by cases args; simp_all
 obtain ⟨A0, l0, c0, rfl, hc0, hm0, hl0, wf0⟩ := open_ranges Tryz.underlying22 Tryz.underlying30 (by kernel_rfl) rfl rfl (by kernel_rfl) (by kernel_rfl) Tryz.underlying3 Tryz.underlying3 (hval 0 22 v0 rfl rfl) h0
 obtain ⟨a1, rfl, rfl, rfl, w1⟩ := open_int Tryz.underlying3 (hval 1 3 v1 rfl rfl) h1
 exact (walk W (tabs_of hL) A0 l0 c0 hc0 hm0 hl0 wf0 a1 w1).mono fun e W' ⟨he, hg⟩ => ⟨_, he, law_post spec (by rw [Tryz.params4]; rfl) (by kernel_rfl) params_ok (by kernel_rfl) Tryz.underlying4 hW' hg⟩
set_option maxRecDepth 100000 in
theorem laid_met (os : Os) : laidMet Tryz.prog Rows.treeTurnsRow.laid ((laidWorld os #[.slice none 0 0, .int .i64 0]).forCall (fun _ _ => 0) ⟨#[], #[.slice none 0 0, .int .i64 0], []⟩).memory :=
 laidMet_of_run' 8 (by kernel_rfl) (by kernel_rfl)
set_option maxRecDepth 100000 in
theorem reads (os : Os) {H : Type} (enc : TypeId × Value → H) : ∃ places, DataW.whole enc Tryz.prog ((laidWorld os #[.slice none 0 0, .int .i64 0]).forCall (fun _ _ => 0) ⟨#[], #[.slice none 0 0, .int .i64 0], []⟩).memory Tryz.f4.params.toList Rows.treeTurnsSpec.vars false #[.slice none 0 0, .int .i64 0].toList 8 = some ([.nil, .lit (.int .i64 0)], [], places) :=
 ⟨[], by kernel_rfl⟩
set_option maxRecDepth 100000 in
theorem lifted (os : Os) (started : os.Started) (H : Type) (enc : TypeId × Value → H) (F : Stop.Interp) :
 ReturnsInHanded {} Tryz.checked os 4 .any ((OpenSpec.ofChange Rows.treeTurnsSpec).preRow enc Tryz.prog Tryz.f4 Rows.treeTurnsRow.domain false Rows.treeTurnsRow.laid) (((OpenSpec.ofChange Rows.treeTurnsSpec).at F).post enc Tryz.prog Tryz.f4 false true false false) := by
 obtain ⟨places, hx⟩ := reads os enc
 refine returnsInHanded_of_row (C := Tryz.checked) (s := OpenSpec.ofChange Rows.treeTurnsSpec) own started (by kernel_rfl) Tryz.func4
  (witness_row_at (enc := enc) (C := Tryz.checked) false (laidWorld os #[.slice none 0 0, .int .i64 0]) #[.slice none 0 0, .int .i64 0] rfl (by kernel_rfl) (by kernel_rfl) (by kernel_rfl)
   (OpenSpec.preRow_of_cond 8 hx (by kernel_rfl) (fun k hk => by cases hk) (by kernel_rfl) (laid_met os))) ?_
 intro W base args ds gs before hval hW _ _ _ hL _ _
 exact contract H enc W base args ds gs before hval hW hL
set_option maxRecDepth 100000 in
theorem said : Rows.TreeTurnsSaid :=
 OpenClaim.holds_of_cond 4 Tryz.f4 rfl rfl rfl rfl rfl rfl rfl ⟨rfl, rfl, rfl, rfl, rfl⟩ rfl rfl rfl rfl rfl (by kernel_rfl) Tryz.func4 (by kernel_rfl)
  (of_decide_eq_true (by kernel_rfl)) (by unfold Func.isWrapper; first | (rw [if_pos (by decide +kernel)]; kernel_rfl) | (rw [if_neg (by decide +kernel)]; exact ⟨rfl, rfl⟩))
  (fun os started H enc _ F => by rw [OpenClaim.pre_eq_preRow]; exact lifted os started H enc F)
set_option maxRecDepth 100000 in
theorem card : Rows.TreeTurnsCardSaid :=
 Claim7.holds_tied_plain_at .later [] _ _ _ _ said (fun _ h => by cases h) (by kernel_rfl) (fun _ h => by cases h) treeTurns_row_tie rfl ⟨rfl, rfl⟩ (by kernel_rfl) rfl
  (plainOf "ductus/ductuslaw16.TreeTurns" 4 Tryz.f4 (by kernel_rfl) Tryz.func4 (by kernel_rfl) (fun j t ht => by
   rw [Tryz.params4] at ht
   have hm := Array.mem_of_getElem? ht
   simp only [List.mem_toArray, List.mem_cons, List.mem_nil_iff, or_false] at hm
   rcases hm with rfl | rfl
   all_goals (show Tryz.prog.wantsStandIn _ = false; kernel_rfl))) (by kernel_rfl)
end Go.Proofs.YtkojnnjcgcllmaaGreatDoor.lawTurns
