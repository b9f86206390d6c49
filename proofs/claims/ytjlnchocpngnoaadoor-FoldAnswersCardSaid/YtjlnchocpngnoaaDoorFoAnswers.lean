/- FoldAnswers: for every number and every two lists of numbers, what they are folded into, whether they are the same, and all that are folded alike, are the document's. Conditions: none (the table's cells are tied to the program's text). -/
import Derived.Test.YtjlnchocpngnoaaDoorFoL
import Derived.Test.YtjlnchocpngnoaaDoorLaw
namespace Go.Proofs.YtjlnchocpngnoaaDoor.lawAnswers
open Go.ChangeShapes Go.WideShapes Go.ChangeAt Go.RowKit

set_option maxHeartbeats 4000000 in
theorem walk_ok (w : World) (hT : FoTabs w) (x : Int) (hx : I64 x) (A : Option Addr) (a : List Int) (ca : Nat) (B : Option Addr) (b : List Int) (cb : Nat) (hl : a.length ≤ 5000) (hl' : b.length ≤ 5000) (ha : Lies w w.heap.size A (ints .i64 a)) (hb : Lies w w.heap.size B (ints .i64 b)) :
    Calls Tryd.prog 3 #[.int .i64 x, .slice A a.length ca, .slice B b.length cb] w fun e w' => e = .returned (.bool true) ∧ Below w.heap.size w w' := by
  have HT := Lib.hid hT
  have hbig := hT.big
  obtain ⟨z, hz⟩ : ∃ z, a.map fo = z := ⟨_, rfl⟩
  have hzl : z.length = a.length := by rw [← hz]; simp
  have hz5 : z.length ≤ 5000 := by omega
  have HZ := Lib.hid hz
  obtain ⟨s, hs⟩ : ∃ s, sameF a b = s := ⟨_, rfl⟩
  have HS := Lib.hid hs
  obtain ⟨t, ht⟩ : ∃ t, fo x = t := ⟨_, rfl⟩
  have HF := Lib.hid ht
  obtain ⟨q, hq⟩ : ∃ q, kin t = q := ⟨_, rfl⟩
  have hq4 : q.length ≤ 4 := hq ▸ kin_few t
  have HQ : Hid (kin (fo x) = q) := Lib.hid (by rw [ht, hq])
  have HA := Lib.hid ha
  have HB := Lib.hid hb
  clear hT hz hzl hs ht hq ha hb
  go_enter Tryd.func3, Tryd.ntmps3
  go_wp2_with fail
  refine (falive_any w HT.out).mono ?_
  rintro e w1 ⟨rfl, b1⟩
  have B1 := Lib.hid b1
  have D1 := Lib.hid b1
  clear b1
  go_wp2_with fail
  refine (of_any x w1 (HT.out.below B1.out hbig)).mono ?_
  rintro e w2 ⟨rfl, b2⟩
  rw [HF.out]
  have B2 := Lib.hid (below_then B1.out b2)
  have D2 := Lib.hid b2
  clear b2
  go_wp2_with fail
  refine (rof_any x w2).mono ?_
  rintro e wq ⟨rfl, rfl⟩
  rw [HF.out]
  go_wp2_with fail
  refine (all_any A a ca w2 (HT.out.below B2.out hbig) (HA.out.up B2.out) (by omega)).mono ?_
  rintro e w3 ⟨v3, rfl, o3, b3⟩
  rw [HZ.out] at o3
  obtain ⟨A3, c3, rfl, l3, _, _⟩ := o3.form
  have B3 := Lib.hid (below_then B2.out b3)
  have L3 := Lib.hid l3
  have D3 := Lib.hid b3
  simp only [ints, List.length_map]
  clear o3 b3 l3
  go_wp2_with fail
  refine (rall_any A a ca w3 (HA.out.up B3.out) (by omega)).mono ?_
  rintro e w4 ⟨v4, rfl, o4, b4⟩
  rw [HZ.out] at o4
  obtain ⟨A4, c4, rfl, l4, _, _⟩ := o4.form
  have B4 := Lib.hid (below_then B3.out b4)
  have L4 := Lib.hid l4
  have D4 := Lib.hid b4
  simp only [ints, List.length_map]
  clear o4 b4 l4
  have L3b := Lib.hid (L3.out.up D4.out)
  go_wp2_with fail
  refine (ints_ok A3 A4 z c3 c4 w4 L3b.out L4.out (by omega)).mono ?_
  rintro e w5 ⟨rfl, b5⟩
  have B5 := Lib.hid (below_then B4.out b5)
  clear b5
  go_wp2_with fail
  refine (same_any A B a b ca cb w5 (HT.out.below B5.out hbig) (HA.out.up B5.out) (HB.out.up B5.out) (by omega) (by omega)).mono ?_
  rintro e w6 ⟨rfl, b6⟩
  rw [HS.out]
  have B6 := Lib.hid (below_then B5.out b6)
  have D6 := Lib.hid b6
  clear b6
  go_wp2_with fail
  refine (rsame_any A B a b ca cb w6 (HA.out.up B6.out) (HB.out.up B6.out) (by omega) (by omega)).mono ?_
  rintro e w7 ⟨rfl, b7⟩
  rw [HS.out]
  have B7 := Lib.hid (below_then B6.out b7)
  have D7 := Lib.hid b7
  clear b7
  go_wp2_with fail
  refine (kin_any x hx w7 (HT.out.below B7.out hbig)).mono ?_
  rintro e w8 ⟨v8, rfl, o8, b8⟩
  rw [HQ.out] at o8
  obtain ⟨A8, c8, rfl, l8, _, _⟩ := o8.form
  have B8 := Lib.hid (below_then B7.out b8)
  have L8 := Lib.hid l8
  have D8 := Lib.hid b8
  simp only [ints, List.length_map]
  clear o8 b8 l8
  go_wp2_with fail
  refine (rkin_any x w8).mono ?_
  rintro e w9 ⟨A9, c9, rfl, l9, b9⟩
  rw [HQ.out] at l9 ⊢
  have B9 := Lib.hid (below_then B8.out b9)
  have L9 := Lib.hid l9
  have L8b := Lib.hid (L8.out.up b9)
  clear l9 b9
  go_wp2_with fail
  refine (ints_ok A8 A9 q c8 c9 w9 L8b.out L9.out (by omega)).mono ?_
  rintro e w10 ⟨rfl, b10⟩
  have B10 := Lib.hid (below_then B9.out b10)
  clear b10
  go_wp2
  go_ret
  exact ⟨rfl, B10.out⟩

set_option maxHeartbeats 1000000 in
theorem walk_long (w : World) (hT : FoTabs w) (x : Int) (A : Option Addr) (a : List Int) (ca : Nat) (B : Option Addr) (b : List Int) (cb : Nat) (hl : a.length ≤ 9223372036854775807) (hl' : b.length ≤ 9223372036854775807) (hh : 5000 < a.length ∨ 5000 < b.length) :
    Calls Tryd.prog 3 #[.int .i64 x, .slice A a.length ca, .slice B b.length cb] w fun e w' => e = .returned (.bool true) ∧ Below w.heap.size w w' := by
  by_cases h1 : 5000 < a.length
  · clear hh
    go_enter Tryd.func3, Tryd.ntmps3
    go_wp2_with fail
    refine (falive_any w hT).mono ?_
    rintro e w1 ⟨rfl, b1⟩
    have B1 := Lib.hid b1
    have D1 := Lib.hid b1
    clear b1
    go_wp2
    go_ret
    exact ⟨rfl, B1.out⟩
  · have h2 : 5000 < b.length := by omega
    clear hh
    go_enter Tryd.func3, Tryd.ntmps3
    go_wp2_with fail
    refine (falive_any w hT).mono ?_
    rintro e w1 ⟨rfl, b1⟩
    have B1 := Lib.hid b1
    have D1 := Lib.hid b1
    clear b1
    go_wp2
    go_ret
    exact ⟨rfl, B1.out⟩

theorem walk (w : World) (hT : FoTabs w) (x : Int) (hx : (Lit.int .i64 x).wf = true) (A : Option Addr) (a : List Int) (ca : Nat) (hc : a.length ≤ ca) (hm : ca ≤ maxLen) (ha : Lies w w.heap.size A (ints .i64 a)) (_ : ∀ n ∈ a, (Lit.int .i64 n).wf = true)
    (B : Option Addr) (b : List Int) (cb : Nat) (hc' : b.length ≤ cb) (hm' : cb ≤ maxLen) (hb : Lies w w.heap.size B (ints .i64 b)) (_ : ∀ n ∈ b, (Lit.int .i64 n).wf = true) :
    Calls Tryd.prog 3 #[.int .i64 x, .slice A a.length ca, .slice B b.length cb] w fun e w' => e = .returned (.bool true) ∧ Below w.heap.size w w' := by
  unfold maxLen at hm hm'
  by_cases hh : 5000 < a.length ∨ 5000 < b.length
  · exact walk_long w hT x A a ca B b cb (by omega) (by omega) hh
  · exact walk_ok w hT x (wf_i64 hx) A a ca B b cb (by omega) (by omega) ha hb
-- WRAP
theorem spec : LawSpec Rows.foldAnswersSpec 3 := ⟨rfl, fun H ds h => by
  match ds, h with
  | [d0, d1, d2], _ => rfl⟩
theorem params_ok : ∀ t ∈ Tryd.f3.params.toList, Tryd.prog.readableRec t = true ∧ t < Tryd.prog.types.size := by
  rw [Tryd.params3]
  intro t ht
  simp only [List.mem_cons, List.mem_nil_iff, or_false] at ht
  rcases ht with rfl | rfl | rfl
  all_goals exact ⟨by kernel_rfl, of_decide_eq_true (by kernel_rfl)⟩

theorem contract (H : Type) (enc : TypeId × Value → H) (W : World) (base : Nat) (args : Array Value) (ds gs : List (DataW H)) (before : List MemPlace)
    (hval : ∀ (j : Nat) t v, Tryd.f3.params[j]? = some t → args[j]? = some v → Value.okWide Tryd.prog W .any base t v)
    (hW : DataW.Whole enc Tryd.prog Tryd.f3.params.toList Rows.foldAnswersSpec.vars false W args.toList ds gs before) (hL : laidMetH Tryd.prog laidList W) :
    Calls Tryd.prog 3 args W fun e W' => ∃ v, e = .returned v ∧ Rows.foldAnswersSpec.post enc Tryd.prog Tryd.f3 false true false false W args v W' := by
  have hW' := hW
  obtain ⟨p, q, hA0, hV, rfl, hfz, hnd⟩ := hW
  have hA : DataW.TrodAll enc Tryd.prog W 0 (fun _ => true) true Tryd.f3.params.toList args.toList ds p := hA0
  rw [Tryd.params3] at hA hval
  obtain ⟨v0, vs0, d0, ds0, p0, q0, hargs, rfl, rfl, h0, r0⟩ := trodAll_cons hA
  obtain ⟨v1, vs1, d1, ds1, p1, q1, rfl, rfl, rfl, h1, r1⟩ := trodAll_cons r0
  obtain ⟨v2, vs2, d2, ds2, p2, q2, rfl, rfl, rfl, h2, r2⟩ := trodAll_cons r1
  obtain ⟨rfl, rfl, rfl⟩ := trodAll_nil r2
  obtain rfl : args = #[v0, v1, v2] := by cases args; simp_all
  obtain ⟨a0, rfl, rfl, rfl, w0⟩ := open_int Tryd.underlying3 (hval 0 3 v0 rfl rfl) h0
  obtain ⟨A1, l1, c1, rfl, hc1, hm1, hl1, wf1⟩ := open_list Tryd.underlying22 Tryd.underlying3 (by kernel_rfl) (hval 1 22 v1 rfl rfl) h1
  obtain ⟨A2, l2, c2, rfl, hc2, hm2, hl2, wf2⟩ := open_list Tryd.underlying22 Tryd.underlying3 (by kernel_rfl) (hval 2 22 v2 rfl rfl) h2
  exact (walk W (tabs_of hL) a0 w0 A1 l1 c1 hc1 hm1 hl1 wf1 A2 l2 c2 hc2 hm2 hl2 wf2).mono fun e W' ⟨he, hg⟩ => ⟨_, he, law_post spec (by rw [Tryd.params3]; rfl) (by kernel_rfl) params_ok (by kernel_rfl) Tryd.underlying4 hW' hg⟩

theorem laid_met (os : Os) : laidMet Tryd.prog Rows.foldAnswersRow.laid ((laidWorld os #[.int .i64 0, .slice none 0 0, .slice none 0 0]).forCall (fun _ _ => 0) ⟨#[], #[.int .i64 0, .slice none 0 0, .slice none 0 0], []⟩).memory :=
  laidMet_of_run' 8 (by kernel_rfl) (by kernel_rfl)
theorem reads (os : Os) {H : Type} (enc : TypeId × Value → H) : ∃ places, DataW.whole enc Tryd.prog ((laidWorld os #[.int .i64 0, .slice none 0 0, .slice none 0 0]).forCall (fun _ _ => 0) ⟨#[], #[.int .i64 0, .slice none 0 0, .slice none 0 0], []⟩).memory Tryd.f3.params.toList Rows.foldAnswersSpec.vars false #[.int .i64 0, .slice none 0 0, .slice none 0 0].toList 8 = some ([.lit (.int .i64 0), .nil, .nil], [], places) :=
  ⟨[], by kernel_rfl⟩
set_option maxRecDepth 100000 in
theorem lifted (os : Os) (started : os.Started) (H : Type) (enc : TypeId × Value → H) (F : Stop.Interp) :
    ReturnsInHanded {} Tryd.checked os 3 .any ((OpenSpec.ofChange Rows.foldAnswersSpec).preRow enc Tryd.prog Tryd.f3 Rows.foldAnswersRow.domain false Rows.foldAnswersRow.laid) (((OpenSpec.ofChange Rows.foldAnswersSpec).at F).post enc Tryd.prog Tryd.f3 false true false false) := by
  obtain ⟨places, hx⟩ := reads os enc
  refine returnsInHanded_of_row (C := Tryd.checked) (s := OpenSpec.ofChange Rows.foldAnswersSpec) own started (by kernel_rfl) Tryd.func3
    (witness_row_at (enc := enc) (C := Tryd.checked) false (laidWorld os #[.int .i64 0, .slice none 0 0, .slice none 0 0]) #[.int .i64 0, .slice none 0 0, .slice none 0 0] rfl (by kernel_rfl) (by kernel_rfl) (by kernel_rfl)
      (OpenSpec.preRow_of_cond 8 hx (by kernel_rfl) (fun k hk => by cases hk) (by kernel_rfl) (laid_met os))) ?_
  intro W base args ds gs before hval hW _ _ _ hL _ _
  exact contract H enc W base args ds gs before hval hW hL
theorem said : Rows.FoldAnswersSaid :=
  OpenClaim.holds_of_cond 3 Tryd.f3 rfl rfl rfl rfl rfl rfl rfl ⟨rfl, rfl, rfl, rfl, rfl⟩ rfl rfl rfl rfl rfl (by kernel_rfl) Tryd.func3 (by kernel_rfl)
    (of_decide_eq_true (by kernel_rfl)) (by unfold Func.isWrapper; first | (rw [if_pos (by decide +kernel)]; kernel_rfl) | (rw [if_neg (by decide +kernel)]; exact ⟨rfl, rfl⟩))
    (fun os started H enc _ F => by rw [OpenClaim.pre_eq_preRow]; exact lifted os started H enc F)
theorem card : Rows.FoldAnswersCardSaid :=
  Claim7.holds_tied_plain_at .later [] _ _ _ _ said (fun _ h => by cases h) (by kernel_rfl) (fun _ h => by cases h) foldAnswers_row_tie rfl ⟨rfl, rfl⟩ (by kernel_rfl) rfl
    (plainOf "ductus/ductuslaw04.FoldAnswers" 3 Tryd.f3 (by kernel_rfl) Tryd.func3 (by kernel_rfl) (fun j t ht => by
      rw [Tryd.params3] at ht
      have hm := Array.mem_of_getElem? ht
      simp only [List.mem_toArray, List.mem_cons, List.mem_nil_iff, or_false] at hm
      rcases hm with rfl | rfl | rfl
      all_goals (show Tryd.prog.wantsStandIn _ = false; kernel_rfl))) (by kernel_rfl)
end Go.Proofs.YtjlnchocpngnoaaDoor.lawAnswers
