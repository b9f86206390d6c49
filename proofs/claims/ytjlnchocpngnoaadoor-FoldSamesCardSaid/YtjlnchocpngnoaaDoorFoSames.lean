/- FoldSames: for every two lists of numbers, being folded alike goes both ways, and holds of what is folded. Conditions: none (the table's cells are tied to the program's text). -/
import Derived.Test.YtjlnchocpngnoaaDoorFoL
import Derived.Test.YtjlnchocpngnoaaDoorLaw
namespace Go.Proofs.YtjlnchocpngnoaaDoor.lawSames
open Go.ChangeShapes Go.WideShapes Go.ChangeAt Go.RowKit

theorem all_z (A : Option Addr) (z : List Int) (c : Nat) (w : World) (hT : FoTabs w) (h : Lies w w.heap.size A (ints .i64 z)) (hl : z.length ≤ 5000) (e : z.map fo = z) :
    Calls Tryd.prog 10 #[.slice A z.length c] w (Rowed w w.heap.size 3 (ints .i64 z)) := by
  have := all_any A z c w hT h (by omega)
  rwa [e] at this

set_option maxHeartbeats 4000000 in
theorem walk_ok (w : World) (hT : FoTabs w) (A : Option Addr) (a : List Int) (ca : Nat) (B : Option Addr) (b : List Int) (cb : Nat) (hl : a.length ≤ 1000) (hl' : b.length ≤ 1000) (ha : Lies w w.heap.size A (ints .i64 a)) (hb : Lies w w.heap.size B (ints .i64 b)) :
    Calls Tryd.prog 5 #[.slice A a.length ca, .slice B b.length cb] w fun e w' => e = .returned (.bool true) ∧ Below w.heap.size w w' := by
  have HT := Lib.hid hT
  have hbig := hT.big
  obtain ⟨x, hx⟩ : ∃ z, a.map fo = z := ⟨_, rfl⟩
  obtain ⟨y, hy⟩ : ∃ z, b.map fo = z := ⟨_, rfl⟩
  have hxl : x.length = a.length := by rw [← hx]; simp
  have hyl : y.length = b.length := by rw [← hy]; simp
  have hx5 : x.length ≤ 1000 := by omega
  have hy5 : y.length ≤ 1000 := by omega
  have HX := Lib.hid hx
  have HY := Lib.hid hy
  have HXX : Hid (x.map fo = x) := Lib.hid (by rw [← hx, List.map_map]; exact List.map_congr_left fun c _ => fo_twice c)
  obtain ⟨s, hs⟩ : ∃ s, sameF a b = s := ⟨_, rfl⟩
  have HS := Lib.hid hs
  have HS2 : Hid (sameF b a = s) := Lib.hid (by rw [← hs]; unfold sameF; rw [decide_eq_decide]; exact ⟨Eq.symm, Eq.symm⟩)
  have HS3 : Hid (sameF a x = true) := Lib.hid (by unfold sameF; rw [HXX.out, hx]; simp)
  have HS4 : Hid (decide (x = y) = s) := Lib.hid (by rw [← hs, sameF, hx, hy])
  have hbe : ((x.length : Int) == (a.length : Int)) = true := by rw [hxl]; simp
  have HA := Lib.hid ha
  have HB := Lib.hid hb
  clear hT hx hy hs hxl hyl ha hb
  go_enter Tryd.func5, Tryd.ntmps5
  go_wp2_with fail
  refine (falive_any w HT.out).mono ?_
  rintro e w1 ⟨rfl, b1⟩
  have B1 := Lib.hid b1
  have D1 := Lib.hid b1
  clear b1
  go_wp2_with fail
  refine (all_any A a ca w1 (HT.out.below B1.out hbig) (HA.out.up B1.out) (by omega)).mono ?_
  rintro e w2 ⟨v2, rfl, o2, b2⟩
  rw [HX.out] at o2
  obtain ⟨A2, c2, rfl, l2, _, _⟩ := o2.form
  have B2 := Lib.hid (below_then B1.out b2)
  have L2 := Lib.hid l2
  have D2 := Lib.hid b2
  simp only [ints, List.length_map]
  clear o2 b2 l2
  go_wp2_with fail
  refine (all_any B b cb w2 (HT.out.below B2.out hbig) (HB.out.up B2.out) (by omega)).mono ?_
  rintro e w3 ⟨v3, rfl, o3, b3⟩
  rw [HY.out] at o3
  obtain ⟨A3, c3, rfl, l3, _, _⟩ := o3.form
  have B3 := Lib.hid (below_then B2.out b3)
  have L3 := Lib.hid l3
  have D3 := Lib.hid b3
  simp only [ints, List.length_map]
  clear o3 b3 l3
  go_wp2_with fail
  refine (same_any A B a b ca cb w3 (HT.out.below B3.out hbig) (HA.out.up B3.out) (HB.out.up B3.out) (by omega) (by omega)).mono ?_
  rintro e w4 ⟨rfl, b4⟩
  rw [HS.out]
  have B4 := Lib.hid (below_then B3.out b4)
  have D4 := Lib.hid b4
  clear b4
  go_wp2_with fail
  refine (same_any B A b a cb ca w4 (HT.out.below B4.out hbig) (HB.out.up B4.out) (HA.out.up B4.out) (by omega) (by omega)).mono ?_
  rintro e w5 ⟨rfl, b5⟩
  rw [HS2.out]
  have B5 := Lib.hid (below_then B4.out b5)
  have D5 := Lib.hid b5
  clear b5
  have L2e := Lib.hid (((L2.out.up D3.out).up D4.out).up D5.out)
  go_wp2_with fail
  refine (same_any A A2 a x ca c2 w5 (HT.out.below B5.out hbig) (HA.out.up B5.out) L2e.out (by omega) (by omega)).mono ?_
  rintro e w6 ⟨rfl, b6⟩
  rw [HS3.out]
  have B6 := Lib.hid (below_then B5.out b6)
  have D6 := Lib.hid b6
  clear b6
  go_wp2_with fail
  refine (same_any A B a b ca cb w6 (HT.out.below B6.out hbig) (HA.out.up B6.out) (HB.out.up B6.out) (by omega) (by omega)).mono ?_
  rintro e w7 ⟨rfl, b7⟩
  rw [HS.out]
  have B7 := Lib.hid (below_then B6.out b7)
  have D7 := Lib.hid b7
  clear b7
  have L2g := Lib.hid ((L2e.out.up D6.out).up D7.out)
  have L3g := Lib.hid ((((L3.out.up D4.out).up D5.out).up D6.out).up D7.out)
  go_wp2_with fail
  refine (ints_any A2 A3 x y c2 c3 w7 L2g.out L3g.out (by omega) (by omega)).mono ?_
  rintro e w8 ⟨rfl, b8⟩
  rw [HS4.out]
  have B8 := Lib.hid (below_then B7.out b8)
  have D8 := Lib.hid b8
  clear b8
  have L2h := Lib.hid (L2g.out.up D8.out)
  go_wp2_with fail
  refine (all_z A2 x c2 w8 (HT.out.below B8.out hbig) L2h.out (by omega) HXX.out).mono ?_
  rintro e w9 ⟨v9, rfl, o9, b9⟩
  obtain ⟨A9, c9, rfl, l9, _, _⟩ := o9.form
  have B9 := Lib.hid (below_then B8.out b9)
  have L9 := Lib.hid l9
  have D9 := Lib.hid b9
  simp only [ints, List.length_map]
  clear o9 b9 l9
  have L2i := Lib.hid (L2h.out.up D9.out)
  go_wp2_with fail
  refine (ints_ok A9 A2 x c9 c2 w9 L9.out L2i.out (by omega)).mono ?_
  rintro e w10 ⟨rfl, b10⟩
  have B10 := Lib.hid (below_then B9.out b10)
  clear b10
  go_wp2
  go_ret
  exact ⟨rfl, B10.out⟩

set_option maxHeartbeats 1000000 in
theorem walk_long (w : World) (hT : FoTabs w) (A : Option Addr) (a : List Int) (ca : Nat) (B : Option Addr) (b : List Int) (cb : Nat) (hl : a.length ≤ 9223372036854775807) (hl' : b.length ≤ 9223372036854775807) (hh : 1000 < a.length ∨ 1000 < b.length) :
    Calls Tryd.prog 5 #[.slice A a.length ca, .slice B b.length cb] w fun e w' => e = .returned (.bool true) ∧ Below w.heap.size w w' := by
  by_cases h1 : 1000 < a.length
  · clear hh
    go_enter Tryd.func5, Tryd.ntmps5
    go_wp2_with fail
    refine (falive_any w hT).mono ?_
    rintro e w1 ⟨rfl, b1⟩
    have B1 := Lib.hid b1
    have D1 := Lib.hid b1
    clear b1
    go_wp2
    go_ret
    exact ⟨rfl, B1.out⟩
  · have h2 : 1000 < b.length := by omega
    clear hh
    go_enter Tryd.func5, Tryd.ntmps5
    go_wp2_with fail
    refine (falive_any w hT).mono ?_
    rintro e w1 ⟨rfl, b1⟩
    have B1 := Lib.hid b1
    have D1 := Lib.hid b1
    clear b1
    go_wp2
    go_ret
    exact ⟨rfl, B1.out⟩

theorem walk (w : World) (hT : FoTabs w) (A : Option Addr) (a : List Int) (ca : Nat) (hc : a.length ≤ ca) (hm : ca ≤ maxLen) (ha : Lies w w.heap.size A (ints .i64 a)) (_ : ∀ n ∈ a, (Lit.int .i64 n).wf = true)
    (B : Option Addr) (b : List Int) (cb : Nat) (hc' : b.length ≤ cb) (hm' : cb ≤ maxLen) (hb : Lies w w.heap.size B (ints .i64 b)) (_ : ∀ n ∈ b, (Lit.int .i64 n).wf = true) :
    Calls Tryd.prog 5 #[.slice A a.length ca, .slice B b.length cb] w fun e w' => e = .returned (.bool true) ∧ Below w.heap.size w w' := by
  unfold maxLen at hm hm'
  by_cases hh : 1000 < a.length ∨ 1000 < b.length
  · exact walk_long w hT A a ca B b cb (by omega) (by omega) hh
  · exact walk_ok w hT A a ca B b cb (by omega) (by omega) ha hb
-- WRAP
theorem spec : LawSpec Rows.foldSamesSpec 2 := ⟨rfl, fun H ds h => by
  match ds, h with
  | [d0, d1], _ => rfl⟩
theorem params_ok : ∀ t ∈ Tryd.f5.params.toList, Tryd.prog.readableRec t = true ∧ t < Tryd.prog.types.size := by
  rw [Tryd.params5]
  intro t ht
  simp only [List.mem_cons, List.mem_nil_iff, or_false] at ht
  rcases ht with rfl | rfl
  all_goals exact ⟨by kernel_rfl, of_decide_eq_true (by kernel_rfl)⟩

theorem contract (H : Type) (enc : TypeId × Value → H) (W : World) (base : Nat) (args : Array Value) (ds gs : List (DataW H)) (before : List MemPlace)
    (hval : ∀ (j : Nat) t v, Tryd.f5.params[j]? = some t → args[j]? = some v → Value.okWide Tryd.prog W .any base t v)
    (hW : DataW.Whole enc Tryd.prog Tryd.f5.params.toList Rows.foldSamesSpec.vars false W args.toList ds gs before) (hL : laidMetH Tryd.prog laidList W) :
    Calls Tryd.prog 5 args W fun e W' => ∃ v, e = .returned v ∧ Rows.foldSamesSpec.post enc Tryd.prog Tryd.f5 false true false false W args v W' := by
  have hW' := hW
  obtain ⟨p, q, hA0, hV, rfl, hfz, hnd⟩ := hW
  have hA : DataW.TrodAll enc Tryd.prog W 0 (fun _ => true) true Tryd.f5.params.toList args.toList ds p := hA0
  rw [Tryd.params5] at hA hval
  obtain ⟨v0, vs0, d0, ds0, p0, q0, hargs, rfl, rfl, h0, r0⟩ := trodAll_cons hA
  obtain ⟨v1, vs1, d1, ds1, p1, q1, rfl, rfl, rfl, h1, r1⟩ := trodAll_cons r0
  obtain ⟨rfl, rfl, rfl⟩ := trodAll_nil r1
  obtain rfl : args = #[v0, v1] := by cases args; simp_all
  obtain ⟨A0, l0, c0, rfl, hc0, hm0, hl0, wf0⟩ := open_list Tryd.underlying22 Tryd.underlying3 (by kernel_rfl) (hval 0 22 v0 rfl rfl) h0
  obtain ⟨A1, l1, c1, rfl, hc1, hm1, hl1, wf1⟩ := open_list Tryd.underlying22 Tryd.underlying3 (by kernel_rfl) (hval 1 22 v1 rfl rfl) h1
  exact (walk W (tabs_of hL) A0 l0 c0 hc0 hm0 hl0 wf0 A1 l1 c1 hc1 hm1 hl1 wf1).mono fun e W' ⟨he, hg⟩ => ⟨_, he, law_post spec (by rw [Tryd.params5]; rfl) (by kernel_rfl) params_ok (by kernel_rfl) Tryd.underlying4 hW' hg⟩

theorem laid_met (os : Os) : laidMet Tryd.prog Rows.foldSamesRow.laid ((laidWorld os #[.slice none 0 0, .slice none 0 0]).forCall (fun _ _ => 0) ⟨#[], #[.slice none 0 0, .slice none 0 0], []⟩).memory :=
  laidMet_of_run' 8 (by kernel_rfl) (by kernel_rfl)
theorem reads (os : Os) {H : Type} (enc : TypeId × Value → H) : ∃ places, DataW.whole enc Tryd.prog ((laidWorld os #[.slice none 0 0, .slice none 0 0]).forCall (fun _ _ => 0) ⟨#[], #[.slice none 0 0, .slice none 0 0], []⟩).memory Tryd.f5.params.toList Rows.foldSamesSpec.vars false #[.slice none 0 0, .slice none 0 0].toList 8 = some ([.nil, .nil], [], places) :=
  ⟨[], by kernel_rfl⟩
set_option maxRecDepth 100000 in
theorem lifted (os : Os) (started : os.Started) (H : Type) (enc : TypeId × Value → H) (F : Stop.Interp) :
    ReturnsInHanded {} Tryd.checked os 5 .any ((OpenSpec.ofChange Rows.foldSamesSpec).preRow enc Tryd.prog Tryd.f5 Rows.foldSamesRow.domain false Rows.foldSamesRow.laid) (((OpenSpec.ofChange Rows.foldSamesSpec).at F).post enc Tryd.prog Tryd.f5 false true false false) := by
  obtain ⟨places, hx⟩ := reads os enc
  refine returnsInHanded_of_row (C := Tryd.checked) (s := OpenSpec.ofChange Rows.foldSamesSpec) own started (by kernel_rfl) Tryd.func5
    (witness_row_at (enc := enc) (C := Tryd.checked) false (laidWorld os #[.slice none 0 0, .slice none 0 0]) #[.slice none 0 0, .slice none 0 0] rfl (by kernel_rfl) (by kernel_rfl) (by kernel_rfl)
      (OpenSpec.preRow_of_cond 8 hx (by kernel_rfl) (fun k hk => by cases hk) (by kernel_rfl) (laid_met os))) ?_
  intro W base args ds gs before hval hW _ _ _ hL _ _
  exact contract H enc W base args ds gs before hval hW hL
theorem said : Rows.FoldSamesSaid :=
  OpenClaim.holds_of_cond 5 Tryd.f5 rfl rfl rfl rfl rfl rfl rfl ⟨rfl, rfl, rfl, rfl, rfl⟩ rfl rfl rfl rfl rfl (by kernel_rfl) Tryd.func5 (by kernel_rfl)
    (of_decide_eq_true (by kernel_rfl)) (by unfold Func.isWrapper; first | (rw [if_pos (by decide +kernel)]; kernel_rfl) | (rw [if_neg (by decide +kernel)]; exact ⟨rfl, rfl⟩))
    (fun os started H enc _ F => by rw [OpenClaim.pre_eq_preRow]; exact lifted os started H enc F)
theorem card : Rows.FoldSamesCardSaid :=
  Claim7.holds_tied_plain_at .later [] _ _ _ _ said (fun _ h => by cases h) (by kernel_rfl) (fun _ h => by cases h) foldSames_row_tie rfl ⟨rfl, rfl⟩ (by kernel_rfl) rfl
    (plainOf "ductus/ductuslaw04.FoldSames" 5 Tryd.f5 (by kernel_rfl) Tryd.func5 (by kernel_rfl) (fun j t ht => by
      rw [Tryd.params5] at ht
      have hm := Array.mem_of_getElem? ht
      simp only [List.mem_toArray, List.mem_cons, List.mem_nil_iff, or_false] at hm
      rcases hm with rfl | rfl
      all_goals (show Tryd.prog.wantsStandIn _ = false; kernel_rfl))) (by kernel_rfl)
end Go.Proofs.YtjlnchocpngnoaaDoor.lawSames
