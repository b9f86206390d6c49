/- Layer 7: the fixed fact. -/
import Derived.Test.YtdblpcfbhhgfdaaStB
namespace Go.Proofs.Ytdblpcfbhhgfdaa
open Go.RowKit

set_option maxRecDepth 20000 in
set_option maxHeartbeats 4000000 in
theorem salive_any (w : World) : Calls Try.prog 6 #[] w fun e w' => e = .returned (.bool true) ∧ Below w.heap.size w w' := by
  go_enter Try.func6, Try.ntmps6
  go_wp2_with fail
  have L0 := Lib.hid (Lies.litUp (w := w) (e := 3) #[.int .i64 97, .int .i64 8235, .int .i64 98, .int .i64 8295, .int .i64 65279, .int .i64 99])
  refine (skept_any _ [97, 8235, 98, 8295, 65279, 99] _ _ L0.out (by decide)).mono ?_
  rintro e w1 ⟨v1, rfl, o1, b1⟩
  rw [show keptI [97, 8235, 98, 8295, 65279, 99] = [0, 2, 3, 5] by decide +kernel] at o1
  obtain ⟨A1, c1, rfl, l1, _, _⟩ := o1.form
  have B1 := Lib.hid (below_then (below_alloc w _) b1)
  have L1 := Lib.hid l1
  have K1 := Lib.hid (L0.out.up b1)
  clear o1 b1 l1
  go_wp2_with fail
  refine (ints_ok A1 _ [0, 2, 3, 5] c1 _ _ (L1.out.up (below_alloc _ _)) (Lies.litUp #[.int .i64 0, .int .i64 2, .int .i64 3, .int .i64 5]) (by decide)).mono ?_
  rintro e w2 ⟨rfl, b2⟩
  have B2 := Lib.hid (below_then B1.out (below_then (below_alloc _ _) b2))
  have K2 := Lib.hid ((K1.out.up (below_alloc _ _)).up b2)
  clear b2
  go_wp2_with fail
  refine (schars_any _ [97, 8235, 98, 8295, 65279, 99] _ w2 K2.out (by decide)).mono ?_
  rintro e w3 ⟨v3, rfl, o3, b3⟩
  rw [show charsI [97, 8235, 98, 8295, 65279, 99] = [97, 98, 8295, 99] by decide +kernel] at o3
  obtain ⟨A3, c3, rfl, l3, _, _⟩ := o3.form
  have B3 := Lib.hid (below_then B2.out b3)
  have L3 := Lib.hid l3
  have K3 := Lib.hid (K2.out.up b3)
  clear o3 b3 l3
  go_wp2_with fail
  refine (ints_ok A3 _ [97, 98, 8295, 99] c3 _ _ (L3.out.up (below_alloc _ _)) (Lies.litUp #[.int .i64 97, .int .i64 98, .int .i64 8295, .int .i64 99]) (by decide)).mono ?_
  rintro e w4 ⟨rfl, b4⟩
  have B4 := Lib.hid (below_then B3.out (below_then (below_alloc _ _) b4))
  have K4 := Lib.hid ((K3.out.up (below_alloc _ _)).up b4)
  clear b4
  go_wp2_with fail
  refine (srank_any _ [97, 8235, 98, 8295, 65279, 99] _ 3 w4 (by decide) K4.out (by decide)).mono ?_
  rintro e w5 ⟨rfl, b5⟩
  rw [show rankI [97, 8235, 98, 8295, 65279, 99] 3 = 2 by decide +kernel]
  have B5 := Lib.hid (below_then B4.out b5)
  have D5 := Lib.hid b5
  clear b5
  have K5 := Lib.hid (K4.out.up D5.out)
  go_wp2_with fail
  refine (sonly_any _ [97, 8235, 98, 8295, 65279, 99] _ w5 K5.out (by decide)).mono ?_
  rintro e w6 ⟨v6, rfl, o6, b6⟩
  rw [show onlyI [97, 8235, 98, 8295, 65279, 99] = [8235, 65279] by decide +kernel] at o6
  obtain ⟨A6, c6, rfl, l6, _, _⟩ := o6.form
  have B6 := Lib.hid (below_then B5.out b6)
  have L6 := Lib.hid l6
  have K6 := Lib.hid (K5.out.up b6)
  clear o6 b6 l6
  go_wp2_with fail
  refine (ints_ok A6 _ [8235, 65279] c6 _ _ (L6.out.up (below_alloc _ _)) (Lies.litUp #[.int .i64 8235, .int .i64 65279]) (by decide)).mono ?_
  rintro e w7 ⟨rfl, b7⟩
  have B7 := Lib.hid (below_then B6.out (below_then (below_alloc _ _) b7))
  have K7 := Lib.hid ((K6.out.up (below_alloc _ _)).up b7)
  clear b7
  go_wp2_with fail
  refine (ssame_any _ [97, 8235, 98, 8295, 65279, 99] _ _ [97, 98, 8295, 99] _ _ (K7.out.up (below_alloc _ _)) (Lies.litUp #[.int .i64 97, .int .i64 98, .int .i64 8295, .int .i64 99]) (by decide) (by decide)).mono ?_
  rintro e w8 ⟨rfl, b8⟩
  rw [show decide (charsI [97, 8235, 98, 8295, 65279, 99] = charsI [97, 98, 8295, 99]) = true by decide +kernel]
  have B8 := Lib.hid (below_then B7.out (below_then (below_alloc _ _) b8))
  have K8 := Lib.hid ((K7.out.up (below_alloc _ _)).up b8)
  clear b8
  go_wp2_with fail
  refine (ssame_any _ [97, 8235, 98, 8295, 65279, 99] _ _ [97] _ _ (K8.out.up (below_alloc _ _)) (Lies.litUp #[.int .i64 97]) (by decide) (by decide)).mono ?_
  rintro e w9 ⟨rfl, b9⟩
  rw [show decide (charsI [97, 8235, 98, 8295, 65279, 99] = charsI [97]) = false by decide +kernel]
  have B9 := Lib.hid (below_then B8.out (below_then (below_alloc _ _) b9))
  clear b9
  go_wp2
  go_ret
  exact ⟨rfl, B9.out⟩
end Go.Proofs.Ytdblpcfbhhgfdaa
