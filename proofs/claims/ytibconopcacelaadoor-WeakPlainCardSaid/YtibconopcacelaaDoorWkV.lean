/- Layer 9: the fixed fact. -/
import Derived.Test.YtibconopcacelaaDoorWkS
namespace Go.Proofs.YtibconopcacelaaDoor
open Go.RowKit

set_option maxRecDepth 20000 in
set_option maxHeartbeats 4000000 in
theorem walive_any (w : World) (hT : ClsTabs w) : Calls Tryd.prog 7 #[] w fun e w' => e = .returned (.bool true) ∧ Below w.heap.size w w' := by
  have HTB := Lib.hid hT
  clear hT
  go_enter Tryd.func7, Tryd.ntmps7
  go_wp2_with fail
  refine (wof_any _ [2, 8, 3, 7, 3, 1, 5, 3, 4, 3, 5] _ 0 _ (HTB.out.below (below_alloc _ _) HTB.out.big) (Lies.litUp (w := w) (e := 3) #[.int .i64 2, .int .i64 8, .int .i64 3, .int .i64 7, .int .i64 3, .int .i64 1, .int .i64 5, .int .i64 3, .int .i64 4, .int .i64 3, .int .i64 5]) (by decide)).mono ?_
  rintro e w1 ⟨v1, rfl, o1, b1⟩
  rw [show ofI [2, 8, 3, 7, 3, 1, 5, 3, 4, 3, 5] 0 = [1, 1, 6, 6, 6, 1, 3, 3, 3, 3, 3] by decide +kernel] at o1
  obtain ⟨A1, c1, rfl, l1, -, -⟩ := o1.form
  have B1 := Lib.hid (below_then (below_alloc _ _) b1)
  have L1 := Lib.hid l1
  clear o1 b1 l1
  go_wp2_with fail
  refine (ints_ok A1 _ [1, 1, 6, 6, 6, 1, 3, 3, 3, 3, 3] c1 _ _ (L1.out.up (below_alloc _ _)) (Lies.litUp #[.int .i64 1, .int .i64 1, .int .i64 6, .int .i64 6, .int .i64 6, .int .i64 1, .int .i64 3, .int .i64 3, .int .i64 3, .int .i64 3, .int .i64 3]) (by decide)).mono ?_
  rintro e w2 ⟨rfl, b2⟩
  have B2 := Lib.hid (below_then B1.out (below_then (below_alloc _ _) b2))
  clear b2
  go_wp2_with fail
  refine (wof_any _ [3, 4] _ 0 _ (HTB.out.below (below_then B2.out (below_alloc _ _)) HTB.out.big) (Lies.litUp (w := w2) (e := 3) #[.int .i64 3, .int .i64 4]) (by decide)).mono ?_
  rintro e w3 ⟨v3, rfl, o3, b3⟩
  rw [show ofI [3, 4] 0 = [0, 13] by decide +kernel] at o3
  obtain ⟨A3, c3, rfl, l3, -, -⟩ := o3.form
  have B3 := Lib.hid (below_then B2.out (below_then (below_alloc _ _) b3))
  have L3 := Lib.hid l3
  clear o3 b3 l3
  go_wp2_with fail
  refine (ints_ok A3 _ [0, 13] c3 _ _ (L3.out.up (below_alloc _ _)) (Lies.litUp #[.int .i64 0, .int .i64 13]) (by decide)).mono ?_
  rintro e w4 ⟨rfl, b4⟩
  have B4 := Lib.hid (below_then B3.out (below_then (below_alloc _ _) b4))
  clear b4
  go_wp2_with fail
  refine (wstrong_any _ [2, 3] 2 1 0 _ (HTB.out.below (below_then B4.out (below_alloc _ _)) HTB.out.big) (Lies.litUp (w := w4) (e := 3) #[.int .i64 2, .int .i64 3]) (by decide) (by decide) (by decide)).mono ?_
  rintro e w5 ⟨rfl, b5⟩
  rw [show strongI [2, 3] ((1 : Nat) : Int) 0 = 2 by decide +kernel]
  have B5 := Lib.hid (below_then B4.out (below_then (below_alloc _ _) b5))
  clear b5
  go_wp2_with fail
  refine (wrule_any _ [8] _ 1 1 _ (HTB.out.below (below_then B5.out (below_alloc _ _)) HTB.out.big) (Lies.litUp (w := w5) (e := 3) #[.int .i64 8]) (by decide) (by decide) (by decide)).mono ?_
  rintro e w6 ⟨v6, rfl, o6, b6⟩
  rw [show ruleI [8] 1 1 = [1] by decide +kernel] at o6
  obtain ⟨A6, c6, rfl, l6, -, -⟩ := o6.form
  have B6 := Lib.hid (below_then B5.out (below_then (below_alloc _ _) b6))
  have L6 := Lib.hid l6
  clear o6 b6 l6
  go_wp2_with fail
  refine (ints_ok A6 _ [1] c6 _ _ (L6.out.up (below_alloc _ _)) (Lies.litUp #[.int .i64 1]) (by decide)).mono ?_
  rintro e w7 ⟨rfl, b7⟩
  have B7 := Lib.hid (below_then B6.out (below_then (below_alloc _ _) b7))
  clear b7
  go_wp2
  go_ret
  exact ⟨rfl, B7.out⟩
end Go.Proofs.YtibconopcacelaaDoor
