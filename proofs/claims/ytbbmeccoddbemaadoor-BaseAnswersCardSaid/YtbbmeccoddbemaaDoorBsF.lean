/- The fixed fact of layer 5. -/
import Derived.Test.YtbbmeccoddbemaaDoorBsE
import Derived.Test.YtbbmeccoddbemaaDoorInts2
namespace Go.Proofs.YtbbmeccoddbemaaDoor
open Go.RowKit Reckon

set_option maxHeartbeats 4000000 in
theorem balive_any (w : World) (hT : ClsTabs w) : Calls Tryd.prog 7 #[] w fun e w' => e = .returned (.bool true) ∧ Below w.heap.size w w' := by
  have HT := Lib.hid hT
  have hbig := hT.big
  clear hT
  go_enter Tryd.func7, Tryd.ntmps7
  go_wp2_with fail
  have L0 := Lib.hid (Lies.litUp (w := w) (e := 3) #[.int .i64 20, .int .i64 1, .int .i64 21, .int .i64 2, .int .i64 22, .int .i64 22, .int .i64 0])
  refine (match_any _ [20, 1, 21, 2, 22, 22, 0] _ _ L0.out (by decide)).mono ?_
  rintro e w1 ⟨v1, rfl, o1, b1⟩
  rw [show mt [20, 1, 21, 2, 22, 22, 0] = [5, -1, 4, -1, 2, 0, -1] by decide +kernel] at o1
  obtain ⟨A1, c1, rfl, l1, _, _⟩ := o1.form
  have B1 := Lib.hid (below_then (below_alloc w _) b1)
  have L1 := Lib.hid l1
  have K1 := Lib.hid (L0.out.up b1)
  clear o1 b1 l1
  go_wp2_with fail
  refine (ints_ok A1 _ [5, -1, 4, -1, 2, 0, -1] c1 _ _ (L1.out.up (below_alloc _ _)) (Lies.litUp #[.int .i64 5, .int .i64 (-1), .int .i64 4, .int .i64 (-1), .int .i64 2, .int .i64 0, .int .i64 (-1)]) (by decide)).mono ?_
  rintro e w2 ⟨rfl, b2⟩
  have B2 := Lib.hid (below_then B1.out (below_then (below_alloc _ _) b2))
  have K2 := Lib.hid ((K1.out.up (below_alloc _ _)).up b2)
  clear b2
  go_wp2_with fail
  refine (level_any _ [20, 1, 21, 2, 22, 22, 0] _ 0 w2 (HT.out.below B2.out hbig) K2.out (by decide) (by decide)).mono ?_
  rintro e w3 ⟨rfl, b3⟩
  rw [show level [20, 1, 21, 2, 22, 22, 0] 0 = 0 by decide +kernel]
  have B3 := Lib.hid (below_then B2.out b3)
  have D3 := Lib.hid b3
  clear b3
  have K3 := Lib.hid (K2.out.up D3.out)
  go_wp2_with fail
  refine (first_any _ [20, 1, 21, 2, 22, 22, 0] _ 1 7 w3 (HT.out.below B3.out hbig) K3.out (by decide) (by decide)).mono ?_
  rintro e w4 ⟨rfl, b4⟩
  rw [show firstP (partI [20, 1, 21, 2, 22, 22, 0] 1 7) 0 = 1 by decide +kernel]
  have B4 := Lib.hid (below_then B3.out b4)
  have D4 := Lib.hid b4
  clear b4
  have K4 := Lib.hid (K3.out.up D4.out)
  go_wp2_with fail
  refine (isolate_any _ [20, 1, 21, 2, 22, 22, 0] _ 2 w4 (HT.out.below B4.out hbig) K4.out (by decide) (by decide)).mono ?_
  rintro e w5 ⟨rfl, b5⟩
  rw [show isolate [20, 1, 21, 2, 22, 22, 0] 2 = 1 by decide +kernel]
  have B5 := Lib.hid (below_then B4.out b5)
  have D5 := Lib.hid b5
  clear b5
  have K5 := Lib.hid (K4.out.up D5.out)
  go_wp2_with fail
  refine (isolate_any _ [20, 1, 21, 2, 22, 22, 0] _ 1 w5 (HT.out.below B5.out hbig) K5.out (by decide) (by decide)).mono ?_
  rintro e w6 ⟨rfl, b6⟩
  rw [show isolate [20, 1, 21, 2, 22, 22, 0] 1 = -1 by decide +kernel]
  have B6 := Lib.hid (below_then B5.out b6)
  have D6 := Lib.hid b6
  clear b6
  have K6 := Lib.hid (K5.out.up D6.out)
  go_wp2_with fail
  refine (level_any _ [20, 1, 21, 2, 22, 22, 0] _ 2 w6 (HT.out.below B6.out hbig) K6.out (by decide) (by decide)).mono ?_
  rintro e w7 ⟨rfl, b7⟩
  rw [show level [20, 1, 21, 2, 22, 22, 0] 2 = 1 by decide +kernel]
  have B7 := Lib.hid (below_then B6.out b7)
  have D7 := Lib.hid b7
  clear b7
  go_wp2_with fail
  refine (first_any _ [10, 1] _ 0 2 _ (HT.out.below (B7.out.alloc B7.out.size _) hbig) (Lies.litUp #[.int .i64 10, .int .i64 1]) (by decide) (by decide)).mono ?_
  rintro e w8 ⟨rfl, b8⟩
  rw [show firstP (partI [10, 1] 0 2) 0 = -1 by decide +kernel]
  have B8 := Lib.hid (below_then B7.out (below_then (below_alloc _ _) b8))
  clear b8
  go_wp2
  go_ret
  exact ⟨rfl, B8.out⟩
end Go.Proofs.YtbbmeccoddbemaaDoor
