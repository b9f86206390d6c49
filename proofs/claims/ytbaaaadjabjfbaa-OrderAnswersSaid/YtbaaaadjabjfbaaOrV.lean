/- Layer 14: the fixed fact. -/
import Derived.Test.YtbaaaadjabjfbaaInts
import Derived.Test.YtbaaaadjabjfbaaOrE
namespace Go.Proofs.Ytbaaaadjabjfbaa
open Go.RowKit

theorem alive_of14 : orderI [0, 1, 1, 2, 2, 1, 0] = [0, 5, 3, 4, 2, 1, 6] := by decide +kernel
theorem alive_be14 : backE [0, 5, 3, 4, 2, 1, 6] = [0, 5, 4, 2, 3, 1, 6] := by decide +kernel
theorem alive_br14 : backR [0, 5, 3, 4, 2, 1, 6] = 0 := by decide +kernel
theorem alive_ne14 : backE [1, 1] = [] := by decide +kernel
theorem alive_nr14 : backR [1, 1] = 1 := by decide +kernel
theorem alive_se14 : seenI [97, 40] [1, 1] = [41, 97] := by decide +kernel
theorem alive_on14 : onlyI [0, 5, 3, 4, 2, 1, 6] [true, false, true] = [0, 2] := by decide +kernel
theorem alive_ri14 : rightO [0, 5, 3, 4, 2, 1, 6] = true := by decide +kernel

set_option maxRecDepth 20000 in
set_option maxHeartbeats 4000000 in
theorem oralive_any (w : World) : Calls Try.prog 7 #[] w fun e w' => e = .returned (.bool true) ∧ Below w.heap.size w w' := by
  go_enter Try.func7, Try.ntmps7
  go_wp2_with fail
  refine (nof14_any _ [0, 1, 1, 2, 2, 1, 0] _ _ (Lies.litUp (w := w) (e := 3) #[.int .i64 0, .int .i64 1, .int .i64 1, .int .i64 2, .int .i64 2, .int .i64 1, .int .i64 0]) (by decide)).mono ?_
  rintro e w1 ⟨v1, rfl, o1, b1⟩
  rw [alive_of14] at o1
  obtain ⟨A1, c1, rfl, l1, -, -⟩ := o1.form
  have B1 := Lib.hid (below_then (below_alloc _ _) b1)
  have L1 := Lib.hid l1
  clear o1 b1 l1
  go_wp2_with fail
  refine (nback14_any A1 [0, 5, 3, 4, 2, 1, 6] c1 w1 L1.out (by decide)).mono ?_
  rintro e w2 ⟨v2, rfl, o2, b2⟩
  rw [alive_be14] at o2
  rw [alive_br14]
  obtain ⟨A2, c2, rfl, l2, -, -⟩ := o2.form
  have B2 := Lib.hid (below_then B1.out b2)
  have M1 := Lib.hid (L1.out.up b2)
  have L2 := Lib.hid l2
  clear o2 b2 l2
  go_wp2_with fail
  refine (nback14_any _ [1, 1] _ _ (Lies.litUp (w := w2) (e := 3) #[.int .i64 1, .int .i64 1]) (by decide)).mono ?_
  rintro e w3 ⟨v3, rfl, o3, b3⟩
  rw [alive_nr14]
  have D3 := Lib.hid (below_then (below_alloc w2 (.cells #[.int .i64 1, .int .i64 1] 3)) b3)
  have B3 := Lib.hid (below_then B2.out D3.out)
  have M3 := Lib.hid (M1.out.up D3.out)
  have N3 := Lib.hid (L2.out.up D3.out)
  clear o3 b3
  go_wp2_with fail
  refine (ints_ok A1 _ [0, 5, 3, 4, 2, 1, 6] c1 _ _ (M3.out.up (below_alloc _ _)) (Lies.litUp #[.int .i64 0, .int .i64 5, .int .i64 3, .int .i64 4, .int .i64 2, .int .i64 1, .int .i64 6]) (by decide)).mono ?_
  rintro e w4 ⟨rfl, b4⟩
  have D4 := Lib.hid (below_then (below_alloc w3 (.cells #[.int .i64 0, .int .i64 5, .int .i64 3, .int .i64 4, .int .i64 2, .int .i64 1, .int .i64 6] 3)) b4)
  have B4 := Lib.hid (below_then B3.out D4.out)
  have M4 := Lib.hid (M3.out.up D4.out)
  have N4 := Lib.hid (N3.out.up D4.out)
  clear b4
  go_wp2_with fail
  refine (ints_ok A2 _ [0, 5, 4, 2, 3, 1, 6] c2 _ _ (N4.out.up (below_alloc _ _)) (Lies.litUp #[.int .i64 0, .int .i64 5, .int .i64 4, .int .i64 2, .int .i64 3, .int .i64 1, .int .i64 6]) (by decide)).mono ?_
  rintro e w5 ⟨rfl, b5⟩
  have D5 := Lib.hid (below_then (below_alloc w4 (.cells #[.int .i64 0, .int .i64 5, .int .i64 4, .int .i64 2, .int .i64 3, .int .i64 1, .int .i64 6] 3)) b5)
  have B5 := Lib.hid (below_then B4.out D5.out)
  have M5 := Lib.hid (M4.out.up D5.out)
  clear b5
  go_wp2_with fail
  obtain ⟨wa, hwa⟩ : ∃ u, w5.alloc (.cells #[.int .i64 97, .int .i64 40] 3) = u := ⟨_, rfl⟩
  have LA : Lies wa wa.heap.size (some ⟨w5.heap.size, 0, none⟩) (ints .i64 [97, 40]) := hwa ▸ Lies.litUp (w := w5) (e := 3) #[.int .i64 97, .int .i64 40]
  have BA : Below w5.heap.size w5 wa := hwa ▸ below_alloc w5 _
  rw [hwa]
  have hsz : w5.heap.size + 1 = wa.heap.size := by rw [← hwa]; simp
  rw [hsz]
  refine (nseen14_any _ _ [97, 40] [1, 1] _ _ _ (LA.up (below_alloc _ _)) (Lies.litUp (w := wa) (e := 3) #[.int .i64 1, .int .i64 1]) (by decide)).mono ?_
  rintro e w6 ⟨v6, rfl, o6, b6⟩
  rw [alive_se14] at o6
  obtain ⟨A6, c6, rfl, l6, -, -⟩ := o6.form
  have D6 := Lib.hid (below_then BA (below_then (below_alloc _ _) b6))
  have B6 := Lib.hid (below_then B5.out D6.out)
  have M6 := Lib.hid (M5.out.up D6.out)
  have L6 := Lib.hid l6
  clear hwa LA BA hsz o6 b6 l6
  go_wp2_with fail
  refine (ints_ok A6 _ [41, 97] c6 _ _ (L6.out.up (below_alloc _ _)) (Lies.litUp #[.int .i64 41, .int .i64 97]) (by decide)).mono ?_
  rintro e w7 ⟨rfl, b7⟩
  have D7 := Lib.hid (below_then (below_alloc w6 (.cells #[.int .i64 41, .int .i64 97] 3)) b7)
  have B7 := Lib.hid (below_then B6.out D7.out)
  have M7 := Lib.hid (M6.out.up D7.out)
  clear b7
  go_wp2_with fail
  refine (nonly14_any A1 _ [0, 5, 3, 4, 2, 1, 6] [true, false, true] c1 _ _ (M7.out.up (below_alloc _ _)) (Lies.litUp (w := w7) (e := 4) #[.bool true, .bool false, .bool true]) (by decide) (by decide)).mono ?_
  rintro e w8 ⟨v8, rfl, o8, b8⟩
  rw [alive_on14] at o8
  obtain ⟨A8, c8, rfl, l8, -, -⟩ := o8.form
  have D8 := Lib.hid (below_then (below_alloc w7 (.cells #[.bool true, .bool false, .bool true] 4)) b8)
  have B8 := Lib.hid (below_then B7.out D8.out)
  have M8 := Lib.hid (M7.out.up D8.out)
  have L8 := Lib.hid l8
  clear o8 b8 l8
  go_wp2_with fail
  refine (ints_ok A8 _ [0, 2] c8 _ _ (L8.out.up (below_alloc _ _)) (Lies.litUp #[.int .i64 0, .int .i64 2]) (by decide)).mono ?_
  rintro e w9 ⟨rfl, b9⟩
  have D9 := Lib.hid (below_then (below_alloc w8 (.cells #[.int .i64 0, .int .i64 2] 3)) b9)
  have B9 := Lib.hid (below_then B8.out D9.out)
  have M9 := Lib.hid (M8.out.up D9.out)
  clear b9
  go_wp2_with fail
  refine (nright14_any A1 [0, 5, 3, 4, 2, 1, 6] c1 w9 M9.out (by decide)).mono ?_
  rintro e w10 ⟨rfl, b10⟩
  rw [alive_ri14]
  have B10 := Lib.hid (below_then B9.out b10)
  clear b10
  go_wp2
  go_ret
  exact ⟨rfl, B10.out⟩
end Go.Proofs.Ytbaaaadjabjfbaa
