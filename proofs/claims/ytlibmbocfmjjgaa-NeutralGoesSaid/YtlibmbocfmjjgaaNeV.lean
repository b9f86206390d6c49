/- Layer 11: the fixed fact. -/
import Derived.Test.YtlibmbocfmjjgaaBrS
import Derived.Test.YtlibmbocfmjjgaaNeR
namespace Go.Proofs.Ytlibmbocfmjjgaa
open Go.RowKit

theorem alive_of11 : nofI [13, 1, 12, 3, 13, 0, 13] 0 0 0 = [0, 1, 1, 3, 0, 0, 0] := by decide +kernel
theorem alive_gr11 : groupsI [13, 12, 0, 11] = [(0, 2), (3, 4)] := by decide +kernel
theorem alive_lv11 : nLevelsI [0, 1, 3] 1 = [2, 1, 2] := by decide +kernel
theorem alive_lev11 : nLevelI 6 0 = 2 := by decide +kernel

set_option maxRecDepth 20000 in
set_option maxHeartbeats 4000000 in
theorem nalive_any (w : World) : Calls Try.prog 7 #[] w fun e w' => e = .returned (.bool true) ∧ Below w.heap.size w w' := by
  go_enter Try.func7, Try.ntmps7
  go_wp2_with fail
  refine (nof_any _ [13, 1, 12, 3, 13, 0, 13] _ 0 0 0 _ (Lies.litUp (w := w) (e := 3) #[.int .i64 13, .int .i64 1, .int .i64 12, .int .i64 3, .int .i64 13, .int .i64 0, .int .i64 13]) (by decide)).mono ?_
  rintro e w1 ⟨v1, rfl, o1, b1⟩
  rw [alive_of11] at o1
  obtain ⟨A1, c1, rfl, l1, -, -⟩ := o1.form
  have B1 := Lib.hid (below_then (below_alloc _ _) b1)
  have L1 := Lib.hid l1
  clear o1 b1 l1
  go_wp2_with fail
  refine (ngroups_any _ [13, 12, 0, 11] _ _ (Lies.litUp (w := w1) (e := 3) #[.int .i64 13, .int .i64 12, .int .i64 0, .int .i64 11]) (by decide)).mono ?_
  rintro e w2 ⟨A2, c2, rfl, l2, b2⟩
  rw [alive_gr11] at l2 ⊢
  obtain ⟨g, off, rfl, hg, p0, p1⟩ := prC_at (j := 0) l2 (by decide)
  have D2 := Lib.hid (below_then (below_alloc w1 (.cells #[.int .i64 13, .int .i64 12, .int .i64 0, .int .i64 11] 3)) b2)
  have B2 := Lib.hid (below_then B1.out D2.out)
  have M1 := Lib.hid (L1.out.up D2.out)
  have PC : Hid (∀ u, Below w2.heap.size w2 u → u.cell? ⟨g, off, none⟩ = some (.int .i64 0) ∧ u.cell? ⟨g, off + 1, none⟩ = some (.int .i64 2)) :=
    Lib.hid fun u hu => ⟨by rw [hu.cell hg]; simpa using p0, by rw [hu.cell hg]; simpa using p1⟩
  clear l2 b2 p0 p1
  go_wp2_with fail
  refine (ints_ok A1 _ [0, 1, 1, 3, 0, 0, 0] c1 _ _ (M1.out.up (below_alloc _ _)) (Lies.litUp #[.int .i64 0, .int .i64 1, .int .i64 1, .int .i64 3, .int .i64 0, .int .i64 0, .int .i64 0]) (by decide)).mono ?_
  rintro e w3 ⟨rfl, b3⟩
  have D3 := Lib.hid (below_then (below_alloc w2 (.cells #[.int .i64 0, .int .i64 1, .int .i64 1, .int .i64 3, .int .i64 0, .int .i64 0, .int .i64 0] 3)) b3)
  have B3 := Lib.hid (below_then B2.out D3.out)
  obtain ⟨q0, q1⟩ := PC.out w3 D3.out
  have heq := fun u => eq_pr 0 2 u
  clear b3
  go_wp2_with fail
  clear q0 q1 heq
  refine (nlevels_any _ [0, 1, 3] _ 1 _ (Lies.litUp (w := w3) (e := 3) #[.int .i64 0, .int .i64 1, .int .i64 3]) (by decide)).mono ?_
  rintro e w4 ⟨v4, rfl, o4, b4⟩
  rw [alive_lv11] at o4
  obtain ⟨A4, c4, rfl, l4, -, -⟩ := o4.form
  have B4 := Lib.hid (below_then B3.out (below_then (below_alloc _ _) b4))
  have L4 := Lib.hid l4
  clear o4 b4 l4
  go_wp2_with fail
  refine (ints_ok A4 _ [2, 1, 2] c4 _ _ (L4.out.up (below_alloc _ _)) (Lies.litUp #[.int .i64 2, .int .i64 1, .int .i64 2]) (by decide)).mono ?_
  rintro e w5 ⟨rfl, b5⟩
  have B5 := Lib.hid (below_then B4.out (below_then (below_alloc _ _) b5))
  clear b5
  go_wp2_with fail
  refine (nlevel_any 6 0 w5).mono ?_
  rintro e w6 ⟨rfl, b6⟩
  rw [alive_lev11]
  have B6 := Lib.hid (below_then B5.out b6)
  clear b6
  go_wp2
  go_ret
  exact ⟨rfl, B6.out⟩
end Go.Proofs.Ytlibmbocfmjjgaa
