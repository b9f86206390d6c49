/- Layer 13: the fixed fact. -/
import Derived.Laws.StructEq
import Derived.Test.YtadfleopbpomfaaInts
import Derived.Test.YtadfleopbpomfaaLnR
namespace Go.Proofs.Ytadfleopbpomfaa
open Go.RowKit

theorem eq_sp (x y : Int) (w : World) : (Op.equalIn 10000 29 (.agg #[.int .i64 x, .int .i64 y]) (.agg #[.int .i64 x, .int .i64 y])).run Try.prog w = .ok true w := by
  have u3 := Try.underlying3
  have a3 := Try.isAgg3
  have z3 := Try.sizeOf3
  rw [show (10000 : Nat) = 9998 + 1 + 1 from rfl, run_equalIn_struct w (9998 + 1) 29 _ _ (by kernel_rfl) (by kernel_rfl)]
  have hu := Try.underlying29
  simp only [Program.fieldsOf, hu]
  go_simp
theorem alive_le13 : linesE [2, 5] 5 = [(0, 2), (2, 5)] := by decide +kernel
theorem alive_lr13 : linesR [2, 5] 5 = 0 := by decide +kernel
theorem alive_ne13 : linesE [2, 2] 2 = [] := by decide +kernel
theorem alive_nr13 : linesR [2, 2] 2 = 3 := by decide +kernel
theorem alive_lv13 : levelsL [0x5d0, 32, 9, 32, 0x2069] [1, 1, 1, 1, 1] 0 0 5 = [1, 0, 0, 0, 0] := by decide +kernel
theorem alive_of13 : lineOf [2, 5] 2 = 1 := by decide +kernel
theorem alive_wr13 : wrapI 5 2 = [2, 4, 5] := by decide +kernel
theorem alive_ri13 : rightI [] 0 = true := by decide +kernel

set_option maxRecDepth 20000 in
set_option maxHeartbeats 4000000 in
theorem lnalive_any (w : World) : Calls Try.prog 8 #[] w fun e w' => e = .returned (.bool true) ∧ Below w.heap.size w w' := by
  go_enter Try.func8, Try.ntmps8
  go_wp2_with fail
  refine (nlines13_any _ [2, 5] _ 5 _ (Lies.litUp (w := w) (e := 3) #[.int .i64 2, .int .i64 5]) (by decide)).mono ?_
  rintro e w1 ⟨v1, rfl, o1, b1⟩
  rw [alive_le13] at o1
  rw [alive_lr13]
  obtain ⟨A1, c1, rfl, l1, -, -⟩ := o1.form
  have B1 := Lib.hid (below_then (below_alloc _ _) b1)
  obtain ⟨g, off, rfl, hg, p0, p1⟩ := prC_at (j := 1) l1 (by decide)
  have PC : Hid (∀ u, Below w1.heap.size w1 u → u.cell? ⟨g, off + 2, none⟩ = some (.int .i64 2) ∧ u.cell? ⟨g, off + 3, none⟩ = some (.int .i64 5)) :=
    Lib.hid fun u hu => ⟨by rw [hu.cell hg]; simpa using p0, by rw [hu.cell hg]; simpa using p1⟩
  clear o1 b1 l1 p0 p1
  go_wp2_with fail
  refine (nlines13_any _ [2, 2] _ 2 _ (Lies.litUp (w := w1) (e := 3) #[.int .i64 2, .int .i64 2]) (by decide)).mono ?_
  rintro e w2 ⟨v2, rfl, o2, b2⟩
  rw [alive_nr13]
  have D2 := Lib.hid (below_then (below_alloc w1 (.cells #[.int .i64 2, .int .i64 2] 3)) b2)
  have B2 := Lib.hid (below_then B1.out D2.out)
  obtain ⟨q0, q1⟩ := PC.out w2 D2.out
  clear o2 b2
  go_wp2_with fail
  obtain ⟨wa, hwa⟩ : ∃ u, w2.alloc (.cells #[.int .i64 1488, .int .i64 32, .int .i64 9, .int .i64 32, .int .i64 8297] 3) = u := ⟨_, rfl⟩
  have LA : Lies wa wa.heap.size (some ⟨w2.heap.size, 0, none⟩) (ints .i64 [1488, 32, 9, 32, 8297]) := hwa ▸ Lies.litUp (w := w2) (e := 3) #[.int .i64 1488, .int .i64 32, .int .i64 9, .int .i64 32, .int .i64 8297]
  have BA : Below w2.heap.size w2 wa := hwa ▸ below_alloc w2 _
  rw [hwa]
  have hsz : w2.heap.size + 1 = wa.heap.size := by rw [← hwa]; simp
  rw [hsz]
  refine (nlevels13_any _ [1488, 32, 9, 32, 8297] _ _ [1, 1, 1, 1, 1] 5 0 0 5 _ (LA.up (below_alloc _ _)) (Lies.litUp (w := wa) (e := 3) #[.int .i64 1, .int .i64 1, .int .i64 1, .int .i64 1, .int .i64 1]) (by decide) (by decide) (by decide)).mono ?_
  rintro e w3 ⟨v3, rfl, o3, b3⟩
  rw [alive_lv13] at o3
  obtain ⟨A3, c3, rfl, l3, -, -⟩ := o3.form
  have D3 := Lib.hid (below_then BA (below_then (below_alloc _ _) b3))
  have B3 := Lib.hid (below_then B2.out D3.out)
  have L3 := Lib.hid l3
  have E2 : w2.heap.size ≤ w3.heap.size := D3.out.size
  obtain ⟨q0, q1⟩ := PC.out w3 (below_then D2.out D3.out)
  have heq := fun u => eq_sp 2 5 u
  clear hwa LA BA hsz o3 b3 l3
  go_wp2_with fail
  clear q0 q1 heq
  refine (ints_ok A3 _ [1, 0, 0, 0, 0] c3 _ _ (L3.out.up (below_alloc _ _)) (Lies.litUp #[.int .i64 1, .int .i64 0, .int .i64 0, .int .i64 0, .int .i64 0]) (by decide)).mono ?_
  rintro e w4 ⟨rfl, b4⟩
  have B4 := Lib.hid (below_then B3.out (below_then (below_alloc w3 (.cells #[.int .i64 1, .int .i64 0, .int .i64 0, .int .i64 0, .int .i64 0] 3)) b4))
  clear b4
  go_wp2_with fail
  refine (nof13_any _ [2, 5] _ 2 _ (Lies.litUp (w := w4) (e := 3) #[.int .i64 2, .int .i64 5]) (by decide) (by decide)).mono ?_
  rintro e w5 ⟨rfl, b5⟩
  rw [alive_of13]
  have B5 := Lib.hid (below_then B4.out (below_then (below_alloc w4 (.cells #[.int .i64 2, .int .i64 5] 3)) b5))
  clear b5
  go_wp2_with fail
  refine (nwrap13_any 5 2 w5).mono ?_
  rintro e w6 ⟨v6, rfl, o6, b6⟩
  rw [alive_wr13] at o6
  obtain ⟨A6, c6, rfl, l6, -, -⟩ := o6.form
  have B6 := Lib.hid (below_then B5.out b6)
  have L6 := Lib.hid l6
  clear o6 b6 l6
  go_wp2_with fail
  refine (ints_ok A6 _ [2, 4, 5] c6 _ _ (L6.out.up (below_alloc _ _)) (Lies.litUp #[.int .i64 2, .int .i64 4, .int .i64 5]) (by decide)).mono ?_
  rintro e w7 ⟨rfl, b7⟩
  have B7 := Lib.hid (below_then B6.out (below_then (below_alloc w6 (.cells #[.int .i64 2, .int .i64 4, .int .i64 5] 3)) b7))
  clear b7
  go_wp2_with fail
  refine (nright13_any none [] 0 0 w7 Lies.empty (by decide)).mono ?_
  rintro e w8 ⟨rfl, b8⟩
  rw [alive_ri13]
  have B8 := Lib.hid (below_then B7.out b8)
  clear b8
  go_wp2
  go_ret
  exact ⟨rfl, B8.out⟩
end Go.Proofs.Ytadfleopbpomfaa
