/- Layer 10: the fixed fact. -/
import Derived.Test.YtoiolgpbecgfkaaBrS
import Derived.Test.YtoiolgpbecgfkaaBrP
import Derived.Test.YtoiolgpbecgfkaaSame
namespace Go.Proofs.Ytoiolgpbecgfkaa
open Go.RowKit

theorem alive_pairs : pairsI [97, 40, 98, 41, 91, 1488, 93] [0, 13, 0, 13, 13, 1, 13] = [(1, 3), (4, 6)] := by decide +kernel
theorem alive_of : ofB [97, 40, 98, 41, 91, 1488, 93] [0, 13, 0, 13, 13, 1, 13] [0, 13, 0, 13, 13, 1, 13] 1 1 = [0, 0, 0, 0, 1, 1, 1] := by decide +kernel
theorem Lies.secondUp {w : World} {e : TypeId} (o : Obj) (cs : Array Value) : Lies ((w.alloc o).alloc (.cells cs e)) ((w.alloc o).alloc (.cells cs e)).heap.size (some ⟨w.heap.size + 1, 0, none⟩) cs.toList := by
  have := Lies.litUp (w := w.alloc o) (e := e) cs; simpa using this

set_option maxRecDepth 20000 in
set_option maxHeartbeats 4000000 in
theorem balive_any (w : World) : Calls Try.prog 8 #[] w fun e w' => e = .returned (.bool true) ∧ Below w.heap.size w w' := by
  have L1 := Lib.hid (Lies.up (Lies.litUp (w := w) (e := 3) #[.int .i64 97, .int .i64 40, .int .i64 98, .int .i64 41, .int .i64 91, .int .i64 1488, .int .i64 93]) (below_alloc _ (.cells #[.int .i64 0, .int .i64 13, .int .i64 0, .int .i64 13, .int .i64 13, .int .i64 1, .int .i64 13] 3)))
  have L2 := Lib.hid (Lies.secondUp (w := w) (e := 3) (.cells #[.int .i64 97, .int .i64 40, .int .i64 98, .int .i64 41, .int .i64 91, .int .i64 1488, .int .i64 93] 3) #[.int .i64 0, .int .i64 13, .int .i64 0, .int .i64 13, .int .i64 13, .int .i64 1, .int .i64 13])
  have BW := Lib.hid (below_then (below_alloc w (.cells #[.int .i64 97, .int .i64 40, .int .i64 98, .int .i64 41, .int .i64 91, .int .i64 1488, .int .i64 93] 3)) (below_alloc _ (.cells #[.int .i64 0, .int .i64 13, .int .i64 0, .int .i64 13, .int .i64 13, .int .i64 1, .int .i64 13] 3)))
  go_enter Try.func8, Try.ntmps8
  go_wp2_with fail
  refine (bpairs_any _ [97, 40, 98, 41, 91, 1488, 93] _ _ [0, 13, 0, 13, 13, 1, 13] _ _ L1.out L2.out (by decide) (by decide)).mono ?_
  rintro e w1 ⟨A1, c1, rfl, l1, b1⟩
  rw [alive_pairs] at l1 ⊢
  obtain ⟨g, off, rfl, hg, p0, p1⟩ := prC_at (j := 0) l1 (by decide)
  obtain ⟨g', off', hA', hg', q0, q1⟩ := prC_at (j := 1) l1 (by decide)
  injection hA' with hA'
  injection hA' with h1 h2 _
  subst h1 h2
  have B1 := Lib.hid (below_then BW.out b1)
  have M1 := Lib.hid (L1.out.up b1)
  have M2 := Lib.hid (L2.out.up b1)
  have PC : Hid (∀ u, Below w1.heap.size w1 u → u.cell? ⟨g, off, none⟩ = some (.int .i64 1) ∧ u.cell? ⟨g, off + 1, none⟩ = some (.int .i64 3) ∧ u.cell? ⟨g, off + 2, none⟩ = some (.int .i64 4) ∧ u.cell? ⟨g, off + 2 + 1, none⟩ = some (.int .i64 6) ∧ u.cell? ⟨g, off + 3, none⟩ = some (.int .i64 6)) :=
    Lib.hid fun u hu => ⟨by rw [hu.cell hg]; simpa using p0, by rw [hu.cell hg]; simpa using p1, by rw [hu.cell hg]; simpa using q0, by rw [hu.cell hg]; simpa using q1, by rw [hu.cell hg]; simpa using q1⟩
  clear l1 b1 p0 p1 q0 q1 hg'
  go_wp2_with fail
  refine (bof_any _ [97, 40, 98, 41, 91, 1488, 93] _ _ [0, 13, 0, 13, 13, 1, 13] _ _ [0, 13, 0, 13, 13, 1, 13] _ 1 1 w1 M1.out M2.out M2.out (by decide) (by decide) (by decide)).mono ?_
  rintro e w2 ⟨v2, rfl, o2, b2⟩
  rw [alive_of] at o2
  obtain ⟨A2, c2, rfl, l2, -, -⟩ := o2.form
  have D2 := Lib.hid b2
  have B2 := Lib.hid (below_then B1.out b2)
  have N2 := Lib.hid l2
  have K2 := Lib.hid (M2.out.up b2)
  clear o2 b2 l2
  go_wp2_with fail
  refine (bsides_any _ [0, 13, 0, 13, 13, 1, 13] _ 1 4 w2 K2.out (by decide) (by decide) (by decide)).mono ?_
  rintro e w3 ⟨rfl, b3⟩
  rw [show hasL [0, 13, 0, 13, 13, 1, 13] 1 4 = true by decide +kernel, show hasR [0, 13, 0, 13, 13, 1, 13] 1 4 = false by decide +kernel]
  have D3 := Lib.hid (below_then D2.out b3)
  have B3 := Lib.hid (below_then B2.out b3)
  have N3 := Lib.hid (N2.out.up b3)
  clear b3
  obtain ⟨p0, p1, p2, p3, p4⟩ := PC.out w3 D3.out
  have e1 := fun u => eq_pr 1 3 u
  have e2 := fun u => eq_pr 4 6 u
  go_wp2_with fail
  clear p0 p1 p2 p3 p4 e1 e2
  refine (ints_ok A2 _ [0, 0, 0, 0, 1, 1, 1] c2 _ _ (N3.out.up (below_alloc _ _)) (Lies.litUp #[.int .i64 0, .int .i64 0, .int .i64 0, .int .i64 0, .int .i64 1, .int .i64 1, .int .i64 1]) (by decide)).mono ?_
  rintro e w4 ⟨rfl, b4⟩
  have B4 := Lib.hid (below_then B3.out (below_then (below_alloc _ _) b4))
  clear b4
  go_wp2_with fail
  refine (bside_any 6 w4).mono ?_
  rintro e w5 ⟨rfl, b5⟩
  rw [show sdB 6 = 1 by decide]
  have B5 := Lib.hid (below_then B4.out b5)
  clear b5
  go_wp2_with fail
  refine (bside_any 13 w5).mono ?_
  rintro e w6 ⟨rfl, b6⟩
  rw [show sdB 13 = -1 by decide]
  have B6 := Lib.hid (below_then B5.out b6)
  clear b6
  go_wp2
  go_ret
  exact ⟨rfl, B6.out⟩
end Go.Proofs.Ytoiolgpbecgfkaa
