/- Layer 15: the fixed fact that each law asks first. -/
import Derived.Test.YtpllklikjnndcaaTkJ
namespace Go.Proofs.Ytpllklikjnndcaa
open Go.RowKit

def aliveP1 : List Int := [97, 123, 50, 44, 51, 125, 63, 91, 94, 98, 45, 99, 92, 100, 93]
def aliveT1 : List Tok := [⟨1, 97, 0, 0, 0⟩, ⟨6, 0, 2, 3, 1⟩, ⟨13, 0, 0, 0, 6⟩, ⟨7, 1, 0, 0, 7⟩, ⟨9, 0, 98, 99, 9⟩, ⟨12, 100, 0, 0, 12⟩, ⟨8, 0, 0, 0, 14⟩]
theorem alive_of1 : ofT aliveP1 = .ok aliveT1 := by rfl
theorem alive_of2 : ofT [97, 123, 51, 44, 50, 125] = .error (1, 8) := by rfl
theorem alive_of3 : ofT [91, 122, 45, 97, 93] = .error (1, 7) := by rfl
theorem alive_quote : quoteI [97, 46] = [97, 92, 46] := by rfl

set_option maxRecDepth 20000 in
set_option maxHeartbeats 4000000 in
theorem tkalive_any (w : World) : Calls Try.prog 7 #[] w fun e w' => e = .returned (.bool true) ∧ Below w.heap.size w w' := by
  obtain ⟨w1, hw1⟩ : ∃ u, w.alloc (.cells #[.int .i64 97, .int .i64 123, .int .i64 50, .int .i64 44, .int .i64 51, .int .i64 125, .int .i64 63, .int .i64 91, .int .i64 94, .int .i64 98, .int .i64 45, .int .i64 99, .int .i64 92, .int .i64 100, .int .i64 93] 3) = u := ⟨_, rfl⟩
  have HW1 := Lib.hid hw1
  have B1 : Hid (Below w.heap.size w w1) := Lib.hid (hw1 ▸ below_alloc w _)
  have L1 : Hid (Lies w1 w1.heap.size (some ⟨w.heap.size, 0, none⟩) (ints .i64 aliveP1)) := Lib.hid (hw1 ▸ Lies.litUp _)
  have C1 := Lib.hid (tkof_any w1 15 _ aliveP1 L1.out (by decide))
  rw [alive_of1] at C1
  clear hw1
  go_enter Try.func7, Try.ntmps7
  go_wp2_with fail
  rw [HW1.out]
  refine C1.out.mono ?_
  rintro e w2 ⟨⟨tv, rfl, o2⟩, b2⟩
  obtain ⟨g, cp, rfl, -, -, hgl, -⟩ := o2.block (by decide)
  have O2 := Lib.hid o2
  have B2 := Lib.hid (below_then B1.out b2)
  clear o2 b2
  go_wp2_with fail
  obtain ⟨w3, hw3⟩ : ∃ u, w2.alloc (.cells #[.int .i64 97, .int .i64 123, .int .i64 51, .int .i64 44, .int .i64 50, .int .i64 125] 3) = u := ⟨_, rfl⟩
  have C3 := Lib.hid (tkof_any w3 6 (some ⟨w2.heap.size, 0, none⟩) [97, 123, 51, 44, 50, 125] (hw3 ▸ Lies.litUp (w := w2) (e := 3) #[.int .i64 97, .int .i64 123, .int .i64 51, .int .i64 44, .int .i64 50, .int .i64 125]) (by decide))
  rw [alive_of2] at C3
  have B3 : Hid (Below w2.heap.size w2 w3) := Lib.hid (hw3 ▸ below_alloc w2 _)
  rw [hw3]
  clear hw3
  refine C3.out.mono ?_
  rintro e w4 ⟨rfl, b4⟩
  have B4 : Hid (Below w2.heap.size w2 w4) := Lib.hid (below_then B3.out b4)
  clear b4
  go_wp2_with fail
  obtain ⟨w5, hw5⟩ : ∃ u, w4.alloc (.cells #[.int .i64 91, .int .i64 122, .int .i64 45, .int .i64 97, .int .i64 93] 3) = u := ⟨_, rfl⟩
  have C5 := Lib.hid (tkof_any w5 5 (some ⟨w4.heap.size, 0, none⟩) [91, 122, 45, 97, 93] (hw5 ▸ Lies.litUp (w := w4) (e := 3) #[.int .i64 91, .int .i64 122, .int .i64 45, .int .i64 97, .int .i64 93]) (by decide))
  rw [alive_of3] at C5
  have B5 : Hid (Below w2.heap.size w2 w5) := Lib.hid (below_then B4.out (hw5 ▸ below_alloc w4 _))
  rw [hw5]
  clear hw5
  refine C5.out.mono ?_
  rintro e w6 ⟨rfl, b6⟩
  have B6 : Hid (Below w2.heap.size w2 w6) := Lib.hid (below_then B5.out b6)
  have O6 := Lib.hid (O2.out.below B6.out (Nat.le_refl _))
  obtain ⟨a0, a1, a2, a3, a4⟩ := tok_cells_at O6.out rfl (k := 1) (by decide)
  obtain ⟨e0, -, -, -, -⟩ := tok_cells_at O6.out rfl (k := 2) (by decide)
  obtain ⟨-, f1, -, -, -⟩ := tok_cells_at O6.out rfl (k := 3) (by decide)
  obtain ⟨g0, g1, g2, g3, g4⟩ := tok_cells_at O6.out rfl (k := 4) (by decide)
  obtain ⟨h0, -, -, -, -⟩ := tok_cells_at O6.out rfl (k := 5) (by decide)
  simp only [aliveT1, List.getElem_cons_succ, List.getElem_cons_zero, Nat.reduceMul, Nat.reduceAdd] at a0 a1 a2 a3 a4 e0 f1 g0 g1 g2 g3 g4 h0
  have heq1 := fun u => eq_tok ⟨6, 0, 2, 3, 1⟩ u
  have heq2 := fun u => eq_tok ⟨9, 0, 98, 99, 9⟩ u
  clear b6
  go_wp2_with fail
  refine (tkquote_any _ _ [97, 46] 2 (Lies.litUp (w := w6) (e := 3) #[.int .i64 97, .int .i64 46]) (by decide)).mono ?_
  rintro e w7 ⟨v7, rfl, o7, b7⟩
  rw [alive_quote] at o7
  obtain ⟨A7, c7, rfl, l7, -, -⟩ := o7.form
  have L7 := Lib.hid l7
  have B7 : Hid (Below w2.heap.size w2 w7) := Lib.hid (below_then (below_then B6.out (below_alloc w6 _)) b7)
  clear o7 l7 b7
  go_wp2_with fail
  refine (ints_ok _ _ [97, 92, 46] _ 3 _ (L7.out.up (below_alloc w7 _)) (Lies.litUp (w := w7) (e := 3) #[.int .i64 97, .int .i64 92, .int .i64 46]) (by decide)).mono ?_
  rintro e w8 ⟨rfl, b8⟩
  have B8 : Hid (Below w2.heap.size w2 w8) := Lib.hid (below_then (below_then B7.out (below_alloc w7 _)) b8)
  clear b8
  go_wp2_with fail
  refine (tksign_any 45 w8).mono ?_
  rintro e wq ⟨rfl, rfl⟩
  rw [show signI 45 = true from rfl]
  go_wp2_with fail
  go_ret
  exact ⟨rfl, below_then B2.out B8.out⟩
end Go.Proofs.Ytpllklikjnndcaa
