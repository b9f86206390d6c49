/- BrackAnswers: for every two lists of numbers and every three numbers, the pairs of brackets, the sides that there are, and each one's side are the document's. Conditions: none. -/
import Derived.Test.YtoiolgpbecgfkaaBrV
import Derived.Test.YtoiolgpbecgfkaaLaw
import Derived.Test.YtoiolgpbecgfkaaRows
namespace Go.Proofs.Ytoiolgpbecgfkaa.lawAnswers
open Go.ChangeShapes Go.WideShapes Go.ChangeAt Go.RowKit

set_option maxRecDepth 20000 in
set_option maxHeartbeats 8000000 in
theorem walk_ok (w : World) (A : Option Addr) (chars : List Int) (c : Nat) (hl : chars.length ≤ 300) (h : Lies w w.heap.size A (ints .i64 chars)) (A' : Option Addr) (classes : List Int) (c' : Nat) (hl' : classes.length ≤ 300) (h' : Lies w w.heap.size A' (ints .i64 classes))
    (x y z : Int) (hx : -9223372036854775808 ≤ x ∧ x ≤ 9223372036854775807) (hy : -9223372036854775808 ≤ y ∧ y ≤ 9223372036854775807) :
    Calls Try.prog 3 #[.slice A chars.length c, .slice A' classes.length c', .agg #[.int .i64 x, .int .i64 y, .int .i64 z]] w fun e w' => e = .returned (.bool true) ∧ Below w.heap.size w w' := by
  obtain ⟨w0, hw0⟩ : ∃ u, w.alloc (.cells #[.int .i64 x, .int .i64 y, .int .i64 z] 23) = u := ⟨_, rfl⟩
  obtain ⟨q, hq⟩ : ∃ q, w.heap.size = q := ⟨_, rfl⟩
  have B0 : Hid (Below w.heap.size w w0) := Lib.hid (hw0 ▸ below_alloc w _)
  have BX : Hid (∀ u, Below w0.heap.size w0 u → u.cell? ⟨q, 0, none⟩ = some (.int .i64 x) ∧ u.cell? ⟨q, 1, none⟩ = some (.int .i64 y) ∧ u.cell? ⟨q, 2, none⟩ = some (.int .i64 z)) := by
    subst hw0 hq
    exact Lib.hid fun u hu => ⟨boxed hu rfl, boxed hu rfl, boxed hu rfl⟩
  have H := Lib.hid (h.up B0.out)
  have H' := Lib.hid (h'.up B0.out)
  obtain ⟨P, hP⟩ : ∃ P, pairsI chars classes = P := ⟨_, rfl⟩
  have HP := Lib.hid hP
  have HPL : Hid (P.length ≤ 1000000) := Lib.hid (by
    rw [← hP, pairsI]
    split
    · exact Nat.le_trans (pairs_le chars classes chars.length).1 (by omega)
    · simp)
  clear h h' hP
  go_enter Try.func3, Try.ntmps3
  go_wp2_with fail
  clear hw0
  have hq' := Lib.hid hq
  clear hq
  refine (balive_any w0).mono ?_
  rintro e w1 ⟨rfl, b1⟩
  have B1 := Lib.hid b1
  have H1 := Lib.hid (H.out.up b1)
  have H1' := Lib.hid (H'.out.up b1)
  obtain ⟨x0, x1, x2⟩ := BX.out w1 b1
  clear b1
  go_wp2_with fail
  clear x0 x1 x2
  refine (bsides_any A' classes c' x y w1 H1'.out (by omega) hx hy).mono ?_
  rintro e w2 ⟨rfl, b2⟩
  obtain ⟨lf, hlf⟩ : ∃ z, hasL classes x y = z := ⟨_, rfl⟩
  obtain ⟨rt, hrt⟩ : ∃ z, hasR classes x y = z := ⟨_, rfl⟩
  have HLR := Lib.hid (And.intro hlf hrt)
  rw [hlf, hrt]
  have B2 := Lib.hid (below_then B1.out b2)
  have H2 := Lib.hid (H1.out.up b2)
  have H2' := Lib.hid (H1'.out.up b2)
  obtain ⟨x0, x1, x2⟩ := BX.out w2 B2.out
  clear b2 hlf hrt
  go_wp2_with fail
  clear x0 x1 x2
  refine (rsides10_any A' classes c' x y w2 H2'.out (by omega) hx).mono ?_
  rintro e wq ⟨rfl, rfl⟩
  rw [HLR.out.1, HLR.out.2]
  obtain ⟨sz, hsz⟩ : ∃ u, sdB z = u := ⟨_, rfl⟩
  have HSZ := Lib.hid hsz
  clear hsz
  go_wp2_with fail
  refine wp_region_E (S := fun w' => w'.cell? ⟨q, 2, none⟩ = some (.int .i64 z)) [] (by kernel_rfl) ((BX.out w2.drew (by exact below_same B2.out rfl rfl rfl rfl)).2.2) (fun hHeld hClosed => ?_)
  refine' wpAnyE_take (i := 0) (v := _) rfl (by kernel_rfl) (by kernel_rfl) (by kernel_rfl) (by kernel_rfl) (fun _ _ _ h => h) (Or.inl ⟨by rfl, fun u hu => ?_⟩) hHeld hClosed (fun hNext => ?_)
  rotate_left
  · (try dsimp only at hu)
    go_simp
    try with_reducible rfl
  clear hClosed
  have hClosed := hNext
  clear hNext
  try simp only [Act.put, List.getElem_toArray, List.getElem_cons_zero, List.setIfInBounds_toArray, List.set_cons_zero, List.set_cons_succ]
  refine' wpAnyE_take (i := 1) (v := _) rfl (by kernel_rfl) (by kernel_rfl) (by kernel_rfl) (by kernel_rfl) (fun _ _ _ h => h) (Or.inl ⟨by rfl, fun u hu => ?_⟩) hHeld hClosed (fun hNext => ?_)
  rotate_left
  · (try dsimp only at hu)
    go_simp
    try with_reducible rfl
  clear hClosed
  have hClosed := hNext
  clear hNext
  try simp only [Act.put, List.getElem_toArray, List.getElem_cons_zero, List.getElem_cons_succ, List.setIfInBounds_toArray, List.set_cons_zero, List.set_cons_succ]
  refine' wpAnyE_take (i := 3) (v := _) rfl (by kernel_rfl) (by kernel_rfl) (by kernel_rfl) (by kernel_rfl) (fun _ _ _ h => h) (Or.inl ⟨by rfl, fun u hu => ?_⟩) hHeld hClosed (fun hNext => ?_)
  rotate_left
  · (try dsimp only at hu)
    go_simp
    try with_reducible rfl
  clear hClosed
  have hClosed := hNext
  clear hNext
  try simp only [Act.put, List.getElem_toArray, List.getElem_cons_zero, List.getElem_cons_succ, List.setIfInBounds_toArray, List.set_cons_zero, List.set_cons_succ]
  refine' wpAnyE_take (i := 4) (v := _) rfl (by kernel_rfl) (by kernel_rfl) (by kernel_rfl) (by kernel_rfl) (fun _ _ _ h => h) (Or.inl ⟨by rfl, fun u hu => ?_⟩) hHeld hClosed (fun hNext => ?_)
  rotate_left
  · (try dsimp only at hu)
    go_simp
    try with_reducible rfl
  clear hClosed
  have hClosed := hNext
  clear hNext
  try simp only [Act.put, List.getElem_toArray, List.getElem_cons_zero, List.getElem_cons_succ, List.setIfInBounds_toArray, List.set_cons_zero, List.set_cons_succ]
  refine wpAnyE_ready (rs := [2]) (by kernel_rfl) (by simp) ?_
  refine AllReadyE.cons rfl (fun K hK => ?_) AllReadyE.nil
  all_goals simp only [List.getElem_toArray, List.getElem_cons_zero, List.getElem_cons_succ]
  all_goals go_simp
  refine (bpairs_any A chars c A' classes c' _ (H2.out.up (by exact below_same (Below.refl _ _) rfl rfl rfl rfl)) (H2'.out.up (by exact below_same (Below.refl _ _) rfl rfl rfl rfl)) (by omega) (by omega)).mono ?_
  rintro e w3 ⟨A3, c3, rfl, l3, b3⟩
  rw [HP.out] at l3 ⊢
  have D3 := Lib.hid (show Below w2.heap.size w2 w3 from ⟨b3.os, b3.tape, b3.output, b3.size, b3.block⟩)
  have B3 := Lib.hid (below_then B2.out D3.out)
  have L3 := Lib.hid l3
  clear l3 b3
  refine hK.out _ _ (fun _ => (BX.out w3 B3.out).2.2) (fun hHeld => ?_) (fun hX => (by first | cases hX | simp at hX))
  replace hClosed := hClosed.step 2 (by kernel_rfl)
  clear hK K
  try simp only [Act.put, List.getElem_toArray, List.getElem_cons_zero, List.getElem_cons_succ, List.setIfInBounds_toArray, List.set_cons_zero, List.set_cons_succ]
  refine wpAnyE_ready (rs := [5]) (by kernel_rfl) (by simp) ?_
  refine AllReadyE.cons rfl (fun K hK => ?_) AllReadyE.nil
  all_goals simp only [List.getElem_toArray, List.getElem_cons_zero, List.getElem_cons_succ]
  all_goals go_simp
  refine (rpairs_all A chars c A' classes c' w3 (H2.out.up D3.out) (H2'.out.up D3.out) (by omega)).mono ?_
  rintro e w4 ⟨A4, c4, rfl, l4, b4⟩
  rw [HP.out] at l4 ⊢
  have B4 := Lib.hid (below_then B3.out b4)
  have L4 := Lib.hid l4
  have L34 := Lib.hid (L3.out.up b4)
  clear l4 b4
  refine hK.out _ _ (fun _ => (BX.out w4 B4.out).2.2) (fun hHeld => ?_) (fun hX => (by first | cases hX | simp at hX))
  replace hClosed := hClosed.step 5 (by kernel_rfl)
  clear hK K
  try simp only [Act.put, List.getElem_toArray, List.getElem_cons_zero, List.getElem_cons_succ, List.setIfInBounds_toArray, List.set_cons_zero, List.set_cons_succ]
  refine wpAnyE_ready (rs := [6]) (by kernel_rfl) (by simp) ?_
  refine AllReadyE.cons rfl (fun K hK => ?_) AllReadyE.nil
  all_goals simp only [List.getElem_toArray, List.getElem_cons_zero, List.getElem_cons_succ]
  all_goals go_simp
  refine (rsame10_any A3 c3 P A4 c4 w4 L34.out L4.out HPL.out).mono ?_
  rintro e w5 ⟨rfl, b5⟩
  have B5 := Lib.hid (below_then B4.out b5)
  clear b5
  refine hK.out _ _ (fun _ => (BX.out w5 B5.out).2.2) (fun hHeld => ?_) (fun hX => (by first | cases hX | simp at hX))
  replace hClosed := hClosed.step 6 (by kernel_rfl)
  clear hK K
  try simp only [Act.put, List.getElem_toArray, List.getElem_cons_zero, List.getElem_cons_succ, List.setIfInBounds_toArray, List.set_cons_zero, List.set_cons_succ]
  refine' wpAnyE_take (i := 7) (v := _) rfl (by kernel_rfl) (by kernel_rfl) (by kernel_rfl) (by kernel_rfl) (fun _ _ _ h => h) (Or.inl ⟨by rfl, fun u hu => ?_⟩) hHeld hClosed (fun hNext => ?_)
  rotate_left
  · (try dsimp only at hu)
    go_simp
    try with_reducible rfl
  clear hClosed
  have hClosed := hNext
  clear hNext
  try simp only [Act.put, List.getElem_toArray, List.getElem_cons_zero, List.getElem_cons_succ, List.setIfInBounds_toArray, List.set_cons_zero, List.set_cons_succ]
  refine' wpAnyE_take (i := 8) (v := _) rfl (by kernel_rfl) (by kernel_rfl) (by kernel_rfl) (by kernel_rfl) (fun _ _ _ h => h) (Or.inl ⟨by rfl, fun u hu => ?_⟩) hHeld hClosed (fun hNext => ?_)
  rotate_left
  · (try dsimp only at hu)
    go_simp
    try with_reducible rfl
  clear hClosed
  have hClosed := hNext
  clear hNext
  try simp only [Act.put, List.getElem_toArray, List.getElem_cons_zero, List.getElem_cons_succ, List.setIfInBounds_toArray, List.set_cons_zero, List.set_cons_succ]
  refine' wpAnyE_take (i := 9) (v := _) rfl (by kernel_rfl) (by kernel_rfl) (by kernel_rfl) (by kernel_rfl) (fun _ _ _ h => h) (Or.inl ⟨by rfl, fun u hu => ?_⟩) hHeld hClosed (fun hNext => ?_)
  rotate_left
  · (try dsimp only at hu)
    go_simp
    try with_reducible rfl
  clear hClosed
  have hClosed := hNext
  clear hNext
  try simp only [Act.put, List.getElem_toArray, List.getElem_cons_zero, List.getElem_cons_succ, List.setIfInBounds_toArray, List.set_cons_zero, List.set_cons_succ]
  refine' wpAnyE_take (i := 10) (v := _) rfl (by kernel_rfl) (by kernel_rfl) (by kernel_rfl) (by kernel_rfl) (fun _ _ _ h => h) (Or.inl ⟨by rfl, fun u hu => ?_⟩) hHeld hClosed (fun hNext => ?_)
  rotate_left
  · (try dsimp only at hu)
    go_simp
    try with_reducible rfl
  clear hClosed
  have hClosed := hNext
  clear hNext
  try simp only [Act.put, List.getElem_toArray, List.getElem_cons_zero, List.getElem_cons_succ, List.setIfInBounds_toArray, List.set_cons_zero, List.set_cons_succ]
  refine' wpAnyE_take (i := 11) (v := _) rfl (by kernel_rfl) (by kernel_rfl) (by kernel_rfl) (by kernel_rfl) (fun _ _ _ h => h) (Or.inl ⟨by rfl, fun u hu => ?_⟩) hHeld hClosed (fun hNext => ?_)
  rotate_left
  · (try dsimp only at hu)
    go_simp
    try with_reducible rfl
  clear hClosed
  have hClosed := hNext
  clear hNext
  try simp only [Act.put, List.getElem_toArray, List.getElem_cons_zero, List.getElem_cons_succ, List.setIfInBounds_toArray, List.set_cons_zero, List.set_cons_succ]
  refine' wpAnyE_take (i := 12) (v := _) rfl (by kernel_rfl) (by kernel_rfl) (by kernel_rfl) (by kernel_rfl) (fun _ _ _ h => h) (Or.inl ⟨by rfl, fun u hu => ?_⟩) hHeld hClosed (fun hNext => ?_)
  rotate_left
  · (try dsimp only at hu)
    go_simp
    try with_reducible rfl
  clear hClosed
  have hClosed := hNext
  clear hNext
  try simp only [Act.put, List.getElem_toArray, List.getElem_cons_zero, List.getElem_cons_succ, List.setIfInBounds_toArray, List.set_cons_zero, List.set_cons_succ]
  refine' wpAnyE_take (i := 13) (v := _) rfl (by kernel_rfl) (by kernel_rfl) (by kernel_rfl) (by kernel_rfl) (fun _ _ _ h => h) (Or.inl ⟨by rfl, fun u hu => ?_⟩) hHeld hClosed (fun hNext => ?_)
  rotate_left
  · (try dsimp only at hu)
    go_simp
    try with_reducible rfl
  clear hClosed
  have hClosed := hNext
  clear hNext
  try simp only [Act.put, List.getElem_toArray, List.getElem_cons_zero, List.getElem_cons_succ, List.setIfInBounds_toArray, List.set_cons_zero, List.set_cons_succ]
  refine' wpAnyE_take (i := 14) (v := _) rfl (by kernel_rfl) (by kernel_rfl) (by kernel_rfl) (by kernel_rfl) (fun _ _ _ h => h) (Or.inl ⟨by rfl, fun u hu => ?_⟩) hHeld hClosed (fun hNext => ?_)
  rotate_left
  · (try dsimp only at hu)
    go_simp
    try with_reducible rfl
  clear hClosed
  have hClosed := hNext
  clear hNext
  try simp only [Act.put, List.getElem_toArray, List.getElem_cons_zero, List.getElem_cons_succ, List.setIfInBounds_toArray, List.set_cons_zero, List.set_cons_succ]
  refine' wpAnyE_take (i := 15) (v := _) rfl (by kernel_rfl) (by kernel_rfl) (by kernel_rfl) (by kernel_rfl) (fun _ _ _ h => h) (Or.inl ⟨by rfl, fun u hu => ?_⟩) hHeld hClosed (fun hNext => ?_)
  rotate_left
  · (try dsimp only at hu)
    go_simp
    try with_reducible rfl
  clear hClosed
  have hClosed := hNext
  clear hNext
  try simp only [Act.put, List.getElem_toArray, List.getElem_cons_zero, List.getElem_cons_succ, List.setIfInBounds_toArray, List.set_cons_zero, List.set_cons_succ]
  refine' wpAnyE_take (i := 16) (v := _) rfl (by kernel_rfl) (by kernel_rfl) (by kernel_rfl) (by kernel_rfl) (fun _ _ _ h => h) (Or.inl ⟨by rfl, fun u hu => ?_⟩) hHeld hClosed (fun hNext => ?_)
  rotate_left
  · (try dsimp only at hu)
    go_simp
    try with_reducible rfl
  clear hClosed
  have hClosed := hNext
  clear hNext
  try simp only [Act.put, List.getElem_toArray, List.getElem_cons_zero, List.getElem_cons_succ, List.setIfInBounds_toArray, List.set_cons_zero, List.set_cons_succ]
  refine' wpAnyE_take (i := 17) (v := _) rfl (by kernel_rfl) (by kernel_rfl) (by kernel_rfl) (by kernel_rfl) (fun _ _ _ h => h) (Or.inl ⟨by rfl, fun u hu => ?_⟩) hHeld hClosed (fun hNext => ?_)
  rotate_left
  · (try dsimp only at hu)
    go_simp
    try with_reducible rfl
  clear hClosed
  have hClosed := hNext
  clear hNext
  try simp only [Act.put, List.getElem_toArray, List.getElem_cons_zero, List.getElem_cons_succ, List.setIfInBounds_toArray, List.set_cons_zero, List.set_cons_succ]
  refine' wpAnyE_take (i := 18) (v := _) rfl (by kernel_rfl) (by kernel_rfl) (by kernel_rfl) (by kernel_rfl) (fun _ _ _ h => h) (Or.inl ⟨by rfl, fun u hu => ?_⟩) hHeld hClosed (fun hNext => ?_)
  rotate_left
  · (try dsimp only at hu)
    go_simp
    try with_reducible rfl
  clear hClosed
  have hClosed := hNext
  clear hNext
  try simp only [Act.put, List.getElem_toArray, List.getElem_cons_zero, List.getElem_cons_succ, List.setIfInBounds_toArray, List.set_cons_zero, List.set_cons_succ]
  refine' wpAnyE_take (i := 19) (v := _) rfl (by kernel_rfl) (by kernel_rfl) (by kernel_rfl) (by kernel_rfl) (fun _ _ _ h => h) (Or.inl ⟨by rfl, fun u hu => ?_⟩) hHeld hClosed (fun hNext => ?_)
  rotate_left
  · (try dsimp only at hu)
    go_simp
    try with_reducible rfl
  clear hClosed
  have hClosed := hNext
  clear hNext
  try simp only [Act.put, List.getElem_toArray, List.getElem_cons_zero, List.getElem_cons_succ, List.setIfInBounds_toArray, List.set_cons_zero, List.set_cons_succ]
  refine' wpAnyE_take (i := 21) (v := _) rfl (by kernel_rfl) (by kernel_rfl) (by kernel_rfl) (by kernel_rfl) (fun _ _ _ h => h) (Or.inl ⟨by rfl, fun u hu => ?_⟩) hHeld hClosed (fun hNext => ?_)
  rotate_left
  · (try dsimp only at hu)
    go_simp
    try with_reducible rfl
  clear hClosed
  have hClosed := hNext
  clear hNext
  try simp only [Act.put, List.getElem_toArray, List.getElem_cons_zero, List.getElem_cons_succ, List.setIfInBounds_toArray, List.set_cons_zero, List.set_cons_succ]
  refine' wpAnyE_take (i := 22) (v := _) rfl (by kernel_rfl) (by kernel_rfl) (by kernel_rfl) (by kernel_rfl) (fun _ _ _ h => h) (Or.inl ⟨by rfl, fun u hu => ?_⟩) hHeld hClosed (fun hNext => ?_)
  rotate_left
  · (try dsimp only at hu)
    go_simp
    try with_reducible rfl
  clear hClosed
  have hClosed := hNext
  clear hNext
  try simp only [Act.put, List.getElem_toArray, List.getElem_cons_zero, List.getElem_cons_succ, List.setIfInBounds_toArray, List.set_cons_zero, List.set_cons_succ]
  refine wpAnyE_ready (rs := [20]) (by kernel_rfl) (by simp) ?_
  refine AllReadyE.cons rfl (fun K hK => ?_) AllReadyE.nil
  all_goals simp only [List.getElem_toArray, List.getElem_cons_zero, List.getElem_cons_succ]
  all_goals go_simp
  refine (bside_any z w5).mono ?_
  rintro e w6 ⟨rfl, b6⟩
  rw [HSZ.out]
  have B6 := Lib.hid (below_then B5.out b6)
  clear b6
  refine hK.out _ _ (fun _ => (BX.out w6 B6.out).2.2) (fun hHeld => ?_) (fun hX => (by first | cases hX | simp at hX))
  replace hClosed := hClosed.step 20 (by kernel_rfl)
  clear hK K
  try simp only [Act.put, List.getElem_toArray, List.getElem_cons_zero, List.getElem_cons_succ, List.setIfInBounds_toArray, List.set_cons_zero, List.set_cons_succ]
  refine wpAnyE_ready (rs := [23]) (by kernel_rfl) (by simp) ?_
  refine AllReadyE.cons rfl (fun K hK => ?_) AllReadyE.nil
  all_goals simp only [List.getElem_toArray, List.getElem_cons_zero, List.getElem_cons_succ]
  all_goals go_simp
  refine (rside10_any z w6).mono ?_
  rintro e wq ⟨rfl, rfl⟩
  rw [HSZ.out]
  refine hK.out _ _ (fun _ => (BX.out _ B6.out).2.2) (fun hHeld => ?_) (fun hX => (by first | cases hX | simp at hX))
  replace hClosed := hClosed.step 23 (by kernel_rfl)
  clear hK K
  try simp only [Act.put, List.getElem_toArray, List.getElem_cons_zero, List.getElem_cons_succ, List.setIfInBounds_toArray, List.set_cons_zero, List.set_cons_succ]
  refine' wpAnyE_take (i := 24) (v := _) rfl (by kernel_rfl) (by kernel_rfl) (by kernel_rfl) (by kernel_rfl) (fun _ _ _ h => h) (Or.inl ⟨by rfl, fun u hu => ?_⟩) hHeld hClosed (fun hNext => ?_)
  rotate_left
  · (try dsimp only at hu)
    go_simp
    try with_reducible rfl
  clear hClosed
  have hClosed := hNext
  clear hNext
  try simp only [Act.put, List.getElem_toArray, List.getElem_cons_zero, List.getElem_cons_succ, List.setIfInBounds_toArray, List.set_cons_zero, List.set_cons_succ]
  refine' wpAnyE_take (i := 25) (v := _) rfl (by kernel_rfl) (by kernel_rfl) (by kernel_rfl) (by kernel_rfl) (fun _ _ _ h => h) (Or.inl ⟨by rfl, fun u hu => ?_⟩) hHeld hClosed (fun hNext => ?_)
  rotate_left
  · (try dsimp only at hu)
    go_simp
    try with_reducible rfl
  clear hClosed
  have hClosed := hNext
  clear hNext
  try simp only [Act.put, List.getElem_toArray, List.getElem_cons_zero, List.getElem_cons_succ, List.setIfInBounds_toArray, List.set_cons_zero, List.set_cons_succ]
  refine' wpAnyE_take (i := 26) (v := _) rfl (by kernel_rfl) (by kernel_rfl) (by kernel_rfl) (by kernel_rfl) (fun _ _ _ h => h) (Or.inl ⟨by rfl, fun u hu => ?_⟩) hHeld hClosed (fun hNext => ?_)
  rotate_left
  · (try dsimp only at hu)
    go_simp
    try with_reducible rfl
  clear hClosed
  have hClosed := hNext
  clear hNext
  try simp only [Act.put, List.getElem_toArray, List.getElem_cons_zero, List.getElem_cons_succ, List.setIfInBounds_toArray, List.set_cons_zero, List.set_cons_succ]
  refine wpAnyE_done (by kernel_rfl) ?_ _
  clear hClosed
  go_wp2_with fail
  go_ret
  exact ⟨rfl, by exact below_same (B0.out.trans (B6.out.mono B0.out.size)) rfl rfl rfl rfl⟩

set_option maxHeartbeats 1000000 in
theorem walk_long (w : World) (A : Option Addr) (n : Nat) (c : Nat) (A' : Option Addr) (m c' : Nat) (hl : n ≤ 9223372036854775807) (hl' : m ≤ 9223372036854775807) (hh : 300 < n ∨ 300 < m) (x y z : Int) :
    Calls Try.prog 3 #[.slice A n c, .slice A' m c', .agg #[.int .i64 x, .int .i64 y, .int .i64 z]] w fun e w' => e = .returned (.bool true) ∧ Below w.heap.size w w' := by
  have B0 : Hid (Below w.heap.size w (w.alloc (.cells #[.int .i64 x, .int .i64 y, .int .i64 z] 23))) := Lib.hid (below_alloc w _)
  by_cases h1 : 300 < n
  · clear hh
    go_enter Try.func3, Try.ntmps3
    go_wp2_with fail
    refine (balive_any _).mono ?_
    rintro e w1 ⟨rfl, b1⟩
    have B1 := Lib.hid b1
    have D1 := Lib.hid b1
    clear b1
    go_wp2
    go_ret
    exact ⟨rfl, below_then B0.out B1.out⟩
  · have h2 : 300 < m := by omega
    clear hh
    go_enter Try.func3, Try.ntmps3
    go_wp2_with fail
    refine (balive_any _).mono ?_
    rintro e w1 ⟨rfl, b1⟩
    have B1 := Lib.hid b1
    have D1 := Lib.hid b1
    clear b1
    go_wp2
    go_ret
    exact ⟨rfl, below_then B0.out B1.out⟩

theorem walk (w : World) (A : Option Addr) (l : List Int) (c : Nat) (hc : l.length ≤ c) (hm : c ≤ maxLen) (h : Lies w w.heap.size A (ints .i64 l)) (_ : ∀ n ∈ l, (Lit.int .i64 n).wf = true)
    (A' : Option Addr) (m : List Int) (c' : Nat) (hc' : m.length ≤ c') (hm' : c' ≤ maxLen) (h' : Lies w w.heap.size A' (ints .i64 m)) (_ : ∀ n ∈ m, (Lit.int .i64 n).wf = true)
    (x y z : Int) (hx : (Lit.int .i64 x).wf = true) (hy : (Lit.int .i64 y).wf = true) (_ : (Lit.int .i64 z).wf = true) :
    Calls Try.prog 3 #[.slice A l.length c, .slice A' m.length c', .agg #[.int .i64 x, .int .i64 y, .int .i64 z]] w fun e w' => e = .returned (.bool true) ∧ Below w.heap.size w w' := by
  unfold maxLen at hm hm'
  by_cases hh : 300 < l.length ∨ 300 < m.length
  · exact walk_long w A _ c A' _ c' (by omega) (by omega) hh x y z
  · exact walk_ok w A l c (by omega) h A' m c' (by omega) h' x y z (bounds_i64 hx) (bounds_i64 hy)
-- WRAP
theorem spec : LawSpec Rows.brackAnswersSpec 3 := ⟨rfl, fun H ds h => by
  match ds, h with
  | [d0, d1, d2], _ => rfl⟩
theorem params_ok : ∀ t ∈ Try.f3.params.toList, Try.prog.readableRec t = true ∧ t < Try.prog.types.size := by
  rw [Try.params3]
  intro t ht
  simp only [List.mem_cons, List.mem_nil_iff, or_false] at ht
  rcases ht with rfl | rfl | rfl
  all_goals exact ⟨by kernel_rfl, of_decide_eq_true (by kernel_rfl)⟩

theorem contract (H : Type) (enc : TypeId × Value → H) (W : World) (base : Nat) (args : Array Value) (ds gs : List (DataW H)) (before : List MemPlace)
    (hval : ∀ (j : Nat) t v, Try.f3.params[j]? = some t → args[j]? = some v → Value.okWide Try.prog W .any base t v)
    (hW : DataW.Whole enc Try.prog Try.f3.params.toList Rows.brackAnswersSpec.vars false W args.toList ds gs before) :
    Calls Try.prog 3 args W fun e W' => ∃ v, e = .returned v ∧ Rows.brackAnswersSpec.post enc Try.prog Try.f3 false true false false W args v W' := by
  have hW' := hW
  obtain ⟨p, q, hA0, hV, rfl, hfz, hnd⟩ := hW
  have hA : DataW.TrodAll enc Try.prog W 0 (fun _ => true) true Try.f3.params.toList args.toList ds p := hA0
  rw [Try.params3] at hA hval
  obtain ⟨v0, vs0, d0, ds0, p0, q0, hargs, rfl, rfl, h0, r0⟩ := trodAll_cons hA
  obtain ⟨v1, vs1, d1, ds1, p1, q1, rfl, rfl, rfl, h1, r1⟩ := trodAll_cons r0
  obtain ⟨v2, vs2, d2, ds2, p2, q2, rfl, rfl, rfl, h2, r2⟩ := trodAll_cons r1
  obtain ⟨rfl, rfl, rfl⟩ := trodAll_nil r2
  obtain rfl : args = #[v0, v1, v2] := by cases args; simp_all
  obtain ⟨A0, l0, c0, rfl, hc0, hm0, hl0, wf0⟩ := open_list Try.underlying22 Try.underlying3 (by kernel_rfl) (hval 0 22 v0 rfl rfl) h0
  obtain ⟨A1, l1, c1, rfl, hc1, hm1, hl1, wf1⟩ := open_list Try.underlying22 Try.underlying3 (by kernel_rfl) (hval 1 22 v1 rfl rfl) h1
  obtain ⟨n2, rfl, hn2, wf2⟩ := open_nums Try.underlying23 Try.underlying3 (by kernel_rfl) (by kernel_rfl) (hval 2 23 v2 rfl rfl) h2
  rcases n2 with _ | ⟨x2_0, n2⟩
  · simp at hn2
  rcases n2 with _ | ⟨x2_1, n2⟩
  · simp at hn2
  rcases n2 with _ | ⟨x2_2, n2⟩
  · simp at hn2
  obtain rfl : n2 = [] := List.eq_nil_of_length_eq_zero (by simpa using hn2)
  exact (walk W A0 l0 c0 hc0 hm0 hl0 wf0 A1 l1 c1 hc1 hm1 hl1 wf1 x2_0 x2_1 x2_2 (wf2 _ (by simp)) (wf2 _ (by simp)) (wf2 _ (by simp))).mono fun e W' ⟨he, hg⟩ => ⟨_, he, law_post spec (by rw [Try.params3]; rfl) (by kernel_rfl) params_ok (by kernel_rfl) Try.underlying4 hW' hg⟩

theorem own : ownKnob Try.prog.godebug = none := by kernel_rfl
set_option maxRecDepth 100000 in
theorem lifted (os : Os) (started : os.Started) (H : Type) (enc : TypeId × Value → H) :
    ReturnsInHanded {} Try.checked os 3 .any (Rows.brackAnswersSpec.pre6 enc Try.prog Try.f3 Rows.brackAnswersRow.domain false) (Rows.brackAnswersSpec.post enc Try.prog Try.f3 false true false false) := by
  refine returnsInHanded_of_change (C := Try.checked) own started (by kernel_rfl) Try.func3
    (ChangeSpec.witness6 (enc := enc) (C := Try.checked) false ⟨#[], #[.slice none 0 0, .slice none 0 0, .agg #[.int .i64 0, .int .i64 0, .int .i64 0]], []⟩ 8 (by kernel_rfl) (by kernel_rfl) (by kernel_rfl) (by kernel_rfl)) ?_
  intro W base args ds gs before hval hW _ _
  exact contract H enc W base args ds gs before hval hW
theorem said : Rows.BrackAnswersSaid :=
  OpenClaim.holds_of_wide 3 Try.f3 rfl rfl rfl rfl rfl rfl rfl ⟨rfl, rfl, rfl, rfl, rfl⟩ rfl rfl rfl rfl rfl (by kernel_rfl) Try.func3 (by kernel_rfl)
    (of_decide_eq_true (by kernel_rfl)) (by unfold Func.isWrapper; first | (rw [if_pos (by decide +kernel)]; kernel_rfl) | (rw [if_neg (by decide +kernel)]; exact ⟨rfl, rfl⟩))
    (fun os started H enc _ => lifted os started H enc)
end Go.Proofs.Ytoiolgpbecgfkaa.lawAnswers
