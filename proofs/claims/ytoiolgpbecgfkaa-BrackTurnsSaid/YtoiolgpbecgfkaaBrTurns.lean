/- BrackTurns: for every three lists of numbers, every level and direction, the classes behind all pairs are the document's, and what was handed in stays. Conditions: none. -/
import Derived.Test.YtoiolgpbecgfkaaBrV
import Derived.Test.YtoiolgpbecgfkaaLawC
import Derived.Test.YtoiolgpbecgfkaaRows
namespace Go.Proofs.Ytoiolgpbecgfkaa.lawTurns
open Go.ChangeShapes Go.WideShapes Go.ChangeAt Go.RowKit

set_option maxRecDepth 20000 in
set_option maxHeartbeats 8000000 in
theorem walk_ok (w : World) (A : Option Addr) (chars : List Int) (c : Nat) (A' : Option Addr) (classes : List Int) (c' : Nat) (A2 : Option Addr) (first : List Int) (c2 : Nat) (hl : chars.length ≤ 200) (hl' : classes.length ≤ 200) (hl2 : first.length ≤ 200)
    (h : Lies w w.heap.size A (ints .i64 chars)) (h' : Lies w w.heap.size A' (ints .i64 classes)) (h2 : Lies w w.heap.size A2 (ints .i64 first)) (level sos : Int) :
    Calls Try.prog 4 #[.agg #[.slice A chars.length c, .slice A' classes.length c', .slice A2 first.length c2], .int .i64 level, .int .i64 sos] w fun e w' => e = .returned (.bool true) ∧ Below w.heap.size w w' := by
  obtain ⟨w0, hw0⟩ : ∃ u, w.alloc (.cells #[.slice A chars.length c, .slice A' classes.length c', .slice A2 first.length c2] 33) = u := ⟨_, rfl⟩
  obtain ⟨q, hq⟩ : ∃ q, w.heap.size = q := ⟨_, rfl⟩
  have B0 : Hid (Below w.heap.size w w0) := Lib.hid (hw0 ▸ below_alloc w _)
  have BX : Hid (∀ u, Below w0.heap.size w0 u → u.cell? ⟨q, 0, none⟩ = some (.slice A chars.length c) ∧ u.cell? ⟨q, 1, none⟩ = some (.slice A' classes.length c') ∧ u.cell? ⟨q, 2, none⟩ = some (.slice A2 first.length c2)) := by
    subst hw0 hq
    exact Lib.hid fun u hu => ⟨boxed hu rfl, boxed hu rfl, boxed hu rfl⟩
  have H := Lib.hid (h.up B0.out)
  have H' := Lib.hid (h'.up B0.out)
  have H2 := Lib.hid (h2.up B0.out)
  obtain ⟨R, hR⟩ : ∃ x, ofB chars classes first level sos = x := ⟨_, rfl⟩
  have HR := Lib.hid hR
  have HRL : Hid (R.length ≤ 1000) := Lib.hid (by rw [← hR, (ofB_keeps chars classes first level sos).1]; omega)
  clear h h' h2 hR
  go_enter Try.func4, Try.ntmps4
  go_wp2_with fail
  clear hw0 hq
  refine (balive_any w0).mono ?_
  rintro e w1 ⟨rfl, b1⟩
  have B1 := Lib.hid b1
  have G := Lib.hid (H.out.up b1)
  have G' := Lib.hid (H'.out.up b1)
  have G2 := Lib.hid (H2.out.up b1)
  obtain ⟨x0, x1, x2⟩ := BX.out w1 b1
  obtain ⟨x0a, x1a, x2a⟩ := BX.out (w1.alloc (.cells #[] 3)) (b1.trans ((below_alloc w1 _).mono b1.size))
  clear b1
  go_wp2_with (first
    | (at_builtin; refine app_src intsT w1 (w1.alloc (.cells #[] 3)) w1.heap.size w1.heap.size _ _ _ [] (ints .i64 classes) A' classes.length c' rfl rfl rfl rfl (by simp) (Own.ofLit #[] (Nat.le_refl _) (by decide)) (G'.out.alloc (Nat.le_refl _) _) (ints_one _ _) (below_alloc _ _) (by simp) (by unfold maxLen; simp; omega) (by simp; omega) ?_; intro v2 w2 o2 b2 _ _; have O2 := Lib.hid (show Own w2 w1.heap.size 3 v2 (ints .i64 classes) by simpa using o2); have D2 := Lib.hid b2; clear o2 b2)
    | fail)
  clear x0 x1 x2 x0a x1a x2a
  obtain ⟨A3, c3, hv2, l3, -, -⟩ := O2.out.form
  rw [ints, List.length_map] at hv2
  subst hv2
  have L3 := Lib.hid l3
  have B2 := Lib.hid (below_then B1.out D2.out)
  have KA := Lib.hid (G.out.up D2.out)
  have KB := Lib.hid (G'.out.up D2.out)
  have KC := Lib.hid (G2.out.up D2.out)
  clear l3 O2
  refine wp_region_E (S := fun w' => w'.cell? ⟨q, 0, none⟩ = some (.slice A chars.length c) ∧ w'.cell? ⟨q, 1, none⟩ = some (.slice A' classes.length c') ∧ w'.cell? ⟨q, 2, none⟩ = some (.slice A2 first.length c2)) [] (by kernel_rfl) (BX.out w2.drew (by exact below_same B2.out rfl rfl rfl rfl)) (fun hHeld hClosed => ?_)
  refine' wpAnyE_take (i := 0) (v := _) rfl (by kernel_rfl) (by kernel_rfl) (by kernel_rfl) (by kernel_rfl) (fun _ _ _ h => h) (Or.inl ⟨by rfl, fun u hu => ?_⟩) hHeld hClosed (fun hNext => ?_)
  rotate_left
  · (try dsimp only at hu)
    go_simp
    try with_reducible rfl
  clear hClosed
  have hClosed := hNext
  clear hNext
  try simp only [Act.put, List.getElem_toArray, List.getElem_cons_zero, List.setIfInBounds_toArray, List.set_cons_zero, List.set_cons_succ]
  refine' wpAnyE_take (i := 1) (v := _) rfl (by kernel_rfl) (by kernel_rfl) (by kernel_rfl) (by kernel_rfl) (fun _ _ _ h => h) (Or.inl ⟨by rfl, fun u hu => ?_⟩) hHeld hClosed (fun hNext => ?_)
  rotate_left
  · (try dsimp only at hu)
    go_simp
    try with_reducible rfl
  clear hClosed
  have hClosed := hNext
  clear hNext
  try simp only [Act.put, List.getElem_toArray, List.getElem_cons_zero, List.getElem_cons_succ, List.setIfInBounds_toArray, List.set_cons_zero, List.set_cons_succ]
  refine' wpAnyE_take (i := 2) (v := _) rfl (by kernel_rfl) (by kernel_rfl) (by kernel_rfl) (by kernel_rfl) (fun _ _ _ h => h) (Or.inl ⟨by rfl, fun u hu => ?_⟩) hHeld hClosed (fun hNext => ?_)
  rotate_left
  · (try dsimp only at hu)
    go_simp
    try with_reducible rfl
  clear hClosed
  have hClosed := hNext
  clear hNext
  try simp only [Act.put, List.getElem_toArray, List.getElem_cons_zero, List.getElem_cons_succ, List.setIfInBounds_toArray, List.set_cons_zero, List.set_cons_succ]
  refine' wpAnyE_take (i := 3) (v := _) rfl (by kernel_rfl) (by kernel_rfl) (by kernel_rfl) (by kernel_rfl) (fun _ _ _ h => h) (Or.inl ⟨by rfl, fun u hu => ?_⟩) hHeld hClosed (fun hNext => ?_)
  rotate_left
  · (try dsimp only at hu)
    go_simp
    try with_reducible rfl
  clear hClosed
  have hClosed := hNext
  clear hNext
  try simp only [Act.put, List.getElem_toArray, List.getElem_cons_zero, List.getElem_cons_succ, List.setIfInBounds_toArray, List.set_cons_zero, List.set_cons_succ]
  refine' wpAnyE_take (i := 4) (v := _) rfl (by kernel_rfl) (by kernel_rfl) (by kernel_rfl) (by kernel_rfl) (fun _ _ _ h => h) (Or.inl ⟨by rfl, fun u hu => ?_⟩) hHeld hClosed (fun hNext => ?_)
  rotate_left
  · (try dsimp only at hu)
    go_simp
    try with_reducible rfl
  clear hClosed
  have hClosed := hNext
  clear hNext
  try simp only [Act.put, List.getElem_toArray, List.getElem_cons_zero, List.getElem_cons_succ, List.setIfInBounds_toArray, List.set_cons_zero, List.set_cons_succ]
  refine' wpAnyE_take (i := 5) (v := _) rfl (by kernel_rfl) (by kernel_rfl) (by kernel_rfl) (by kernel_rfl) (fun _ _ _ h => h) (Or.inl ⟨by rfl, fun u hu => ?_⟩) hHeld hClosed (fun hNext => ?_)
  rotate_left
  · (try dsimp only at hu)
    go_simp
    try with_reducible rfl
  clear hClosed
  have hClosed := hNext
  clear hNext
  try simp only [Act.put, List.getElem_toArray, List.getElem_cons_zero, List.getElem_cons_succ, List.setIfInBounds_toArray, List.set_cons_zero, List.set_cons_succ]
  refine' wpAnyE_take (i := 6) (v := _) rfl (by kernel_rfl) (by kernel_rfl) (by kernel_rfl) (by kernel_rfl) (fun _ _ _ h => h) (Or.inl ⟨by rfl, fun u hu => ?_⟩) hHeld hClosed (fun hNext => ?_)
  rotate_left
  · (try dsimp only at hu)
    go_simp
    try with_reducible rfl
  clear hClosed
  have hClosed := hNext
  clear hNext
  try simp only [Act.put, List.getElem_toArray, List.getElem_cons_zero, List.getElem_cons_succ, List.setIfInBounds_toArray, List.set_cons_zero, List.set_cons_succ]
  refine' wpAnyE_take (i := 8) (v := _) rfl (by kernel_rfl) (by kernel_rfl) (by kernel_rfl) (by kernel_rfl) (fun _ _ _ h => h) (Or.inl ⟨by rfl, fun u hu => ?_⟩) hHeld hClosed (fun hNext => ?_)
  rotate_left
  · (try dsimp only at hu)
    go_simp
    try with_reducible rfl
  clear hClosed
  have hClosed := hNext
  clear hNext
  try simp only [Act.put, List.getElem_toArray, List.getElem_cons_zero, List.getElem_cons_succ, List.setIfInBounds_toArray, List.set_cons_zero, List.set_cons_succ]
  refine' wpAnyE_take (i := 9) (v := _) rfl (by kernel_rfl) (by kernel_rfl) (by kernel_rfl) (by kernel_rfl) (fun _ _ _ h => h) (Or.inl ⟨by rfl, fun u hu => ?_⟩) hHeld hClosed (fun hNext => ?_)
  rotate_left
  · (try dsimp only at hu)
    go_simp
    try with_reducible rfl
  clear hClosed
  have hClosed := hNext
  clear hNext
  try simp only [Act.put, List.getElem_toArray, List.getElem_cons_zero, List.getElem_cons_succ, List.setIfInBounds_toArray, List.set_cons_zero, List.set_cons_succ]
  refine' wpAnyE_take (i := 10) (v := _) rfl (by kernel_rfl) (by kernel_rfl) (by kernel_rfl) (by kernel_rfl) (fun _ _ _ h => h) (Or.inl ⟨by rfl, fun u hu => ?_⟩) hHeld hClosed (fun hNext => ?_)
  rotate_left
  · (try dsimp only at hu)
    go_simp
    try with_reducible rfl
  clear hClosed
  have hClosed := hNext
  clear hNext
  try simp only [Act.put, List.getElem_toArray, List.getElem_cons_zero, List.getElem_cons_succ, List.setIfInBounds_toArray, List.set_cons_zero, List.set_cons_succ]
  refine' wpAnyE_take (i := 11) (v := _) rfl (by kernel_rfl) (by kernel_rfl) (by kernel_rfl) (by kernel_rfl) (fun _ _ _ h => h) (Or.inl ⟨by rfl, fun u hu => ?_⟩) hHeld hClosed (fun hNext => ?_)
  rotate_left
  · (try dsimp only at hu)
    go_simp
    try with_reducible rfl
  clear hClosed
  have hClosed := hNext
  clear hNext
  try simp only [Act.put, List.getElem_toArray, List.getElem_cons_zero, List.getElem_cons_succ, List.setIfInBounds_toArray, List.set_cons_zero, List.set_cons_succ]
  refine' wpAnyE_take (i := 12) (v := _) rfl (by kernel_rfl) (by kernel_rfl) (by kernel_rfl) (by kernel_rfl) (fun _ _ _ h => h) (Or.inl ⟨by rfl, fun u hu => ?_⟩) hHeld hClosed (fun hNext => ?_)
  rotate_left
  · (try dsimp only at hu)
    go_simp
    try with_reducible rfl
  clear hClosed
  have hClosed := hNext
  clear hNext
  try simp only [Act.put, List.getElem_toArray, List.getElem_cons_zero, List.getElem_cons_succ, List.setIfInBounds_toArray, List.set_cons_zero, List.set_cons_succ]
  refine' wpAnyE_take (i := 13) (v := _) rfl (by kernel_rfl) (by kernel_rfl) (by kernel_rfl) (by kernel_rfl) (fun _ _ _ h => h) (Or.inl ⟨by rfl, fun u hu => ?_⟩) hHeld hClosed (fun hNext => ?_)
  rotate_left
  · (try dsimp only at hu)
    go_simp
    try with_reducible rfl
  clear hClosed
  have hClosed := hNext
  clear hNext
  try simp only [Act.put, List.getElem_toArray, List.getElem_cons_zero, List.getElem_cons_succ, List.setIfInBounds_toArray, List.set_cons_zero, List.set_cons_succ]
  refine' wpAnyE_take (i := 14) (v := _) rfl (by kernel_rfl) (by kernel_rfl) (by kernel_rfl) (by kernel_rfl) (fun _ _ _ h => h) (Or.inl ⟨by rfl, fun u hu => ?_⟩) hHeld hClosed (fun hNext => ?_)
  rotate_left
  · (try dsimp only at hu)
    go_simp
    try with_reducible rfl
  clear hClosed
  have hClosed := hNext
  clear hNext
  try simp only [Act.put, List.getElem_toArray, List.getElem_cons_zero, List.getElem_cons_succ, List.setIfInBounds_toArray, List.set_cons_zero, List.set_cons_succ]
  refine' wpAnyE_take (i := 15) (v := _) rfl (by kernel_rfl) (by kernel_rfl) (by kernel_rfl) (by kernel_rfl) (fun _ _ _ h => h) (Or.inl ⟨by rfl, fun u hu => ?_⟩) hHeld hClosed (fun hNext => ?_)
  rotate_left
  · (try dsimp only at hu)
    go_simp
    try with_reducible rfl
  clear hClosed
  have hClosed := hNext
  clear hNext
  try simp only [Act.put, List.getElem_toArray, List.getElem_cons_zero, List.getElem_cons_succ, List.setIfInBounds_toArray, List.set_cons_zero, List.set_cons_succ]
  have DD : Hid (Below w2.heap.size w2 w2.drew) := Lib.hid (by exact below_same (Below.refl _ _) rfl rfl rfl rfl)
  refine wpAnyE_ready (rs := [7]) (by kernel_rfl) (by simp) ?_
  refine AllReadyE.cons rfl (fun K hK => ?_) AllReadyE.nil
  all_goals simp only [List.getElem_toArray, List.getElem_cons_zero, List.getElem_cons_succ]
  all_goals go_simp
  refine (bof_any A chars c A3 classes c3 A2 first c2 level sos _ (KA.out.up DD.out) (L3.out.up DD.out) (KC.out.up DD.out) (by omega) (by omega) (by omega)).mono ?_
  rintro e w4 ⟨v4, rfl, o4, b4⟩
  rw [HR.out] at o4
  obtain ⟨A4, c4, rfl, l4, -, -⟩ := o4.form
  have D4 := Lib.hid (show Below w2.heap.size w2 w4 from ⟨b4.os, b4.tape, b4.output, b4.size, b4.block⟩)
  have B4 := Lib.hid (below_then B2.out D4.out)
  have L4 := Lib.hid l4
  clear o4 b4 l4
  simp only [ints, List.length_map]
  refine hK.out _ _ (fun _ => BX.out w4 B4.out) (fun hHeld => ?_) (fun hX => (by first | cases hX | simp at hX))
  replace hClosed := hClosed.step 7 (by kernel_rfl)
  clear hK K
  try simp only [Act.put, List.getElem_toArray, List.getElem_cons_zero, List.getElem_cons_succ, List.setIfInBounds_toArray, List.set_cons_zero, List.set_cons_succ]
  refine wpAnyE_ready (rs := [16]) (by kernel_rfl) (by simp) ?_
  refine AllReadyE.cons rfl (fun K hK => ?_) AllReadyE.nil
  all_goals simp only [List.getElem_toArray, List.getElem_cons_zero, List.getElem_cons_succ]
  all_goals go_simp
  refine (rof10_all A chars c A' classes c' A2 first c2 level sos w4 (KA.out.up D4.out) (KB.out.up D4.out) (KC.out.up D4.out) (by omega) (by omega)).mono ?_
  rintro e w5 ⟨v5, rfl, o5, b5⟩
  rw [HR.out] at o5
  obtain ⟨A5, c5, rfl, l5, -, -⟩ := o5.form
  have B5 := Lib.hid (below_then B4.out b5)
  have D5 := Lib.hid (below_then D4.out b5)
  have L5 := Lib.hid l5
  have L45 := Lib.hid (L4.out.up b5)
  clear o5 b5 l5
  simp only [ints, List.length_map]
  refine hK.out _ _ (fun _ => BX.out w5 B5.out) (fun hHeld => ?_) (fun hX => (by first | cases hX | simp at hX))
  replace hClosed := hClosed.step 16 (by kernel_rfl)
  clear hK K
  try simp only [Act.put, List.getElem_toArray, List.getElem_cons_zero, List.getElem_cons_succ, List.setIfInBounds_toArray, List.set_cons_zero, List.set_cons_succ]
  refine wpAnyE_ready (rs := [17]) (by kernel_rfl) (by simp) ?_
  refine AllReadyE.cons rfl (fun K hK => ?_) AllReadyE.nil
  all_goals simp only [List.getElem_toArray, List.getElem_cons_zero, List.getElem_cons_succ]
  all_goals go_simp
  refine (ints_ok A4 A5 R c4 c5 w5 L45.out L5.out (by have := HRL.out; omega)).mono ?_
  rintro e w6 ⟨rfl, b6⟩
  have B6 := Lib.hid (below_then B5.out b6)
  have D6 := Lib.hid (below_then D5.out b6)
  clear b6
  refine hK.out _ _ (fun _ => BX.out w6 B6.out) (fun hHeld => ?_) (fun hX => (by first | cases hX | simp at hX))
  replace hClosed := hClosed.step 17 (by kernel_rfl)
  clear hK K
  try simp only [Act.put, List.getElem_toArray, List.getElem_cons_zero, List.getElem_cons_succ, List.setIfInBounds_toArray, List.set_cons_zero, List.set_cons_succ]
  refine' wpAnyE_take (i := 18) (v := _) rfl (by kernel_rfl) (by kernel_rfl) (by kernel_rfl) (by kernel_rfl) (fun _ _ _ h => h) (Or.inl ⟨by rfl, fun u hu => ?_⟩) hHeld hClosed (fun hNext => ?_)
  rotate_left
  · (try dsimp only at hu)
    go_simp
    try with_reducible rfl
  clear hClosed
  have hClosed := hNext
  clear hNext
  try simp only [Act.put, List.getElem_toArray, List.getElem_cons_zero, List.getElem_cons_succ, List.setIfInBounds_toArray, List.set_cons_zero, List.set_cons_succ]
  refine' wpAnyE_take (i := 19) (v := _) rfl (by kernel_rfl) (by kernel_rfl) (by kernel_rfl) (by kernel_rfl) (fun _ _ _ h => h) (Or.inl ⟨by rfl, fun u hu => ?_⟩) hHeld hClosed (fun hNext => ?_)
  rotate_left
  · (try dsimp only at hu)
    go_simp
    try with_reducible rfl
  clear hClosed
  have hClosed := hNext
  clear hNext
  try simp only [Act.put, List.getElem_toArray, List.getElem_cons_zero, List.getElem_cons_succ, List.setIfInBounds_toArray, List.set_cons_zero, List.set_cons_succ]
  refine' wpAnyE_take (i := 20) (v := _) rfl (by kernel_rfl) (by kernel_rfl) (by kernel_rfl) (by kernel_rfl) (fun _ _ _ h => h) (Or.inl ⟨by rfl, fun u hu => ?_⟩) hHeld hClosed (fun hNext => ?_)
  rotate_left
  · (try dsimp only at hu)
    go_simp
    try with_reducible rfl
  clear hClosed
  have hClosed := hNext
  clear hNext
  try simp only [Act.put, List.getElem_toArray, List.getElem_cons_zero, List.getElem_cons_succ, List.setIfInBounds_toArray, List.set_cons_zero, List.set_cons_succ]
  refine' wpAnyE_take (i := 21) (v := _) rfl (by kernel_rfl) (by kernel_rfl) (by kernel_rfl) (by kernel_rfl) (fun _ _ _ h => h) (Or.inl ⟨by rfl, fun u hu => ?_⟩) hHeld hClosed (fun hNext => ?_)
  rotate_left
  · (try dsimp only at hu)
    go_simp
    try with_reducible rfl
  clear hClosed
  have hClosed := hNext
  clear hNext
  try simp only [Act.put, List.getElem_toArray, List.getElem_cons_zero, List.getElem_cons_succ, List.setIfInBounds_toArray, List.set_cons_zero, List.set_cons_succ]
  refine wpAnyE_ready (rs := [22]) (by kernel_rfl) (by simp) ?_
  refine AllReadyE.cons rfl (fun K hK => ?_) AllReadyE.nil
  all_goals simp only [List.getElem_toArray, List.getElem_cons_zero, List.getElem_cons_succ]
  all_goals go_simp
  refine (ints_ok A3 A' classes c3 c' w6 (L3.out.up D6.out) (KB.out.up D6.out) (by omega)).mono ?_
  rintro e w7 ⟨rfl, b7⟩
  have B7 := Lib.hid (below_then B6.out b7)
  clear b7
  refine hK.out _ _ (fun _ => BX.out w7 B7.out) (fun hHeld => ?_) (fun hX => (by first | cases hX | simp at hX))
  replace hClosed := hClosed.step 22 (by kernel_rfl)
  clear hK K
  try simp only [Act.put, List.getElem_toArray, List.getElem_cons_zero, List.getElem_cons_succ, List.setIfInBounds_toArray, List.set_cons_zero, List.set_cons_succ]
  refine' wpAnyE_take (i := 23) (v := _) rfl (by kernel_rfl) (by kernel_rfl) (by kernel_rfl) (by kernel_rfl) (fun _ _ _ h => h) (Or.inl ⟨by rfl, fun u hu => ?_⟩) hHeld hClosed (fun hNext => ?_)
  rotate_left
  · (try dsimp only at hu)
    go_simp
    try with_reducible rfl
  clear hClosed
  have hClosed := hNext
  clear hNext
  try simp only [Act.put, List.getElem_toArray, List.getElem_cons_zero, List.getElem_cons_succ, List.setIfInBounds_toArray, List.set_cons_zero, List.set_cons_succ]
  refine' wpAnyE_take (i := 24) (v := _) rfl (by kernel_rfl) (by kernel_rfl) (by kernel_rfl) (by kernel_rfl) (fun _ _ _ h => h) (Or.inl ⟨by rfl, fun u hu => ?_⟩) hHeld hClosed (fun hNext => ?_)
  rotate_left
  · (try dsimp only at hu)
    go_simp
    try with_reducible rfl
  clear hClosed
  have hClosed := hNext
  clear hNext
  try simp only [Act.put, List.getElem_toArray, List.getElem_cons_zero, List.getElem_cons_succ, List.setIfInBounds_toArray, List.set_cons_zero, List.set_cons_succ]
  refine wpAnyE_done (by kernel_rfl) ?_ _
  clear hClosed
  go_wp2_with fail
  go_ret
  exact ⟨rfl, by exact below_same (B0.out.trans (B7.out.mono B0.out.size)) rfl rfl rfl rfl⟩

set_option maxHeartbeats 1000000 in
theorem walk_long (w : World) (A : Option Addr) (n : Nat) (c : Nat) (A' : Option Addr) (m c' : Nat) (A2 : Option Addr) (k c2 : Nat) (hl : n ≤ 9223372036854775807) (hl' : m ≤ 9223372036854775807) (hl2 : k ≤ 9223372036854775807) (hh : 200 < n ∨ 200 < m ∨ 200 < k) (level sos : Int) :
    Calls Try.prog 4 #[.agg #[.slice A n c, .slice A' m c', .slice A2 k c2], .int .i64 level, .int .i64 sos] w fun e w' => e = .returned (.bool true) ∧ Below w.heap.size w w' := by
  have BX : Hid (∀ u, Below (w.alloc (.cells #[.slice A n c, .slice A' m c', .slice A2 k c2] 33)).heap.size (w.alloc (.cells #[.slice A n c, .slice A' m c', .slice A2 k c2] 33)) u → u.cell? ⟨w.heap.size, 0, none⟩ = some (.slice A n c) ∧ u.cell? ⟨w.heap.size, 1, none⟩ = some (.slice A' m c') ∧ u.cell? ⟨w.heap.size, 2, none⟩ = some (.slice A2 k c2)) :=
    Lib.hid fun u hu => ⟨boxed hu rfl, boxed hu rfl, boxed hu rfl⟩
  have B0 : Hid (Below w.heap.size w (w.alloc (.cells #[.slice A n c, .slice A' m c', .slice A2 k c2] 33))) := Lib.hid (below_alloc w _)
  by_cases h1 : 200 < n
  · clear hh
    go_enter Try.func4, Try.ntmps4
    go_wp2_with fail
    refine (balive_any _).mono ?_
    rintro e w1 ⟨rfl, b1⟩
    have B1 := Lib.hid b1
    have D1 := Lib.hid b1
    clear b1
    obtain ⟨x0, x1, x2⟩ := BX.out w1 B1.out
    go_wp2
    go_ret
    exact ⟨rfl, below_then B0.out B1.out⟩
  · by_cases h3 : 200 < m
    · clear hh
      go_enter Try.func4, Try.ntmps4
      go_wp2_with fail
      refine (balive_any _).mono ?_
      rintro e w1 ⟨rfl, b1⟩
      have B1 := Lib.hid b1
      have D1 := Lib.hid b1
      clear b1
      obtain ⟨x0, x1, x2⟩ := BX.out w1 B1.out
      go_wp2
      go_ret
      exact ⟨rfl, below_then B0.out B1.out⟩
    · have h4 : 200 < k := by omega
      clear hh
      go_enter Try.func4, Try.ntmps4
      go_wp2_with fail
      refine (balive_any _).mono ?_
      rintro e w1 ⟨rfl, b1⟩
      have B1 := Lib.hid b1
      have D1 := Lib.hid b1
      clear b1
      obtain ⟨x0, x1, x2⟩ := BX.out w1 B1.out
      go_wp2
      go_ret
      exact ⟨rfl, below_then B0.out B1.out⟩

theorem walk (w : World) (A : Option Addr) (l : List Int) (c : Nat) (A' : Option Addr) (m : List Int) (c' : Nat) (A2 : Option Addr) (k : List Int) (c2 : Nat) (h : l.length ≤ c ∧ c ≤ maxLen ∧ Lies w w.heap.size A (ints .i64 l)) (h' : m.length ≤ c' ∧ c' ≤ maxLen ∧ Lies w w.heap.size A' (ints .i64 m)) (h2 : k.length ≤ c2 ∧ c2 ≤ maxLen ∧ Lies w w.heap.size A2 (ints .i64 k))
    (level : Int) (_ : (Lit.int .i64 level).wf = true) (sos : Int) (_ : (Lit.int .i64 sos).wf = true) :
    Calls Try.prog 4 #[.agg #[.slice A l.length c, .slice A' m.length c', .slice A2 k.length c2], .int .i64 level, .int .i64 sos] w fun e w' => e = .returned (.bool true) ∧ Below w.heap.size w w' := by
  unfold maxLen at h h' h2
  by_cases hh : 200 < l.length ∨ 200 < m.length ∨ 200 < k.length
  · exact walk_long w A _ c A' _ c' A2 _ c2 (by omega) (by omega) (by omega) hh level sos
  · exact walk_ok w A l c A' m c' A2 k c2 (by omega) (by omega) (by omega) h.2.2 h'.2.2 h2.2.2 level sos
-- WRAP
theorem spec : LawSpec Rows.brackTurnsSpec 3 := ⟨rfl, fun H ds h => by
  match ds, h with
  | [d0, d1, d2], _ => rfl⟩
theorem params_ok : ∀ t ∈ Try.f4.params.toList, Try.prog.readableRec t = true ∧ t < Try.prog.types.size := by
  rw [Try.params4]
  intro t ht
  simp only [List.mem_cons, List.mem_nil_iff, or_false] at ht
  rcases ht with rfl | rfl | rfl
  all_goals exact ⟨by kernel_rfl, of_decide_eq_true (by kernel_rfl)⟩

theorem contract (H : Type) (enc : TypeId × Value → H) (W : World) (base : Nat) (args : Array Value) (ds gs : List (DataW H)) (before : List MemPlace)
    (hval : ∀ (j : Nat) t v, Try.f4.params[j]? = some t → args[j]? = some v → Value.okWide Try.prog W .any base t v)
    (hW : DataW.Whole enc Try.prog Try.f4.params.toList Rows.brackTurnsSpec.vars false W args.toList ds gs before) :
    Calls Try.prog 4 args W fun e W' => ∃ v, e = .returned v ∧ Rows.brackTurnsSpec.post enc Try.prog Try.f4 false true false false W args v W' := by
  have hW' := hW
  obtain ⟨p, q, hA0, hV, rfl, hfz, hnd⟩ := hW
  have hA : DataW.TrodAll enc Try.prog W 0 (fun _ => true) true Try.f4.params.toList args.toList ds p := hA0
  rw [Try.params4] at hA hval
  obtain ⟨v0, vs0, d0, ds0, p0, q0, hargs, rfl, rfl, h0, r0⟩ := trodAll_cons hA
  obtain ⟨v1, vs1, d1, ds1, p1, q1, rfl, rfl, rfl, h1, r1⟩ := trodAll_cons r0
  obtain ⟨v2, vs2, d2, ds2, p2, q2, rfl, rfl, rfl, h2, r2⟩ := trodAll_cons r1
  obtain ⟨rfl, rfl, rfl⟩ := trodAll_nil r2
  obtain rfl : args = #[v0, v1, v2] := by cases args; simp_all
  obtain ⟨A0, l0, c0, A0', l0', c0', A0q, l0q, c0q, rfl, t0, t0', t0q⟩ := open_lists3 Try.underlying33 (by kernel_rfl) (by kernel_rfl) Try.underlying22 Try.underlying22 Try.underlying22 Try.underlying3 (by kernel_rfl) (hval 0 33 v0 rfl rfl) h0
  obtain ⟨a1, rfl, rfl, rfl, w1⟩ := open_int Try.underlying3 (hval 1 3 v1 rfl rfl) h1
  obtain ⟨a2, rfl, rfl, rfl, w2⟩ := open_int Try.underlying3 (hval 2 3 v2 rfl rfl) h2
  exact (walk W A0 l0 c0 A0' l0' c0' A0q l0q c0q t0 t0' t0q a1 w1 a2 w2).mono fun e W' ⟨he, hg⟩ => ⟨_, he, law_post spec (by rw [Try.params4]; rfl) (by kernel_rfl) params_ok (by kernel_rfl) Try.underlying4 hW' hg⟩

theorem own : ownKnob Try.prog.godebug = none := by kernel_rfl
set_option maxRecDepth 100000 in
theorem lifted (os : Os) (started : os.Started) (H : Type) (enc : TypeId × Value → H) :
    ReturnsInHanded {} Try.checked os 4 .any (Rows.brackTurnsSpec.pre6 enc Try.prog Try.f4 Rows.brackTurnsRow.domain false) (Rows.brackTurnsSpec.post enc Try.prog Try.f4 false true false false) := by
  refine returnsInHanded_of_change (C := Try.checked) own started (by kernel_rfl) Try.func4
    (ChangeSpec.witness6 (enc := enc) (C := Try.checked) false ⟨#[], #[.agg #[.slice none 0 0, .slice none 0 0, .slice none 0 0], .int .i64 0, .int .i64 0], []⟩ 8 (by kernel_rfl) (by kernel_rfl) (by kernel_rfl) (by kernel_rfl)) ?_
  intro W base args ds gs before hval hW _ _
  exact contract H enc W base args ds gs before hval hW
theorem said : Rows.BrackTurnsSaid :=
  OpenClaim.holds_of_wide 4 Try.f4 rfl rfl rfl rfl rfl rfl rfl ⟨rfl, rfl, rfl, rfl, rfl⟩ rfl rfl rfl rfl rfl (by kernel_rfl) Try.func4 (by kernel_rfl)
    (of_decide_eq_true (by kernel_rfl)) (by unfold Func.isWrapper; first | (rw [if_pos (by decide +kernel)]; kernel_rfl) | (rw [if_neg (by decide +kernel)]; exact ⟨rfl, rfl⟩))
    (fun os started H enc _ => lifted os started H enc)
end Go.Proofs.Ytoiolgpbecgfkaa.lawTurns
