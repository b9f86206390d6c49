/- Layer 6: the document's pop, start, put. -/
import Derived.Test.YtajgjloailliiaaExB
namespace Go.Proofs.Ytajgjloailliiaa
open Go.RowKit

section
variable {w w' : World} {B g : Nat} {x x' : X6} {lsl sv lv cv : Value}
theorem IsX.far (h : IsX w B g x lsl sv lv cv) : sv.ownBlock ≠ some g ∧ lv.ownBlock ≠ some g ∧ cv.ownBlock ≠ some g := by
  have key : ∀ {e' : TypeId} {s m : Nat} {u : Value} {xs : List Value}, OwnN w B e' s u m xs → e' ≠ 56 → u.ownBlock ≠ some g := fun ho he e1 => by
    rcases ho.unlike h.row he with h2 | h2
    · rw [h2] at e1; cases e1
    · exact h2 e1
  exact ⟨key h.stack (by decide), key h.levels (by decide), key h.classes (by decide)⟩
/-- one field is stored -/
theorem IsX.stored (h : IsX w B g x lsl sv lv cv) {j : Nat} {u : Value} (r : OwnN w' B 56 1 (.slice (some ⟨g, 0, none⟩) 9 9) 9 ((x.cells sv lv cv lsl).set j u)) (hg : w.grownBy w' (some g))
    (hx : x'.cells sv lv cv lsl = (x.cells sv lv cv lsl).set j u) (h1 : x'.st = x.st) (h2 : x'.levels = x.levels) (h3 : x'.classes = x.classes) : IsX w' B g x' lsl sv lv cv := by
  obtain ⟨f1, f2, f3⟩ := h.far
  exact ⟨hx ▸ r, by rw [h1]; exact h.stack.keep hg (.inr f1), by rw [h2]; exact h.levels.keep hg (.inr f2), by rw [h3]; exact h.classes.keep hg (.inr f3), h.apart⟩
theorem IsX.same (h : IsX w B g x lsl sv lv cv) (hh : w'.heap = w.heap) : IsX w' B g x lsl sv lv cv :=
  ⟨h.row.same hh, h.stack.same hh, h.levels.same hh, h.classes.same hh, h.apart⟩
/-- the stack is stored anew -/
theorem IsX.storedStack (h : IsX w B g x lsl sv lv cv) {u : Value} (r : OwnN w' B 56 1 (.slice (some ⟨g, 0, none⟩) 9 9) 9 ((x.cells sv lv cv lsl).set 1 u)) (hg : w.grownBy w' (some g))
    (st : List Ent) (ho : OwnN w B 65 3 u st.length (ents st.reverse)) (hu : u.ownBlock ≠ some g) : IsX w' B g { x with st := st } lsl u lv cv := by
  obtain ⟨_, f2, f3⟩ := h.far
  exact ⟨r, ho.keep hg (.inr hu), h.levels.keep hg (.inr f2), h.classes.keep hg (.inr f3), h.apart⟩
end

set_option maxHeartbeats 1000000 in
theorem pop_any (w : World) (B g : Nat) (x : X6) (lsl sv lv cv : Value) (e : Ent) (st : List Ent) (hst : x.st = e :: st) (h : IsX w B g x lsl sv lv cv) (hsm : x.st.length ≤ 1000000) :
    Calls Try.prog 51 #[.pointer (some ⟨g, 0, none⟩)] w fun ed w' => ed = .returned (.tuple #[]) ∧ (∃ sv', IsX w' B g { x with st := st } lsl sv' lv cv) ∧ Below B w w' := by
  have hin := h.inside
  obtain ⟨n, hn⟩ : ∃ n, st.length = n := ⟨_, rfl⟩
  have hxl : x.st.length = n + 1 := by rw [hst]; simp [hn]
  obtain ⟨A, c, rfl, hnc, hsh⟩ := h.stack.short (j := n) (by omega)
  have f1 := h.far.1
  have h1 := h.field 1 (by omega)
  simp only [X6.cells, List.getElem?_cons_succ, List.getElem?_cons_zero] at h1
  have hsv : OwnN w B 65 3 (.slice A n c) st.length (ents st.reverse) := by
    have hr : (ents x.st.reverse).take (n * 3) = ents st.reverse := by
      rw [hst, List.reverse_cons, ents_append, List.take_left' (by simp [hn])]
    rw [hr] at hsh
    rw [hn]; exact hsh
  obtain ⟨gs, hA⟩ : ∃ gs, A = some ⟨gs, 0, none⟩ := by
    obtain ⟨gs, c', hv, _⟩ := h.stack.block (by omega)
    injection hv with hv
    exact ⟨gs, hv⟩
  subst hA
  rw [hxl] at h1 hnc
  have hw1 : IntKind.i64.wrap (((n + 1 : Nat) : Int) - 1) = (n : Int) := by rw [IntWalk.i64_in _ (by omega)]; omega
  have hw2 : IntKind.i64.wrap (n : Int) = (n : Int) := IntWalk.i64_in _ (by omega)
  have b0 : (0 : Int) ≤ (n : Int) := by omega
  have b1 : (n : Int) ≤ (c : Int) := by omega
  have H := Lib.hid h
  have HS := Lib.hid hsv
  have HX := Lib.hid hxl
  have F1 : Hid ((Value.slice (some ⟨gs, 0, none⟩) n c).ownBlock ≠ some g) := Lib.hid f1
  have hcc : ¬ c = 0 := by omega
  clear h hsv hsh f1 hxl hn hst hsm
  go_enter Try.func51, Try.ntmps51
  go_wp2
  refine wp_region_E (S := fun w' => w'.cell? ⟨g, 1, none⟩ = some (.slice (some ⟨gs, 0, none⟩) (n + 1) c)) [14] (by kernel_rfl) (h1) (fun hHeld hClosed => ?_)
  refine' wpAnyE_take (i := 0) (v := _) rfl (by kernel_rfl) (by kernel_rfl) (by kernel_rfl) (by kernel_rfl) (fun _ _ _ h => h) (Or.inl ⟨by rfl, fun u hu => ?_⟩) hHeld hClosed (fun hNext => ?_)
  rotate_left
  · (try dsimp only at hu)
    go_simp
    try with_reducible rfl
  clear hClosed
  have hClosed := hNext
  clear hNext
  try simp only [Act.put, List.getElem_toArray, List.getElem_cons_zero, List.setIfInBounds_toArray, List.set_cons_zero, List.set_cons_succ]
  refine' wpAnyE_take (i := 1) (v := _) rfl (by kernel_rfl) (by kernel_rfl) (by kernel_rfl) (by kernel_rfl) (fun _ _ _ h => h) (Or.inl ⟨by rfl, fun u hu => ?_⟩) hHeld hClosed (fun hNext => ?_)
  rotate_left
  · (try dsimp only at hu)
    go_simp
    try with_reducible rfl
  clear hClosed
  have hClosed := hNext
  clear hNext
  try simp only [Act.put, List.getElem_toArray, List.getElem_cons_zero, List.getElem_cons_succ, List.setIfInBounds_toArray, List.set_cons_zero, List.set_cons_succ]
  refine' wpAnyE_take (i := 2) (v := _) rfl (by kernel_rfl) (by kernel_rfl) (by kernel_rfl) (by kernel_rfl) (fun _ _ _ h => h) (Or.inl ⟨by rfl, fun u hu => ?_⟩) hHeld hClosed (fun hNext => ?_)
  rotate_left
  · (try dsimp only at hu)
    go_simp
    try with_reducible rfl
  clear hClosed
  have hClosed := hNext
  clear hNext
  try simp only [Act.put, List.getElem_toArray, List.getElem_cons_zero, List.getElem_cons_succ, List.setIfInBounds_toArray, List.set_cons_zero, List.set_cons_succ]
  refine' wpAnyE_take (i := 3) (v := _) rfl (by kernel_rfl) (by kernel_rfl) (by kernel_rfl) (by kernel_rfl) (fun _ _ _ h => h) (Or.inl ⟨by rfl, fun u hu => ?_⟩) hHeld hClosed (fun hNext => ?_)
  rotate_left
  · (try dsimp only at hu)
    go_simp
    try with_reducible rfl
  clear hClosed
  have hClosed := hNext
  clear hNext
  try simp only [Act.put, List.getElem_toArray, List.getElem_cons_zero, List.getElem_cons_succ, List.setIfInBounds_toArray, List.set_cons_zero, List.set_cons_succ]
  refine' wpAnyE_take (i := 4) (v := _) rfl (by kernel_rfl) (by kernel_rfl) (by kernel_rfl) (by kernel_rfl) (fun _ _ _ h => h) (Or.inl ⟨by rfl, fun u hu => ?_⟩) hHeld hClosed (fun hNext => ?_)
  rotate_left
  · (try dsimp only at hu)
    go_simp
    try with_reducible rfl
  clear hClosed
  have hClosed := hNext
  clear hNext
  try simp only [Act.put, List.getElem_toArray, List.getElem_cons_zero, List.getElem_cons_succ, List.setIfInBounds_toArray, List.set_cons_zero, List.set_cons_succ]
  refine' wpAnyE_take (i := 5) (v := _) rfl (by kernel_rfl) (by kernel_rfl) (by kernel_rfl) (by kernel_rfl) (fun _ _ _ h => h) (Or.inl ⟨by rfl, fun u hu => ?_⟩) hHeld hClosed (fun hNext => ?_)
  rotate_left
  · (try dsimp only at hu)
    go_simp
    try with_reducible rfl
  clear hClosed
  have hClosed := hNext
  clear hNext
  try simp only [Act.put, List.getElem_toArray, List.getElem_cons_zero, List.getElem_cons_succ, List.setIfInBounds_toArray, List.set_cons_zero, List.set_cons_succ]
  refine' wpAnyE_take (i := 6) (v := _) rfl (by kernel_rfl) (by kernel_rfl) (by kernel_rfl) (by kernel_rfl) (fun _ _ _ h => h) (Or.inl ⟨by rfl, fun u hu => ?_⟩) hHeld hClosed (fun hNext => ?_)
  rotate_left
  · (try dsimp only at hu)
    go_simp
    try with_reducible rfl
  clear hClosed
  have hClosed := hNext
  clear hNext
  try simp only [Act.put, List.getElem_toArray, List.getElem_cons_zero, List.getElem_cons_succ, List.setIfInBounds_toArray, List.set_cons_zero, List.set_cons_succ]
  refine' wpAnyE_take (i := 7) (v := _) rfl (by kernel_rfl) (by kernel_rfl) (by kernel_rfl) (by kernel_rfl) (fun _ _ _ h => h) (Or.inl ⟨by rfl, fun u hu => ?_⟩) hHeld hClosed (fun hNext => ?_)
  rotate_left
  · (try dsimp only at hu)
    go_simp
    try with_reducible rfl
  clear hClosed
  have hClosed := hNext
  clear hNext
  try simp only [Act.put, List.getElem_toArray, List.getElem_cons_zero, List.getElem_cons_succ, List.setIfInBounds_toArray, List.set_cons_zero, List.set_cons_succ]
  refine' wpAnyE_take (i := 8) (v := _) rfl (by kernel_rfl) (by kernel_rfl) (by kernel_rfl) (by kernel_rfl) (fun _ _ _ h => h) (Or.inl ⟨by rfl, fun u hu => ?_⟩) hHeld hClosed (fun hNext => ?_)
  rotate_left
  · (try dsimp only at hu)
    go_simp
    try with_reducible rfl
  clear hClosed
  have hClosed := hNext
  clear hNext
  try simp only [Act.put, List.getElem_toArray, List.getElem_cons_zero, List.getElem_cons_succ, List.setIfInBounds_toArray, List.set_cons_zero, List.set_cons_succ]
  refine' wpAnyE_take (i := 9) (v := _) rfl (by kernel_rfl) (by kernel_rfl) (by kernel_rfl) (by kernel_rfl) (fun _ _ _ h => h) (Or.inl ⟨by rfl, fun u hu => ?_⟩) hHeld hClosed (fun hNext => ?_)
  rotate_left
  · (try dsimp only at hu)
    go_simp
    try with_reducible rfl
  clear hClosed
  have hClosed := hNext
  clear hNext
  try simp only [Act.put, List.getElem_toArray, List.getElem_cons_zero, List.getElem_cons_succ, List.setIfInBounds_toArray, List.set_cons_zero, List.set_cons_succ]
  refine' wpAnyE_take (i := 10) (v := _) rfl (by kernel_rfl) (by kernel_rfl) (by kernel_rfl) (by kernel_rfl) (fun _ _ _ h => h) (Or.inl ⟨by rfl, fun u hu => ?_⟩) hHeld hClosed (fun hNext => ?_)
  rotate_left
  · (try dsimp only at hu)
    go_simp
    try with_reducible rfl
  clear hClosed
  have hClosed := hNext
  clear hNext
  try simp only [Act.put, List.getElem_toArray, List.getElem_cons_zero, List.getElem_cons_succ, List.setIfInBounds_toArray, List.set_cons_zero, List.set_cons_succ]
  refine' wpAnyE_take (i := 11) (v := _) rfl (by kernel_rfl) (by kernel_rfl) (by kernel_rfl) (by kernel_rfl) (fun _ _ _ h => h) (Or.inl ⟨by rfl, fun u hu => ?_⟩) hHeld hClosed (fun hNext => ?_)
  rotate_left
  · (try dsimp only at hu)
    go_simp
    try with_reducible rfl
  clear hClosed
  have hClosed := hNext
  clear hNext
  try simp only [Act.put, List.getElem_toArray, List.getElem_cons_zero, List.getElem_cons_succ, List.setIfInBounds_toArray, List.set_cons_zero, List.set_cons_succ]
  refine' wpAnyE_take (i := 12) (v := _) rfl (by kernel_rfl) (by kernel_rfl) (by kernel_rfl) (by kernel_rfl) (fun _ _ _ h => h) (Or.inl ⟨by rfl, fun u hu => ?_⟩) hHeld hClosed (fun hNext => ?_)
  rotate_left
  · (try dsimp only at hu)
    go_simp
    try with_reducible rfl
  clear hClosed
  have hClosed := hNext
  clear hNext
  try simp only [Act.put, List.getElem_toArray, List.getElem_cons_zero, List.getElem_cons_succ, List.setIfInBounds_toArray, List.set_cons_zero, List.set_cons_succ]
  refine' wpAnyE_take (i := 13) (v := _) rfl (by kernel_rfl) (by kernel_rfl) (by kernel_rfl) (by kernel_rfl) (fun _ _ _ h => h) (Or.inl ⟨by rfl, fun u hu => ?_⟩) hHeld hClosed (fun hNext => ?_)
  rotate_left
  · (try dsimp only at hu)
    go_simp
    try with_reducible rfl
  clear hClosed
  have hClosed := hNext
  clear hNext
  try simp only [Act.put, List.getElem_toArray, List.getElem_cons_zero, List.getElem_cons_succ, List.setIfInBounds_toArray, List.set_cons_zero, List.set_cons_succ]
  refine wpAnyE_ready (rs := [14]) (by kernel_rfl) (by simp) ?_
  refine AllReadyE.cons rfl (fun K hK => ?_) AllReadyE.nil
  refine step_store w.drew B (.tmp 15) (.tmp 13) g 1 9 (.slice (some ⟨gs, 0, none⟩) n c) _ w.drew rfl rfl rfl (by kernel_rfl) rfl rfl rfl (H.out.row.same rfl) (by simp [X6.cells]) (Below.refl _ _) ?_
  intro w8 r8 b8 g8
  have R8 := Lib.hid r8
  have G8 := Lib.hid g8
  have B8 := Lib.hid b8
  clear r8 g8 b8
  refine (fun hrest => hK.out _ _ (fun hX => (by first | cases hX | simp at hX)) (fun _ => hrest) (fun _ => hrest)) ?_
  replace hClosed := hClosed.step 14 (by kernel_rfl)
  clear hK K
  try simp only [Act.put, List.getElem_toArray, List.getElem_cons_zero, List.getElem_cons_succ, List.setIfInBounds_toArray, List.set_cons_zero, List.set_cons_succ]
  refine wpAnyE_done (by kernel_rfl) ?_ _
  clear hClosed
  go_wp2
  (try simp only [Exit.inBlock, Exit.then])
  refine bodyPost_end (results_none rfl _ _ _) rfl ⟨rfl, ⟨.slice (some ⟨gs, 0, none⟩) n c, ?_⟩, below_then_drew B8.out⟩
  exact (H.out.same (w' := w.drew) rfl).storedStack R8.out G8.out st (HS.out.same rfl) F1.out

def startX (x : X6) : X6 := { x with st := [⟨x.base, -1, false⟩], isos := 0, embeds := 0, valid := 0, most := max x.most 1 }
set_option maxHeartbeats 2000000 in
theorem start_any (w : World) (B g : Nat) (x : X6) (lsl sv lv cv : Value) (h : IsX w B g x lsl sv lv cv) :
    Calls Try.prog 37 #[.pointer (some ⟨g, 0, none⟩)] w fun ed w' => ed = .returned (.tuple #[]) ∧ (∃ sv', IsX w' B g (startX x) lsl sv' lv cv) ∧ Below B w w' := by
  have H := Lib.hid h
  clear h
  go_enter Try.func37, Try.ntmps37
  go_wp2_with (first
    | (refine store_cell w B _ _ g 1 9 (.slice none 0 0) _ w rfl rfl rfl (by kernel_rfl) rfl rfl rfl H.out.row (by simp [X6.cells]) (Below.refl _ _) ?_; intro w1 r1 b1 g1; have X1 := Lib.hid (H.out.storedStack r1 g1 [] (OwnN.empty _ _ _ _) (by simp [Value.ownBlock])); have B1 := Lib.hid b1; have h0 := X1.out.field 0 (by omega); simp only [X6.cells, List.getElem?_cons_zero] at h0; clear r1 b1 g1)
    | fail)
  refine (push_any w1 B g _ lsl _ lv cv ⟨x.base, -1, false⟩ X1.out (by simp)).mono ?_
  rintro ed w2 ⟨rfl, ⟨sv2, x2⟩, b2⟩
  have X2 := Lib.hid x2
  have B2 := Lib.hid (B1.out.trans b2)
  clear x2 b2 h0
  go_wp2_with (first
    | (refine store_cell w2 B _ _ g 2 9 (.int .i64 0) _ w2 rfl rfl rfl (by kernel_rfl) rfl rfl rfl X2.out.row (by simp [X6.cells]) (Below.refl _ _) ?_; intro w3 r3 b3 g3; have X3 := Lib.hid (X2.out.stored (x' := { (pushX { x with st := [] } ⟨x.base, -1, false⟩) with isos := 0 }) r3 g3 rfl rfl rfl rfl); have B3 := Lib.hid (B2.out.trans b3); clear r3 b3 g3)
    | (refine store_cell w3 B _ _ g 3 9 (.int .i64 0) _ w3 rfl rfl rfl (by kernel_rfl) rfl rfl rfl X3.out.row (by simp [X6.cells]) (Below.refl _ _) ?_; intro w4 r4 b4 g4; have X4 := Lib.hid (X3.out.stored (x' := { (pushX { x with st := [] } ⟨x.base, -1, false⟩) with isos := 0, embeds := 0 }) r4 g4 rfl rfl rfl rfl); have B4 := Lib.hid (B3.out.trans b4); clear r4 b4 g4)
    | (refine store_cell w4 B _ _ g 4 9 (.int .i64 0) _ w4 rfl rfl rfl (by kernel_rfl) rfl rfl rfl X4.out.row (by simp [X6.cells]) (Below.refl _ _) ?_; intro w5 r5 b5 g5; have X5 := Lib.hid (X4.out.stored (x' := startX x) r5 g5 rfl rfl rfl rfl); have B5 := Lib.hid (B4.out.trans b5); clear r5 b5 g5)
    | fail)
  (try simp only [Exit.inBlock, Exit.then])
  exact bodyPost_end (results_none rfl _ _ _) rfl ⟨rfl, ⟨sv2, X5.out⟩, B5.out⟩
end Go.Proofs.Ytajgjloailliiaa
