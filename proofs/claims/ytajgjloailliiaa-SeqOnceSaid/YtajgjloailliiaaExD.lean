/- Layer 6: the document's put. -/
import Derived.Test.YtajgjloailliiaaExC
namespace Go.Proofs.Ytajgjloailliiaa
open Go.RowKit

section
variable {w w' w'' : World} {B g : Nat} {x : X6} {lsl sv lv cv v : Value} {z : Int}
theorem IsX.rowL (h : IsX w B g x lsl sv lv cv) (hg : w.grownBy w' lv.ownBlock) : OwnN w' B 56 1 (.slice (some ⟨g, 0, none⟩) 9 9) 9 (x.cells sv lv cv lsl) := h.row.keep hg (.inr fun e => h.far.2.1 e.symm)
theorem IsX.rowC (h : IsX w B g x lsl sv lv cv) (hg : w.grownBy w' cv.ownBlock) : OwnN w' B 56 1 (.slice (some ⟨g, 0, none⟩) 9 9) 9 (x.cells sv lv cv lsl) := h.row.keep hg (.inr fun e => h.far.2.2 e.symm)
/-- a row behind an append is none of the older ones -/
theorem grow_ne {u : Value} {k : Nat} (he : v.ownBlock = u.ownBlock ∨ ∃ q, v.ownBlock = some q ∧ w.heap.size ≤ q) (hu : u.ownBlock ≠ some k) (hk : k < w.heap.size) : v.ownBlock ≠ some k := by
  rcases he with he | ⟨q, he, hq⟩
  · rw [he]; exact hu
  · rw [he]; intro e; injection e with e; omega
theorem grow_apart {e : TypeId} {s n : Nat} {u t : Value} {xs : List Value} (he : v.ownBlock = u.ownBlock ∨ ∃ q, v.ownBlock = some q ∧ w.heap.size ≤ q) (hu : Apart u t) (ht : OwnN w B e s t n xs) : Apart v t := by
  rcases he with he | ⟨q, he, hq⟩
  · unfold Apart at *; rw [he]; exact hu
  · refine .inr fun e1 => ?_
    have := (ht.inside q (by rw [← e1, he])).2
    omega
theorem IsX.pushL (h : IsX w B g x lsl sv lv cv) (o : OwnN w' B 3 1 v (x.levels.length + 1) (ints .i64 x.levels ++ [.int .i64 z])) (hg : w.grownBy w' lv.ownBlock) (he : v.ownBlock = lv.ownBlock ∨ ∃ q, v.ownBlock = some q ∧ w.heap.size ≤ q)
    (r : OwnN w'' B 56 1 (.slice (some ⟨g, 0, none⟩) 9 9) 9 ((x.cells sv lv cv lsl).set 6 v)) (hg2 : w'.grownBy w'' (some g)) : IsX w'' B g { x with levels := x.levels ++ [z] } lsl sv v cv := by
  obtain ⟨f1, f2, f3⟩ := h.far
  have hin := h.inside
  refine ⟨r, (h.stack.keep hg (h.stack.unlike h.levels (by decide))).keep hg2 (.inr f1), ?_, (h.classes.keep hg ?_).keep hg2 (.inr f3), grow_apart he h.apart h.classes⟩
  · have := o.keep hg2 (.inr (grow_ne he f2 hin.2))
    simpa [ints] using this
  · have := h.apart.symm
    exact this
theorem IsX.pushC (h : IsX w B g x lsl sv lv cv) (o : OwnN w' B 3 1 v (x.classes.length + 1) (ints .i64 x.classes ++ [.int .i64 z])) (hg : w.grownBy w' cv.ownBlock) (he : v.ownBlock = cv.ownBlock ∨ ∃ q, v.ownBlock = some q ∧ w.heap.size ≤ q)
    (r : OwnN w'' B 56 1 (.slice (some ⟨g, 0, none⟩) 9 9) 9 ((x.cells sv lv cv lsl).set 7 v)) (hg2 : w'.grownBy w'' (some g)) : IsX w'' B g { x with classes := x.classes ++ [z] } lsl sv lv v := by
  obtain ⟨f1, f2, f3⟩ := h.far
  have hin := h.inside
  refine ⟨r, (h.stack.keep hg (h.stack.unlike h.classes (by decide))).keep hg2 (.inr f1), (h.levels.keep hg h.apart).keep hg2 (.inr f2), ?_, (grow_apart he h.apart.symm h.levels).symm⟩
  have := o.keep hg2 (.inr (grow_ne he f3 hin.2))
  simpa [ints] using this
end

theorem Own.ofN {w : World} {B n : Nat} {e : TypeId} {v : Value} {xs : List Value} (h : OwnN w B e 1 v n xs) : Own w B e v xs := by
  have hn : xs.length = n := by have := h.1; omega
  unfold Own; rw [hn]; exact h
theorem Own.toN {w : World} {B n : Nat} {e : TypeId} {v : Value} {xs : List Value} (h : Own w B e v xs) (hn : xs.length = n) : OwnN w B e 1 v n xs := by
  unfold Own at h; rw [hn] at h; exact h
def putX (x : X6) (c : Int) : X6 := match x.st with
  | [] => x
  | e :: _ => { x with levels := x.levels ++ [e.lev], classes := x.classes ++ [if 0 ≤ e.over then e.over else c] }
/-- the walk lies somewhere -/
def HasX (w : World) (B g : Nat) (x : X6) (lsl : Value) : Prop := ∃ sv lv cv, IsX w B g x lsl sv lv cv
structure X6.Small (x : X6) : Prop where
  st : x.st.length ≤ 100000
  lev : x.levels.length ≤ 1000000
  cls : x.classes.length ≤ 1000000
  isos : x.isos ≤ 1000000
  embeds : x.embeds ≤ 1000000
  valid : x.valid ≤ 1000000

set_option maxRecDepth 20000 in
set_option maxHeartbeats 4000000 in
theorem put_any (w : World) (B g : Nat) (x : X6) (lsl : Value) (c : Int) (e : Ent) (st : List Ent) (hst : x.st = e :: st) (hx : HasX w B g x lsl) (hs : x.Small) :
    Calls Try.prog 44 #[.pointer (some ⟨g, 0, none⟩), .int .i64 c] w fun ed w' => ed = .returned (.tuple #[]) ∧ HasX w' B g (putX x c) lsl ∧ Below B w w' := by
  obtain ⟨sv, lv, cv, h⟩ := hx
  have hsm : x.st.length ≤ 1000000 := by have := hs.st; omega
  obtain ⟨Al, cl, rfl, _, _, _⟩ := h.levels.form
  obtain ⟨Ac, cc, rfl, _, _, _⟩ := h.classes.form
  have h6 := h.field 6 (by omega)
  simp only [X6.cells, List.getElem?_cons_succ, List.getElem?_cons_zero] at h6
  have H := Lib.hid h
  have HST := Lib.hid hst
  have HS := Lib.hid hs
  have hin := h.inside
  have hll := hs.lev
  have hcl := hs.cls
  have HPX : Hid (putX x c = { x with levels := x.levels ++ [e.lev], classes := x.classes ++ [if 0 ≤ e.over then e.over else c] }) := Lib.hid (by rw [putX, hst])
  clear h hst hs
  have hf0 := field0 e.lev e.over e.iso
  have hf1 := field1 e.lev e.over e.iso
  go_enter Try.func44, Try.ntmps44
  go_wp2
  refine wp_region_E (S := fun w' => w'.cell? ⟨g, 6, none⟩ = some (.slice Al x.levels.length cl)) [12] (by kernel_rfl) (h6) (fun hHeld hClosed => ?_)
  refine' wpAnyE_take (i := 0) (v := _) rfl (by kernel_rfl) (by kernel_rfl) (by kernel_rfl) (by kernel_rfl) (fun _ _ _ h => h) (Or.inl ⟨by rfl, fun u hu => ?_⟩) hHeld hClosed (fun hNext => ?_)
  rotate_left
  · (try dsimp only at hu)
    go_simp
    try with_reducible rfl
  clear hClosed
  have hClosed := hNext
  clear hNext
  try simp only [Act.put, List.getElem_toArray, List.getElem_cons_zero, List.setIfInBounds_toArray, List.set_cons_zero, List.set_cons_succ]
  refine' wpAnyE_take (i := 1) (v := _) rfl (by kernel_rfl) (by kernel_rfl) (by kernel_rfl) (by kernel_rfl) (fun _ _ _ h => h) (Or.inl ⟨by rfl, fun u hu => ?_⟩) hHeld hClosed (fun hNext => ?_)
  rotate_left
  · (try dsimp only at hu)
    go_simp
    try with_reducible rfl
  clear hClosed
  have hClosed := hNext
  clear hNext
  try simp only [Act.put, List.getElem_toArray, List.getElem_cons_zero, List.getElem_cons_succ, List.setIfInBounds_toArray, List.set_cons_zero, List.set_cons_succ]
  refine' wpAnyE_take (i := 2) (v := _) rfl (by kernel_rfl) (by kernel_rfl) (by kernel_rfl) (by kernel_rfl) (fun _ _ _ h => h) (Or.inl ⟨by rfl, fun u hu => ?_⟩) hHeld hClosed (fun hNext => ?_)
  rotate_left
  · (try dsimp only at hu)
    go_simp
    try with_reducible rfl
  clear hClosed
  have hClosed := hNext
  clear hNext
  try simp only [Act.put, List.getElem_toArray, List.getElem_cons_zero, List.getElem_cons_succ, List.setIfInBounds_toArray, List.set_cons_zero, List.set_cons_succ]
  refine' wpAnyE_take (i := 3) (v := _) rfl (by kernel_rfl) (by kernel_rfl) (by kernel_rfl) (by kernel_rfl) (fun _ _ _ h => h) (Or.inl ⟨by rfl, fun u hu => ?_⟩) hHeld hClosed (fun hNext => ?_)
  rotate_left
  · (try dsimp only at hu)
    go_simp
    try with_reducible rfl
  clear hClosed
  have hClosed := hNext
  clear hNext
  try simp only [Act.put, List.getElem_toArray, List.getElem_cons_zero, List.getElem_cons_succ, List.setIfInBounds_toArray, List.set_cons_zero, List.set_cons_succ]
  refine' wpAnyE_take (i := 4) (v := _) rfl (by kernel_rfl) (by kernel_rfl) (by kernel_rfl) (by kernel_rfl) (fun _ _ _ h => h) (Or.inl ⟨by rfl, fun u hu => ?_⟩) hHeld hClosed (fun hNext => ?_)
  rotate_left
  · (try dsimp only at hu)
    go_simp
    try with_reducible rfl
  clear hClosed
  have hClosed := hNext
  clear hNext
  try simp only [Act.put, List.getElem_toArray, List.getElem_cons_zero, List.getElem_cons_succ, List.setIfInBounds_toArray, List.set_cons_zero, List.set_cons_succ]
  refine' wpAnyE_take (i := 5) (v := _) rfl (by kernel_rfl) (by kernel_rfl) (by kernel_rfl) (by kernel_rfl) (fun _ _ _ h => h) (Or.inl ⟨by rfl, fun u hu => ?_⟩) hHeld hClosed (fun hNext => ?_)
  rotate_left
  · (try dsimp only at hu)
    go_simp
    try with_reducible rfl
  clear hClosed
  have hClosed := hNext
  clear hNext
  try simp only [Act.put, List.getElem_toArray, List.getElem_cons_zero, List.getElem_cons_succ, List.setIfInBounds_toArray, List.set_cons_zero, List.set_cons_succ]
  refine wpAnyE_ready (rs := [6]) (by kernel_rfl) (by simp) ?_
  refine AllReadyE.cons rfl (fun K hK => ?_) AllReadyE.nil
  all_goals simp only [List.getElem_toArray, List.getElem_cons_zero, List.getElem_cons_succ]
  all_goals go_simp
  refine (top_any w.drew B g x lsl sv _ _ e st HST.out (H.out.same rfl) hsm).mono ?_
  rintro ed w1 ⟨rfl, b1⟩
  have X1 := Lib.hid ((H.out.same (w' := w.drew) rfl).below b1 (Nat.le_refl _))
  have B1 := Lib.hid (below_then_drew (b1.mono (show B ≤ w.drew.heap.size from by show B ≤ w.heap.size; omega)))
  clear b1
  refine hK.out _ _ (fun _ => X1.out.field 6 (by omega)) (fun hHeld => ?_) (fun hX => (by first | cases hX | simp at hX))
  replace hClosed := hClosed.step 6 (by kernel_rfl)
  clear hK K
  try simp only [Act.put, List.getElem_toArray, List.getElem_cons_zero, List.getElem_cons_succ, List.setIfInBounds_toArray, List.set_cons_zero, List.set_cons_succ]
  refine' wpAnyE_take (i := 7) (v := _) rfl (by kernel_rfl) (by kernel_rfl) (by kernel_rfl) (by kernel_rfl) (fun _ _ _ h => h) (Or.inl ⟨by rfl, fun u hu => ?_⟩) hHeld hClosed (fun hNext => ?_)
  rotate_left
  · (try dsimp only at hu)
    go_simp
    try with_reducible rfl
  clear hClosed
  have hClosed := hNext
  clear hNext
  try simp only [Act.put, List.getElem_toArray, List.getElem_cons_zero, List.getElem_cons_succ, List.setIfInBounds_toArray, List.set_cons_zero, List.set_cons_succ]
  refine wpAnyE_ready (rs := [8]) (by kernel_rfl) (by simp) ?_
  refine AllReadyE.cons rfl (fun K hK => ?_) AllReadyE.nil
  all_goals simp only [List.getElem_toArray, List.getElem_cons_zero, List.getElem_cons_succ]
  all_goals go_simp
  have X2 := Lib.hid (X1.out.below (below_alloc w1 (.cells #[.int .i64 e.lev] 3)) (Nat.le_refl _))
  refine hK.out _ _ (fun _ => X2.out.field 6 (by omega)) (fun hHeld => ?_) (fun hX => (by first | cases hX | simp at hX))
  replace hClosed := hClosed.step 8 (by kernel_rfl)
  clear hK K
  try simp only [Act.put, List.getElem_toArray, List.getElem_cons_zero, List.getElem_cons_succ, List.setIfInBounds_toArray, List.set_cons_zero, List.set_cons_succ]
  refine wpAnyE_ready (rs := [9]) (by kernel_rfl) (by simp) ?_
  refine AllReadyE.cons rfl (fun K hK => ?_) AllReadyE.nil
  refine step_appN intsN (w1.alloc (.cells #[.int .i64 e.lev] 3)) _ B _ (.tmp 8) (.tmp 12) _ x.levels.length 1 (ints .i64 x.levels) [.int .i64 e.lev] _ _ rfl rfl rfl rfl X2.out.levels (Lies.lit #[.int .i64 e.lev]) rfl (by simp [Value.oneCell']) (Below.refl _ _) (by have := X2.out.inside; omega) (by unfold maxLen; omega) (by omega) ?_
  intro v9 w9 o9 b9 g9 e9
  obtain ⟨A9, c9, rfl, _, _, _⟩ := o9.form
  have O9 := Lib.hid o9
  have B9 := Lib.hid b9
  have G9 := Lib.hid g9
  have E9 := Lib.hid e9
  have RW := Lib.hid (X2.out.rowL g9)
  clear o9 b9 g9 e9
  refine hK.out _ _ (fun _ => (by have := World.ownsRow.cellAt RW.out 6 (by omega); rw [this]; rfl)) (fun hHeld => ?_) (fun hX => (by first | cases hX | simp at hX))
  replace hClosed := hClosed.step 9 (by kernel_rfl)
  clear hK K
  try simp only [Act.put, List.getElem_toArray, List.getElem_cons_zero, List.getElem_cons_succ, List.setIfInBounds_toArray, List.set_cons_zero, List.set_cons_succ]
  refine' wpAnyE_take (i := 10) (v := _) rfl (by kernel_rfl) (by kernel_rfl) (by kernel_rfl) (by kernel_rfl) (fun _ _ _ h => h) (Or.inl ⟨by rfl, fun u hu => ?_⟩) hHeld hClosed (fun hNext => ?_)
  rotate_left
  · (try dsimp only at hu)
    go_simp
    try with_reducible rfl
  clear hClosed
  have hClosed := hNext
  clear hNext
  try simp only [Act.put, List.getElem_toArray, List.getElem_cons_zero, List.getElem_cons_succ, List.setIfInBounds_toArray, List.set_cons_zero, List.set_cons_succ]
  refine' wpAnyE_take (i := 11) (v := _) rfl (by kernel_rfl) (by kernel_rfl) (by kernel_rfl) (by kernel_rfl) (fun _ _ _ h => h) (Or.inl ⟨by rfl, fun u hu => ?_⟩) hHeld hClosed (fun hNext => ?_)
  rotate_left
  · (try dsimp only at hu)
    go_simp
    try with_reducible rfl
  clear hClosed
  have hClosed := hNext
  clear hNext
  try simp only [Act.put, List.getElem_toArray, List.getElem_cons_zero, List.getElem_cons_succ, List.setIfInBounds_toArray, List.set_cons_zero, List.set_cons_succ]
  refine wpAnyE_ready (rs := [12]) (by kernel_rfl) (by simp) ?_
  refine AllReadyE.cons rfl (fun K hK => ?_) AllReadyE.nil
  refine step_store w9 B (.tmp 15) (.tmp 13) g 6 9 (.slice A9 (x.levels.length + 1) c9) _ w9 rfl rfl rfl (by kernel_rfl) rfl rfl rfl RW.out (by simp [X6.cells]) (Below.refl _ _) ?_
  intro w10 r10 b10 g10
  have X3 := Lib.hid (X2.out.pushL O9.out G9.out E9.out r10 g10)
  have B3 : Hid (Below B w w10) := Lib.hid ((B1.out.trans ((below_alloc w1 _).mono (by have := X1.out.inside; omega))).trans (B9.out.trans b10))
  clear r10 b10 g10
  refine (fun hrest => hK.out _ _ (fun hX => (by first | cases hX | simp at hX)) (fun _ => hrest) (fun _ => hrest)) ?_
  replace hClosed := hClosed.step 12 (by kernel_rfl)
  clear hK K
  try simp only [Act.put, List.getElem_toArray, List.getElem_cons_zero, List.getElem_cons_succ, List.setIfInBounds_toArray, List.set_cons_zero, List.set_cons_succ]
  refine wpAnyE_done (by kernel_rfl) ?_ _
  clear hClosed
  obtain ⟨z, hz⟩ : ∃ z, (if 0 ≤ e.over then e.over else c) = z := ⟨_, rfl⟩
  have HZ := Lib.hid hz
  rcases hov : decide (e.over ≥ 0) with _ | _
  · have ez : c = z := by rw [← hz, if_neg (by simpa using hov)]
    subst ez
    clear hz h6
    go_wp2_with fail
    refine (top_any w10 B g { x with levels := x.levels ++ [e.lev] } lsl sv _ _ e st HST.out X3.out hsm).mono ?_
    rintro ed w11 ⟨rfl, b11⟩
    have X4 := Lib.hid (X3.out.below b11 (Nat.le_refl _))
    have B4 : Hid (Below B w w11) := Lib.hid (B3.out.trans (b11.mono (by have := X3.out.inside; omega)))
    clear b11
    have h7 := X4.out.field 7 (by omega)
    simp only [X6.cells, List.getElem?_cons_succ, List.getElem?_cons_zero] at h7
    have hB := X4.out.inside
    go_wp2_with (first
      | (at_builtin; refine app_lit intsT w11 w11 B _ _ #[.int .i64 c] 1 _ (ints .i64 x.classes) rfl rfl rfl rfl (Own.ofN X4.out.classes) (by simp [Value.oneCell']) (Below.refl _ _) (by omega) (by unfold maxLen; simp; omega) (by simp; omega) ?_; intro v13 w13 o13 b13 g13 e13; have O13 := Lib.hid (Own.toN (n := x.classes.length + 1) o13 (by simp)); obtain ⟨A13, c13, rfl, _, _, _⟩ := O13.out.form; have B13 := Lib.hid b13; have G13 := Lib.hid g13; have E13 := Lib.hid e13; have RW13 := Lib.hid (X4.out.rowC g13); clear o13 b13 g13 e13)
      | (refine store_cell w13 B _ _ g 7 9 (.slice A13 (x.classes.length + 1) c13) _ w13 rfl rfl rfl (by kernel_rfl) rfl rfl rfl RW13.out (by simp [X6.cells]) (Below.refl _ _) ?_; intro w14 r14 b14 g14; have X9 := Lib.hid (X4.out.pushC O13.out G13.out E13.out r14 g14); have B9 : Hid (Below B w w14) := Lib.hid (B4.out.trans (B13.out.trans b14)); clear r14 b14 g14)
      | fail)
    (try simp only [Exit.inBlock, Exit.then])
    refine bodyPost_end (results_none rfl _ _ _) rfl ⟨rfl, ?_, B9.out⟩
    have := X9.out
    rw [HPX.out, HZ.out]
    first | exact ⟨_, _, _, this⟩ | (rw [← EZ.out]; exact ⟨_, _, _, this⟩)
  · have ez : e.over = z := by rw [← hz, if_pos (by simpa using hov)]
    have EZ := Lib.hid ez
    clear hz h6 ez
    go_wp2_with fail
    refine (top_any w10 B g { x with levels := x.levels ++ [e.lev] } lsl sv _ _ e st HST.out X3.out hsm).mono ?_
    rintro ed w11 ⟨rfl, b11⟩
    have X4 := Lib.hid (X3.out.below b11 (Nat.le_refl _))
    have B4 : Hid (Below B w w11) := Lib.hid (B3.out.trans (b11.mono (by have := X3.out.inside; omega)))
    clear b11
    go_wp2_with fail
    refine (top_any w11 B g { x with levels := x.levels ++ [e.lev] } lsl sv _ _ e st HST.out X4.out hsm).mono ?_
    rintro ed w12 ⟨rfl, b12⟩
    have X5 := Lib.hid (X4.out.below b12 (Nat.le_refl _))
    have B5 : Hid (Below B w w12) := Lib.hid (B4.out.trans (b12.mono (by have := X4.out.inside; omega)))
    clear b12
    have h7 := X5.out.field 7 (by omega)
    simp only [X6.cells, List.getElem?_cons_succ, List.getElem?_cons_zero] at h7
    have hB := X5.out.inside
    go_wp2_with (first
      | (at_builtin; refine app_lit intsT w12 w12 B _ _ #[.int .i64 e.over] 1 _ (ints .i64 x.classes) rfl rfl rfl rfl (Own.ofN X5.out.classes) (by simp [Value.oneCell']) (Below.refl _ _) (by omega) (by unfold maxLen; simp; omega) (by simp; omega) ?_; intro v13 w13 o13 b13 g13 e13; have O13 := Lib.hid (Own.toN (n := x.classes.length + 1) o13 (by simp)); obtain ⟨A13, c13, rfl, _, _, _⟩ := O13.out.form; have B13 := Lib.hid b13; have G13 := Lib.hid g13; have E13 := Lib.hid e13; have RW13 := Lib.hid (X5.out.rowC g13); clear o13 b13 g13 e13)
      | (refine store_cell w13 B _ _ g 7 9 (.slice A13 (x.classes.length + 1) c13) _ w13 rfl rfl rfl (by kernel_rfl) rfl rfl rfl RW13.out (by simp [X6.cells]) (Below.refl _ _) ?_; intro w14 r14 b14 g14; have X9 := Lib.hid (X5.out.pushC O13.out G13.out E13.out r14 g14); have B9 : Hid (Below B w w14) := Lib.hid (B5.out.trans (B13.out.trans b14)); clear r14 b14 g14)
      | fail)
    (try simp only [Exit.inBlock, Exit.then])
    refine bodyPost_end (results_none rfl _ _ _) rfl ⟨rfl, ?_, B9.out⟩
    have := X9.out
    rw [HPX.out, HZ.out]
    first | exact ⟨_, _, _, this⟩ | (rw [← EZ.out]; exact ⟨_, _, _, this⟩)
end Go.Proofs.Ytajgjloailliiaa
