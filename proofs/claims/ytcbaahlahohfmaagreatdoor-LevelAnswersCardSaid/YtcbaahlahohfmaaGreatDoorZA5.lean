/- Shared texts, shaken for one claim. -/
import Derived.Deep.DeepCutAuto
import Derived.Test.YtcbaahlahohfmaaGreatDoorZA4
namespace Go.Proofs.YtcbaahlahohfmaaGreatDoor
open Go.RowKit
structure LitAt (w : World) (k : Nat) (cs : List Value) : Prop where
 lt : k < w.heap.size
 cells : ∀ i u, cs[i]? = some u → w.cell? ⟨k, i, none⟩ = some u
section
variable {w w' : World} {k : Nat} {cs : List Value}
theorem LitAt.new (w : World) (e : TypeId) (c : Array Value) : LitAt (w.alloc (.cells c e)) w.heap.size c.toList := ⟨by simp, fun i u hu => by simpa using hu⟩
theorem LitAt.lies (h : LitAt w k cs) : Lies w w.heap.size (some ⟨k, 0, none⟩) cs := fun _ => ⟨_, rfl, h.lt, fun i u hu => by rw [add_plain, Nat.zero_add]; exact h.cells i u hu⟩
theorem LitAt.below (h : LitAt w k cs) (hb : Below w.heap.size w w') : LitAt w' k cs := ⟨Nat.lt_of_lt_of_le h.lt hb.size, fun i u hu => (hb.cell (p := ⟨k, i, none⟩) h.lt).trans (h.cells i u hu)⟩
theorem LitAt.alloc (h : LitAt w k cs) (o : Obj) : LitAt (w.alloc o) k cs := h.below (below_alloc w o)
theorem LitAt.grown (h : LitAt w k cs) {row : Option Nat} (hg : w.grownBy w' row) (hr : row ≠ some k) : LitAt w' k cs :=
 ⟨Nat.lt_of_lt_of_le h.lt hg.size, fun i u hu => (World.cell?_of_block (hg.block k h.lt (fun e => hr e.symm))).trans (h.cells i u hu)⟩
end
abbrev fieldsAt (w : World) (g : Nat) (x : X6) (lv cv : Value) : Prop := w.cell? ⟨g, 6, none⟩ = some lv ∧ w.cell? ⟨g, 7, none⟩ = some cv ∧ w.cell? ⟨g, 0, none⟩ = some (.int .i64 x.base)
structure IsY (w : World) (B g : Nat) (x : X6) (lsl sv lv cv v : Value) (z : Int) : Prop where
 row : OwnN w B 72 1 (.slice (some ⟨g, 0, none⟩) 9 9) 9 (x.cells sv lv cv lsl)
 stack : OwnN w B 99 3 sv x.st.length (ents x.st.reverse)
 new : OwnN w B 3 1 v (x.levels.length + 1) (ints .i64 x.levels ++ [.int .i64 z])
 classes : OwnN w B 3 1 cv x.classes.length (ints .i64 x.classes)
 apart : Apart v cv
structure IsZ (w : World) (B g : Nat) (x : X6) (lsl sv lv cv v v2 : Value) (z z2 : Int) : Prop where
 row : OwnN w B 72 1 (.slice (some ⟨g, 0, none⟩) 9 9) 9 (x.cells sv lv cv lsl)
 stack : OwnN w B 99 3 sv x.st.length (ents x.st.reverse)
 new : OwnN w B 3 1 v (x.levels.length + 1) (ints .i64 x.levels ++ [.int .i64 z])
 new2 : OwnN w B 3 1 v2 (x.classes.length + 1) (ints .i64 x.classes ++ [.int .i64 z2])
 apart : Apart v v2
section
variable {w w' w'' : World} {B g : Nat} {x : X6} {lsl sv lv cv v v2 : Value} {z z2 : Int}
theorem fields_of (row : OwnN w B 72 1 (.slice (some ⟨g, 0, none⟩) 9 9) 9 (x.cells sv lv cv lsl)) : fieldsAt w g x lv cv :=
 ⟨(World.ownsRow.cellAt row 6 (by omega)).trans rfl, (World.ownsRow.cellAt row 7 (by omega)).trans rfl, (World.ownsRow.cellAt row 0 (by omega)).trans rfl⟩
theorem far_of {e' : TypeId} {s m : Nat} {u : Value} {xs : List Value} (row : OwnN w B 72 1 (.slice (some ⟨g, 0, none⟩) 9 9) 9 (x.cells sv lv cv lsl)) (ho : OwnN w B e' s u m xs) (he : e' ≠ 72) : u.ownBlock ≠ some g := fun e1 => by
 rcases ho.unlike row he with h2 | h2
 ·rw [h2] at e1; cases e1
 ·exact h2 e1
theorem IsX.seen (h : IsX w B g x lsl sv lv cv) : fieldsAt w g x lv cv := fields_of h.row
theorem IsY.seen (h : IsY w B g x lsl sv lv cv v z) : fieldsAt w g x lv cv := fields_of h.row
theorem IsZ.seen (h : IsZ w B g x lsl sv lv cv v v2 z z2) : fieldsAt w g x lv cv := fields_of h.row
theorem IsX.le (h : IsX w B g x lsl sv lv cv) : B ≤ w.heap.size := by have := h.inside; omega
theorem IsY.le (h : IsY w B g x lsl sv lv cv v z) : B ≤ w.heap.size := by have := h.row.inside g rfl; omega
theorem IsX.alloc (h : IsX w B g x lsl sv lv cv) (o : Obj) : IsX (w.alloc o) B g x lsl sv lv cv := h.below (below_alloc w o) (Nat.le_refl _)
theorem IsY.alloc (h : IsY w B g x lsl sv lv cv v z) (o : Obj) : IsY (w.alloc o) B g x lsl sv lv cv v z := ⟨h.row.alloc o, h.stack.alloc o, h.new.alloc o, h.classes.alloc o, h.apart⟩
theorem IsX.newL (h : IsX w B g x lsl sv lv cv) : lv.ownBlock ≠ some w.heap.size := fun e => by have := (h.levels.inside _ e).2; omega
theorem IsX.appL (h : IsX w B g x lsl sv lv cv) (o : OwnN w' B 3 1 v (x.levels.length + 1) (ints .i64 x.levels ++ [.int .i64 z])) (hg : w.grownBy w' lv.ownBlock) (he : v.ownBlock = lv.ownBlock ∨ ∃ q, v.ownBlock = some q ∧ w.heap.size ≤ q) :
 IsY w' B g x lsl sv lv cv v z :=
 ⟨h.rowL hg, h.stack.keep hg (h.stack.unlike h.levels (by decide)), o, h.classes.keep hg h.apart.symm, grow_apart he h.apart h.classes⟩
theorem IsY.appC (h : IsY w B g x lsl sv lv cv v z) (o : OwnN w' B 3 1 v2 (x.classes.length + 1) (ints .i64 x.classes ++ [.int .i64 z2])) (hg : w.grownBy w' cv.ownBlock) (he : v2.ownBlock = cv.ownBlock ∨ ∃ q, v2.ownBlock = some q ∧ w.heap.size ≤ q) :
 IsZ w' B g x lsl sv lv cv v v2 z z2 :=
 ⟨h.row.keep hg (.inr fun e => far_of h.row h.classes (by decide) e.symm), h.stack.keep hg (h.stack.unlike h.classes (by decide)), h.new.keep hg h.apart, o, (grow_apart he h.apart.symm h.new).symm⟩
theorem IsZ.done (h : IsZ w B g x lsl sv lv cv v v2 z z2) (_ : OwnN w' B 72 1 (.slice (some ⟨g, 0, none⟩) 9 9) 9 ((x.cells sv lv cv lsl).set 6 v)) (g1 : w.grownBy w' (some g))
 (r2 : OwnN w'' B 72 1 (.slice (some ⟨g, 0, none⟩) 9 9) 9 (((x.cells sv lv cv lsl).set 6 v).set 7 v2)) (g2 : w'.grownBy w'' (some g)) :
 IsX w'' B g { x with levels := x.levels ++ [z], classes := x.classes ++ [z2] } lsl sv v v2 := by
 have k : ∀ {e' : TypeId} {s m : Nat} {u : Value} {xs : List Value}, OwnN w B e' s u m xs → e' ≠ 72 → OwnN w'' B e' s u m xs := fun ho he =>
  (ho.keep g1 (.inr (far_of h.row ho he))).keep g2 (.inr (far_of h.row ho he))
 refine ⟨r2, k h.stack (by decide), ?_, ?_, h.apart⟩
 ·have := k h.new (by decide); simpa [ints] using this
 ·have := k h.new2 (by decide); simpa [ints] using this
end
def dirOf (c : Int) : Int := if c = 16 ∨ c = 17 then 1 else 0
def overOf (c : Int) : Int := if c = 15 then 0 else if c = 17 then 1 else -1
def embedX (x : X6) (c : Int) : X6 := match x.st with
 | [] => x
 | e :: _ =>
  let y : X6 := { x with levels := x.levels ++ [e.lev], classes := x.classes ++ [c] }
  let n := nextL e.lev (dirOf c)
  if fitsX y n then pushX y ⟨n, overOf c, false⟩ else if x.isos = 0 then { y with embeds := y.embeds + 1 } else y
set_option maxRecDepth 20000 in
set_option maxHeartbeats 8000000 in
theorem embed_any (w : World) (B g : Nat) (x : X6) (lsl : Value) (c : Int) (e : Ent) (st : List Ent) (hst : x.st = e :: st) (hx : HasX w B g x lsl) (hs : x.Small) :
 Calls Tryz.prog 106 #[.pointer (some ⟨g, 0, none⟩), .int .i64 c] w fun ed w' => ed = .returned (.tuple #[]) ∧ HasX w' B g (embedX x c) lsl ∧ Below B w w' := by
 obtain ⟨sv, lv, cv, h⟩ := hx
 have hsm : x.st.length ≤ 1000000 := by have := hs.st; omega
 obtain ⟨Al, cl, rfl, _, _, _⟩ := h.levels.form
 obtain ⟨Ac, cc, rfl, _, _, _⟩ := h.classes.form
 have H := Lib.hid h
 have HST := Lib.hid hst
 have HS := Lib.hid hs
 have BW : Hid (Below B w w) := Lib.hid (Below.refl _ _)
 have hin := h.inside
 have hll := hs.lev
 have hcl := hs.cls
 clear h hst hs
 have hf0 := field0 e.lev e.over e.iso
 go_enter Tryz.func106, Tryz.ntmps106
 go_upto_region 0 with fail
 go_cut [] (fun wx => (∃ lv' cv', IsX wx B g { x with levels := x.levels ++ [e.lev], classes := x.classes ++ [c] } lsl sv lv' cv') ∧ Below B w wx)
 case first =>
  refine wp_region_E (S := fun w' => fieldsAt w' g x (.slice Al x.levels.length cl) (.slice Ac x.classes.length cc)) [20, 23] (by kernel_rfl) (H.out.seen) (fun hHeld hZ => ?_)
  refine' eX 0 hZ fun hZ => ?_
  try simp only [Act.put,ZA,ZB,ZD,ZE,ZF]
  refine' eX 1 hZ fun hZ => ?_
  try simp only [Act.put,ZA,ZB,ZC,ZD,ZE,ZF]
  refine' eX 2 hZ fun hZ => ?_
  try simp only [Act.put,ZA,ZB,ZC,ZD,ZE,ZF]
  refine' eX 3 hZ fun hZ => ?_
  try simp only [Act.put,ZA,ZB,ZC,ZD,ZE,ZF]
  refine' eX 4 hZ fun hZ => ?_
  try simp only [Act.put,ZA,ZB,ZC,ZD,ZE,ZF]
  refine' eX 6 hZ fun hZ => ?_
  try simp only [Act.put,ZA,ZB,ZC,ZD,ZE,ZF]
  refine' eX 11 hZ fun hZ => ?_
  try simp only [Act.put,ZA,ZB,ZC,ZD,ZE,ZF]
  refine' eX 12 hZ fun hZ => ?_
  try simp only [Act.put,ZA,ZB,ZC,ZD,ZE,ZF]
  refine' eX 13 hZ fun hZ => ?_
  try simp only [Act.put,ZA,ZB,ZC,ZD,ZE,ZF]
  refine' eX 15 hZ fun hZ => ?_
  try simp only [Act.put,ZA,ZB,ZC,ZD,ZE,ZF]
  refine' eY 5 hHeld hZ fun hZ => ?_
  try simp only [Act.put,ZA,ZB,ZC,ZD,ZE,ZF]
  refine' eY 14 hHeld hZ fun hZ => ?_
  try simp only [Act.put,ZA,ZB,ZC,ZD,ZE,ZF]
  have X0 := Lib.hid (H.out.same (w' := w.drew) rfl)
  have B0 : Hid (Below B w w.drew) := Lib.hid (below_drawn BW.out 1)
  generalize w.drew = u0 at X0 B0 hHeld ⊢
  refine wpAnyE_ready (rs := [7, 16]) (by kernel_rfl) (by simp) ?_
  refine AllReadyE.cons rfl (fun K hK => ?_) (AllReadyE.cons rfl (fun K hK => ?_) AllReadyE.nil)
  ·go_simp
   refine (top_any u0 B g _ lsl sv _ _ e st HST.out X0.out hsm).mono ?_
   rintro ed u1 ⟨rfl, b_⟩
   have X1 := Lib.hid (X0.out.below b_ (Nat.le_refl _))
   have B1 := Lib.hid (B0.out.trans (b_.mono X0.out.le))
   clear b_
   refine eB hK hZ (X1.out.seen) fun hHeld hZ => ?_
   clear hK K
   try simp only [Act.put,ZA,ZB,ZC,ZD,ZE,ZF]
   refine' eX 8 hZ fun hZ => ?_
   try simp only [Act.put,ZA,ZB,ZC,ZD,ZE,ZF]
   refine wpAnyE_ready (rs := [9, 16]) (by kernel_rfl) (by simp) ?_
   refine AllReadyE.cons rfl (fun K hK => ?_) (AllReadyE.cons rfl (fun K hK => ?_) AllReadyE.nil)
   ·go_simp
    have X2 := Lib.hid (X1.out.alloc (.cells #[.int .i64 e.lev] 3))
    have T2 := Lib.hid (LitAt.new u1 3 #[.int .i64 e.lev])
    have B2 := Lib.hid (B1.out.trans ((below_alloc u1 (.cells #[.int .i64 e.lev] 3)).mono X1.out.le))
    refine eB hK hZ (X2.out.seen) fun hHeld hZ => ?_
    clear hK K
    try simp only [Act.put,ZA,ZB,ZC,ZD,ZE,ZF]
    generalize u1.alloc (.cells #[.int .i64 e.lev] 3) = u2 at X2 T2 B2 hHeld ⊢
    refine wpAnyE_ready (rs := [10, 16]) (by kernel_rfl) (by simp) ?_
    refine AllReadyE.cons rfl (fun K hK => ?_) (AllReadyE.cons rfl (fun K hK => ?_) AllReadyE.nil)
    ·refine step_appN intsN u2 u2 B _ (.tmp 12) (.tmp 16) _ x.levels.length 1 (ints .i64 x.levels) [.int .i64 e.lev] _ _ rfl rfl rfl rfl X2.out.levels T2.out.lies rfl (by simp [Value.oneCell']) (Below.refl _ _) X2.out.le (by unfold maxLen; omega) (by omega) ?_
     intro v3 u3 o_ b_ g_ e_
     obtain ⟨A3, c3, rfl, _, _, _⟩ := o_.form
     have X3 := Lib.hid (X2.out.appL o_ g_ e_)
     have B3 := Lib.hid (B2.out.trans b_)
     clear o_ b_ g_ e_
     refine eB hK hZ (X3.out.seen) fun hHeld hZ => ?_
     clear hK K
     try simp only [Act.put,ZA,ZB,ZC,ZD,ZE,ZF]
     refine eA 16 fun K hK => ?_
     go_simp
     have X4 := Lib.hid (X3.out.alloc (.cells #[.int .i64 c] 3))
     have T4 := Lib.hid (LitAt.new u3 3 #[.int .i64 c])
     have B4 := Lib.hid (B3.out.trans ((below_alloc u3 (.cells #[.int .i64 c] 3)).mono X3.out.le))
     refine eB hK hZ (X4.out.seen) fun hHeld hZ => ?_
     clear hK K
     try simp only [Act.put,ZA,ZB,ZC,ZD,ZE,ZF]
     generalize u3.alloc (.cells #[.int .i64 c] 3) = u4 at X4 T4 B4 hHeld ⊢
     refine eA 17 fun K hK => ?_
     refine step_appN intsN u4 u4 B _ (.tmp 21) (.tmp 23) _ x.classes.length 1 (ints .i64 x.classes) [.int .i64 c] _ _ rfl rfl rfl rfl X4.out.classes T4.out.lies rfl (by simp [Value.oneCell']) (Below.refl _ _) X4.out.le (by unfold maxLen; omega) (by omega) ?_
     intro v5 u5 o_ b_ g_ e_
     obtain ⟨A5, c5, rfl, _, _, _⟩ := o_.form
     have X5 := Lib.hid (X4.out.appC o_ g_ e_)
     have B5 := Lib.hid (B4.out.trans b_)
     clear o_ b_ g_ e_
     refine eB hK hZ (X5.out.seen) fun hHeld hZ => ?_
     clear hK K
     try simp only [Act.put,ZA,ZB,ZC,ZD,ZE,ZF]
     refine' eX 18 hZ fun hZ => ?_
     try simp only [Act.put,ZA,ZB,ZC,ZD,ZE,ZF]
     refine' eX 19 hZ fun hZ => ?_
     try simp only [Act.put,ZA,ZB,ZC,ZD,ZE,ZF]
     refine eA 20 fun K hK => ?_
     refine step_store u5 B (.tmp 26) (.tmp 17) g 6 9 _ _ u5 rfl rfl rfl (by kernel_rfl) rfl rfl rfl X5.out.row (by simp [X6.cells]) (Below.refl _ _) ?_
     intro u6 r_ b_ g_
     have R6 := Lib.hid r_
     have G6 := Lib.hid g_
     have B6 := Lib.hid (B5.out.trans b_)
     clear r_ b_ g_
     refine eE hK hZ fun hZ => ?_
     clear hK K
     try simp only [Act.put,ZA,ZB,ZC,ZD,ZE,ZF]
     refine' eX 21 hZ fun hZ => ?_
     try simp only [Act.put,ZA,ZB,ZC,ZD,ZE,ZF]
     refine' eX 22 hZ fun hZ => ?_
     try simp only [Act.put,ZA,ZB,ZC,ZD,ZE,ZF]
     refine eA 23 fun K hK => ?_
     refine step_store u6 B (.tmp 28) (.tmp 24) g 7 9 _ _ u6 rfl rfl rfl (by kernel_rfl) rfl rfl rfl R6.out (by simp [X6.cells]) (Below.refl _ _) ?_
     intro u7 r_ b_ g_
     have XF := Lib.hid (X5.out.done R6.out G6.out r_ g_)
     have BF := Lib.hid (B6.out.trans b_)
     clear r_ b_ g_
     refine eE hK hZ fun hZ => ?_
     clear hK K
     try simp only [Act.put,ZA,ZB,ZC,ZD,ZE,ZF]
     refine wpAnyE_done (by kernel_rfl) ?_ _
     clear hZ
     go_wp2_with fail
     go_meet
     exact ⟨⟨_, _, XF.out⟩, BF.out⟩
    ·have N3 := Lib.hid (X2.out.newL)
     go_simp
     have X3 := Lib.hid (X2.out.alloc (.cells #[.int .i64 c] 3))
     have T3 := Lib.hid (LitAt.new u2 3 #[.int .i64 c])
     have B3 := Lib.hid (B2.out.trans ((below_alloc u2 (.cells #[.int .i64 c] 3)).mono X2.out.le))
     have T2_3 := Lib.hid (T2.out.alloc (.cells #[.int .i64 c] 3))
     refine eB hK hZ (X3.out.seen) fun hHeld hZ => ?_
     clear hK K
     try simp only [Act.put,ZA,ZB,ZC,ZD,ZE,ZF]
     generalize u2.alloc (.cells #[.int .i64 c] 3) = u3 at X3 T3 B3 T2_3 hHeld ⊢
     refine eA 10 fun K hK => ?_
     refine step_appN intsN u3 u3 B _ (.tmp 12) (.tmp 16) _ x.levels.length 1 (ints .i64 x.levels) [.int .i64 e.lev] _ _ rfl rfl rfl rfl X3.out.levels T2_3.out.lies rfl (by simp [Value.oneCell']) (Below.refl _ _) X3.out.le (by unfold maxLen; omega) (by omega) ?_
     intro v4 u4 o_ b_ g_ e_
     obtain ⟨A4, c4, rfl, _, _, _⟩ := o_.form
     have X4 := Lib.hid (X3.out.appL o_ g_ e_)
     have B4 := Lib.hid (B3.out.trans b_)
     have T3_4 := Lib.hid (T3.out.grown g_ N3.out)
     clear o_ b_ g_ e_
     refine eB hK hZ (X4.out.seen) fun hHeld hZ => ?_
     clear hK K
     try simp only [Act.put,ZA,ZB,ZC,ZD,ZE,ZF]
     refine eA 17 fun K hK => ?_
     refine step_appN intsN u4 u4 B _ (.tmp 21) (.tmp 23) _ x.classes.length 1 (ints .i64 x.classes) [.int .i64 c] _ _ rfl rfl rfl rfl X4.out.classes T3_4.out.lies rfl (by simp [Value.oneCell']) (Below.refl _ _) X4.out.le (by unfold maxLen; omega) (by omega) ?_
     intro v5 u5 o_ b_ g_ e_
     obtain ⟨A5, c5, rfl, _, _, _⟩ := o_.form
     have X5 := Lib.hid (X4.out.appC o_ g_ e_)
     have B5 := Lib.hid (B4.out.trans b_)
     clear o_ b_ g_ e_
     refine eB hK hZ (X5.out.seen) fun hHeld hZ => ?_
     clear hK K
     try simp only [Act.put,ZA,ZB,ZC,ZD,ZE,ZF]
     refine' eX 18 hZ fun hZ => ?_
     try simp only [Act.put,ZA,ZB,ZC,ZD,ZE,ZF]
     refine' eX 19 hZ fun hZ => ?_
     try simp only [Act.put,ZA,ZB,ZC,ZD,ZE,ZF]
     refine eA 20 fun K hK => ?_
     refine step_store u5 B (.tmp 26) (.tmp 17) g 6 9 _ _ u5 rfl rfl rfl (by kernel_rfl) rfl rfl rfl X5.out.row (by simp [X6.cells]) (Below.refl _ _) ?_
     intro u6 r_ b_ g_
     have R6 := Lib.hid r_
     have G6 := Lib.hid g_
     have B6 := Lib.hid (B5.out.trans b_)
     clear r_ b_ g_
     refine eE hK hZ fun hZ => ?_
     clear hK K
     try simp only [Act.put,ZA,ZB,ZC,ZD,ZE,ZF]
     refine' eX 21 hZ fun hZ => ?_
     try simp only [Act.put,ZA,ZB,ZC,ZD,ZE,ZF]
     refine' eX 22 hZ fun hZ => ?_
     try simp only [Act.put,ZA,ZB,ZC,ZD,ZE,ZF]
     refine eA 23 fun K hK => ?_
     refine step_store u6 B (.tmp 28) (.tmp 24) g 7 9 _ _ u6 rfl rfl rfl (by kernel_rfl) rfl rfl rfl R6.out (by simp [X6.cells]) (Below.refl _ _) ?_
     intro u7 r_ b_ g_
     have XF := Lib.hid (X5.out.done R6.out G6.out r_ g_)
     have BF := Lib.hid (B6.out.trans b_)
     clear r_ b_ g_
     refine eE hK hZ fun hZ => ?_
     clear hK K
     try simp only [Act.put,ZA,ZB,ZC,ZD,ZE,ZF]
     refine wpAnyE_done (by kernel_rfl) ?_ _
     clear hZ
     go_wp2_with fail
     go_meet
     exact ⟨⟨_, _, XF.out⟩, BF.out⟩
   ·have N2 := Lib.hid (X1.out.newL)
    go_simp
    have X2 := Lib.hid (X1.out.alloc (.cells #[.int .i64 c] 3))
    have T2 := Lib.hid (LitAt.new u1 3 #[.int .i64 c])
    have B2 := Lib.hid (B1.out.trans ((below_alloc u1 (.cells #[.int .i64 c] 3)).mono X1.out.le))
    refine eB hK hZ (X2.out.seen) fun hHeld hZ => ?_
    clear hK K
    try simp only [Act.put,ZA,ZB,ZC,ZD,ZE,ZF]
    generalize u1.alloc (.cells #[.int .i64 c] 3) = u2 at X2 T2 B2 hHeld ⊢
    refine eA 9 fun K hK => ?_
    go_simp
    have X3 := Lib.hid (X2.out.alloc (.cells #[.int .i64 e.lev] 3))
    have T3 := Lib.hid (LitAt.new u2 3 #[.int .i64 e.lev])
    have B3 := Lib.hid (B2.out.trans ((below_alloc u2 (.cells #[.int .i64 e.lev] 3)).mono X2.out.le))
    have T2_3 := Lib.hid (T2.out.alloc (.cells #[.int .i64 e.lev] 3))
    refine eB hK hZ (X3.out.seen) fun hHeld hZ => ?_
    clear hK K
    try simp only [Act.put,ZA,ZB,ZC,ZD,ZE,ZF]
    generalize u2.alloc (.cells #[.int .i64 e.lev] 3) = u3 at X3 T3 B3 T2_3 hHeld ⊢
    refine eA 10 fun K hK => ?_
    refine step_appN intsN u3 u3 B _ (.tmp 12) (.tmp 16) _ x.levels.length 1 (ints .i64 x.levels) [.int .i64 e.lev] _ _ rfl rfl rfl rfl X3.out.levels T3.out.lies rfl (by simp [Value.oneCell']) (Below.refl _ _) X3.out.le (by unfold maxLen; omega) (by omega) ?_
    intro v4 u4 o_ b_ g_ e_
    obtain ⟨A4, c4, rfl, _, _, _⟩ := o_.form
    have X4 := Lib.hid (X3.out.appL o_ g_ e_)
    have B4 := Lib.hid (B3.out.trans b_)
    have T2_3_4 := Lib.hid (T2_3.out.grown g_ N2.out)
    clear o_ b_ g_ e_
    refine eB hK hZ (X4.out.seen) fun hHeld hZ => ?_
    clear hK K
    try simp only [Act.put,ZA,ZB,ZC,ZD,ZE,ZF]
    refine eA 17 fun K hK => ?_
    refine step_appN intsN u4 u4 B _ (.tmp 21) (.tmp 23) _ x.classes.length 1 (ints .i64 x.classes) [.int .i64 c] _ _ rfl rfl rfl rfl X4.out.classes T2_3_4.out.lies rfl (by simp [Value.oneCell']) (Below.refl _ _) X4.out.le (by unfold maxLen; omega) (by omega) ?_
    intro v5 u5 o_ b_ g_ e_
    obtain ⟨A5, c5, rfl, _, _, _⟩ := o_.form
    have X5 := Lib.hid (X4.out.appC o_ g_ e_)
    have B5 := Lib.hid (B4.out.trans b_)
    clear o_ b_ g_ e_
    refine eB hK hZ (X5.out.seen) fun hHeld hZ => ?_
    clear hK K
    try simp only [Act.put,ZA,ZB,ZC,ZD,ZE,ZF]
    refine' eX 18 hZ fun hZ => ?_
    try simp only [Act.put,ZA,ZB,ZC,ZD,ZE,ZF]
    refine' eX 19 hZ fun hZ => ?_
    try simp only [Act.put,ZA,ZB,ZC,ZD,ZE,ZF]
    refine eA 20 fun K hK => ?_
    refine step_store u5 B (.tmp 26) (.tmp 17) g 6 9 _ _ u5 rfl rfl rfl (by kernel_rfl) rfl rfl rfl X5.out.row (by simp [X6.cells]) (Below.refl _ _) ?_
    intro u6 r_ b_ g_
    have R6 := Lib.hid r_
    have G6 := Lib.hid g_
    have B6 := Lib.hid (B5.out.trans b_)
    clear r_ b_ g_
    refine eE hK hZ fun hZ => ?_
    clear hK K
    try simp only [Act.put,ZA,ZB,ZC,ZD,ZE,ZF]
    refine' eX 21 hZ fun hZ => ?_
    try simp only [Act.put,ZA,ZB,ZC,ZD,ZE,ZF]
    refine' eX 22 hZ fun hZ => ?_
    try simp only [Act.put,ZA,ZB,ZC,ZD,ZE,ZF]
    refine eA 23 fun K hK => ?_
    refine step_store u6 B (.tmp 28) (.tmp 24) g 7 9 _ _ u6 rfl rfl rfl (by kernel_rfl) rfl rfl rfl R6.out (by simp [X6.cells]) (Below.refl _ _) ?_
    intro u7 r_ b_ g_
    have XF := Lib.hid (X5.out.done R6.out G6.out r_ g_)
    have BF := Lib.hid (B6.out.trans b_)
    clear r_ b_ g_
    refine eE hK hZ fun hZ => ?_
    clear hK K
    try simp only [Act.put,ZA,ZB,ZC,ZD,ZE,ZF]
    refine wpAnyE_done (by kernel_rfl) ?_ _
    clear hZ
    go_wp2_with fail
    go_meet
    exact ⟨⟨_, _, XF.out⟩, BF.out⟩
  ·have N1 := Lib.hid (X0.out.newL)
   go_simp
   have X1 := Lib.hid (X0.out.alloc (.cells #[.int .i64 c] 3))
   have T1 := Lib.hid (LitAt.new u0 3 #[.int .i64 c])
   have B1 := Lib.hid (B0.out.trans ((below_alloc u0 (.cells #[.int .i64 c] 3)).mono X0.out.le))
   refine eB hK hZ (X1.out.seen) fun hHeld hZ => ?_
   clear hK K
   try simp only [Act.put,ZA,ZB,ZC,ZD,ZE,ZF]
   generalize u0.alloc (.cells #[.int .i64 c] 3) = u1 at X1 T1 B1 hHeld ⊢
   refine eA 7 fun K hK => ?_
   go_simp
   refine (top_any u1 B g _ lsl sv _ _ e st HST.out X1.out hsm).mono ?_
   rintro ed u2 ⟨rfl, b_⟩
   have X2 := Lib.hid (X1.out.below b_ (Nat.le_refl _))
   have B2 := Lib.hid (B1.out.trans (b_.mono X1.out.le))
   have T1_2 := Lib.hid (T1.out.below b_)
   clear b_
   refine eB hK hZ (X2.out.seen) fun hHeld hZ => ?_
   clear hK K
   try simp only [Act.put,ZA,ZB,ZC,ZD,ZE,ZF]
   refine' eX 8 hZ fun hZ => ?_
   try simp only [Act.put,ZA,ZB,ZC,ZD,ZE,ZF]
   refine eA 9 fun K hK => ?_
   go_simp
   have X3 := Lib.hid (X2.out.alloc (.cells #[.int .i64 e.lev] 3))
   have T3 := Lib.hid (LitAt.new u2 3 #[.int .i64 e.lev])
   have B3 := Lib.hid (B2.out.trans ((below_alloc u2 (.cells #[.int .i64 e.lev] 3)).mono X2.out.le))
   have T1_2_3 := Lib.hid (T1_2.out.alloc (.cells #[.int .i64 e.lev] 3))
   refine eB hK hZ (X3.out.seen) fun hHeld hZ => ?_
   clear hK K
   try simp only [Act.put,ZA,ZB,ZC,ZD,ZE,ZF]
   generalize u2.alloc (.cells #[.int .i64 e.lev] 3) = u3 at X3 T3 B3 T1_2_3 hHeld ⊢
   refine eA 10 fun K hK => ?_
   refine step_appN intsN u3 u3 B _ (.tmp 12) (.tmp 16) _ x.levels.length 1 (ints .i64 x.levels) [.int .i64 e.lev] _ _ rfl rfl rfl rfl X3.out.levels T3.out.lies rfl (by simp [Value.oneCell']) (Below.refl _ _) X3.out.le (by unfold maxLen; omega) (by omega) ?_
   intro v4 u4 o_ b_ g_ e_
   obtain ⟨A4, c4, rfl, _, _, _⟩ := o_.form
   have X4 := Lib.hid (X3.out.appL o_ g_ e_)
   have B4 := Lib.hid (B3.out.trans b_)
   have T1_2_3_4 := Lib.hid (T1_2_3.out.grown g_ N1.out)
   clear o_ b_ g_ e_
   refine eB hK hZ (X4.out.seen) fun hHeld hZ => ?_
   clear hK K
   try simp only [Act.put,ZA,ZB,ZC,ZD,ZE,ZF]
   refine eA 17 fun K hK => ?_
   refine step_appN intsN u4 u4 B _ (.tmp 21) (.tmp 23) _ x.classes.length 1 (ints .i64 x.classes) [.int .i64 c] _ _ rfl rfl rfl rfl X4.out.classes T1_2_3_4.out.lies rfl (by simp [Value.oneCell']) (Below.refl _ _) X4.out.le (by unfold maxLen; omega) (by omega) ?_
   intro v5 u5 o_ b_ g_ e_
   obtain ⟨A5, c5, rfl, _, _, _⟩ := o_.form
   have X5 := Lib.hid (X4.out.appC o_ g_ e_)
   have B5 := Lib.hid (B4.out.trans b_)
   clear o_ b_ g_ e_
   refine eB hK hZ (X5.out.seen) fun hHeld hZ => ?_
   clear hK K
   try simp only [Act.put,ZA,ZB,ZC,ZD,ZE,ZF]
   refine' eX 18 hZ fun hZ => ?_
   try simp only [Act.put,ZA,ZB,ZC,ZD,ZE,ZF]
   refine' eX 19 hZ fun hZ => ?_
   try simp only [Act.put,ZA,ZB,ZC,ZD,ZE,ZF]
   refine eA 20 fun K hK => ?_
   refine step_store u5 B (.tmp 26) (.tmp 17) g 6 9 _ _ u5 rfl rfl rfl (by kernel_rfl) rfl rfl rfl X5.out.row (by simp [X6.cells]) (Below.refl _ _) ?_
   intro u6 r_ b_ g_
   have R6 := Lib.hid r_
   have G6 := Lib.hid g_
   have B6 := Lib.hid (B5.out.trans b_)
   clear r_ b_ g_
   refine eE hK hZ fun hZ => ?_
   clear hK K
   try simp only [Act.put,ZA,ZB,ZC,ZD,ZE,ZF]
   refine' eX 21 hZ fun hZ => ?_
   try simp only [Act.put,ZA,ZB,ZC,ZD,ZE,ZF]
   refine' eX 22 hZ fun hZ => ?_
   try simp only [Act.put,ZA,ZB,ZC,ZD,ZE,ZF]
   refine eA 23 fun K hK => ?_
   refine step_store u6 B (.tmp 28) (.tmp 24) g 7 9 _ _ u6 rfl rfl rfl (by kernel_rfl) rfl rfl rfl R6.out (by simp [X6.cells]) (Below.refl _ _) ?_
   intro u7 r_ b_ g_
   have XF := Lib.hid (X5.out.done R6.out G6.out r_ g_)
   have BF := Lib.hid (B6.out.trans b_)
   clear r_ b_ g_
   refine eE hK hZ fun hZ => ?_
   clear hK K
   try simp only [Act.put,ZA,ZB,ZC,ZD,ZE,ZF]
   refine wpAnyE_done (by kernel_rfl) ?_ _
   clear hZ
   go_wp2_with fail
   go_meet
   exact ⟨⟨_, _, XF.out⟩, BF.out⟩
 case rest =>
  obtain ⟨⟨lv1, cv1, x1⟩, b1⟩ := hcut
  obtain ⟨y, hy⟩ : ∃ y : X6, { x with levels := x.levels ++ [e.lev], classes := x.classes ++ [c] } = y := ⟨_, rfl⟩
  rw [hy] at x1
  have hyst : y.st = e :: st := by rw [← hy]; exact HST.out
  have hye : y.embeds ≤ 1000000 := by rw [← hy]; exact HS.out.embeds
  have hyl : y.st.length ≤ 1000000 := by rw [← hy]; exact hsm
  obtain ⟨n, hn⟩ : ∃ n, nextL e.lev (dirOf c) = n := ⟨_, rfl⟩
  have HEX : Hid (embedX x c = if fitsX y n then pushX y ⟨n, overOf c, false⟩ else if y.isos = 0 then { y with embeds := y.embeds + 1 } else y) := Lib.hid (by
   have hi : y.isos = x.isos := by rw [← hy]
   unfold embedX
   split
   ·rename_i h; rw [HST.out] at h; cases h
   ·rename_i e' st' h
    rw [HST.out] at h
    injection h with h1 h2
    subst h1
    simp only [hy, hn, hi]
    rw [← hy])
  have HY := Lib.hid hyst
  have X1 := Lib.hid x1
  have B1 := Lib.hid b1
  have hcase : ((c == 16) = true ∧ (c == 17) = false ∧ (c == 15) = false ∧ dirOf c = 1 ∧ overOf c = -1) ∨ ((c == 16) = false ∧ (c == 17) = true ∧ (c == 15) = false ∧ dirOf c = 1 ∧ overOf c = 1) ∨
   ((c == 16) = false ∧ (c == 17) = false ∧ (c == 15) = true ∧ dirOf c = 0 ∧ overOf c = 0) ∨ ((c == 16) = false ∧ (c == 17) = false ∧ (c == 15) = false ∧ dirOf c = 0 ∧ overOf c = -1) := by
   by_cases h16 : c = 16
   ·subst h16; exact .inl (by decide)
   ·by_cases h17 : c = 17
    ·subst h17; exact .inr (.inl (by decide))
    ·by_cases h15 : c = 15
     ·subst h15; exact .inr (.inr (.inl (by decide)))
     ·exact .inr (.inr (.inr ⟨by simpa using h16, by simpa using h17, by simpa using h15, by simp [dirOf, h16, h17], by simp [overOf, h15, h17]⟩))
  clear hy hyst x1 b1 hf0
  have hf0 := field0 e.lev e.over e.iso
  rcases hcase with ⟨h16, h17, h15, hd, ho⟩ | ⟨h16, h17, h15, hd, ho⟩ | ⟨h16, h17, h15, hd, ho⟩ | ⟨h16, h17, h15, hd, ho⟩
  all_goals
   rw [hd] at hn
   rw [ho] at HEX
   have HN := Lib.hid hn
   clear hn hd ho
   go_wp2_with fail
   refine (top_any wc B g y lsl sv lv1 cv1 e st HY.out X1.out hyl).mono ?_
   rintro ed w2 ⟨rfl, b2⟩
   have X2 := Lib.hid (X1.out.below b2 (Nat.le_refl _))
   have B2 := Lib.hid (B1.out.trans (b2.mono X1.out.le))
   clear b2
   go_wp2_with fail
   refine (next_any e.lev _ _).mono ?_
   rintro e wq ⟨rfl, rfl⟩
   rw [HN.out]
   go_wp2_with fail
   refine (fits_any _ B g y lsl sv lv1 cv1 n X2.out).mono ?_
   rintro e wq ⟨rfl, rfl⟩
   rcases hfit : fitsX y n with _ | _
   ·have HF := Lib.hid hfit
    clear hfit
    have h2 := X2.out.field 2 (by omega)
    have h3 := X2.out.field 3 (by omega)
    simp only [X6.cells, List.getElem?_cons_succ, List.getElem?_cons_zero] at h2 h3
    rcases h0 : ((y.isos : Int) == 0) with _ | _
    ·have HZ : Hid (embedX x c = y) := Lib.hid (by rw [HEX.out, HF.out, if_neg (by simp), if_neg (by simp at h0; omega)])
     go_wp2_with fail
     (try simp only [Exit.inBlock, Exit.then])
     exact bodyPost_end (results_none rfl _ _ _) rfl ⟨rfl, by rw [HZ.out]; exact ⟨_, _, _, X2.out⟩, B2.out⟩
    ·have HZ : Hid (embedX x c = { y with embeds := y.embeds + 1 }) := Lib.hid (by rw [HEX.out, HF.out, if_neg (by simp), if_pos (by simpa using h0)])
     have hw1 : IntKind.i64.wrap ((y.embeds : Int) + 1) = ((y.embeds + 1 : Nat) : Int) := by rw [IntWalk.i64_in _ (by omega)]; omega
     go_wp2_with (first
      | (refine store_cell w2 B _ _ g 3 9 (.int .i64 ((y.embeds + 1 : Nat) : Int)) _ w2 rfl rfl rfl (by kernel_rfl) rfl rfl rfl X2.out.row (by simp [X6.cells]) (Below.refl _ _) ?_; intro w3 r3 b3 g3; have X3 := Lib.hid (X2.out.stored (x' := { y with embeds := y.embeds + 1 }) r3 g3 rfl rfl rfl rfl); have B3 := Lib.hid (B2.out.trans b3); clear r3 b3 g3)
      | fail)
     (try simp only [Exit.inBlock, Exit.then])
     exact bodyPost_end (results_none rfl _ _ _) rfl ⟨rfl, by rw [HZ.out]; exact ⟨_, _, _, X3.out⟩, B3.out⟩
   ·have HF := Lib.hid hfit
    clear hfit
    have HZ := Lib.hid (HEX.out.trans (if_pos HF.out))
    go_wp2_with fail
    refine (push_any w2 B g y lsl sv lv1 cv1 ⟨n, _, false⟩ X2.out hyl).mono ?_
    rintro ed w3 ⟨rfl, ⟨sv3, x3⟩, b3⟩
    have X3 := Lib.hid x3
    have B3 := Lib.hid (B2.out.trans b3)
    clear x3 b3
    go_wp2_with fail
    (try simp only [Exit.inBlock, Exit.then])
    exact bodyPost_end (results_none rfl _ _ _) rfl ⟨rfl, by rw [HZ.out]; exact ⟨_, _, _, X3.out⟩, B3.out⟩
end Go.Proofs.YtcbaahlahohfmaaGreatDoor
