/- Shared texts, shaken for one claim. -/
import Derived.Test.YtadfleopbpomfaaZA10
namespace Go.Proofs.Ytadfleopbpomfaa
open Go.RowKit
def backX (x : X6) : X6 := match x.st with
 | [] => x
 | e :: st =>
  let y : X6 := { x with levels := x.levels ++ [e.lev], classes := x.classes ++ [18] }
  if 0 < x.isos then y else if 0 < x.embeds then { y with embeds := x.embeds - 1 } else if e.iso = false ∧ 1 ≤ st.length then { y with st := st } else y
set_option maxRecDepth 20000 in
set_option maxHeartbeats 8000000 in
theorem back_any (w : World) (B g : Nat) (x : X6) (lsl : Value) (e : Ent) (st : List Ent) (hst : x.st = e :: st) (hx : HasX w B g x lsl) (hs : x.Small) :
 Calls Try.prog 72 #[.pointer (some ⟨g, 0, none⟩)] w fun ed w' => ed = .returned (.tuple #[]) ∧ HasX w' B g (backX x) lsl ∧ Below B w w' := by
 obtain ⟨sv, lv, cv, h⟩ := hx
 have hsm : x.st.length ≤ 1000000 := by have := hs.st; omega
 obtain ⟨Al, cl, rfl, _, _, _⟩ := h.levels.form
 obtain ⟨Ac, cc, rfl, _, _, _⟩ := h.classes.form
 have H := Lib.hid h
 have HST := Lib.hid hst
 have HS := Lib.hid hs
 have BW : Hid (Below B w w) := Lib.hid (Below.refl _ _)
 have hin := h.inside
 have hll := hs.lev
 have hcl := hs.cls
 clear h hst hs
 have hf0 := field0 e.lev e.over e.iso
 go_enter Try.func72, Try.ntmps72
 go_upto_region 0 with fail
 go_cut [] (fun wx => (∃ lv' cv', IsX wx B g { x with levels := x.levels ++ [e.lev], classes := x.classes ++ [18] } lsl sv lv' cv') ∧ Below B w wx)
 case first =>
  refine wp_region_E (S := fun w' => fieldsAt w' g x (.slice Al x.levels.length cl) (.slice Ac x.classes.length cc)) [19, 22] (by kernel_rfl) (H.out.seen) (fun hHeld hZ => ?_)
  refine' eX 0 hZ fun hZ => ?_
  try simp only [Act.put,ZA,ZB,ZD,ZE,ZF]
  refine' eX 1 hZ fun hZ => ?_
  try simp only [Act.put,ZA,ZB,ZC,ZD,ZE,ZF]
  refine' eX 2 hZ fun hZ => ?_
  try simp only [Act.put,ZA,ZB,ZC,ZD,ZE,ZF]
  refine' eX 3 hZ fun hZ => ?_
  try simp only [Act.put,ZA,ZB,ZC,ZD,ZE,ZF]
  refine' eX 4 hZ fun hZ => ?_
  try simp only [Act.put,ZA,ZB,ZC,ZD,ZE,ZF]
  refine' eX 6 hZ fun hZ => ?_
  try simp only [Act.put,ZA,ZB,ZC,ZD,ZE,ZF]
  refine' eX 11 hZ fun hZ => ?_
  try simp only [Act.put,ZA,ZB,ZC,ZD,ZE,ZF]
  refine' eX 12 hZ fun hZ => ?_
  try simp only [Act.put,ZA,ZB,ZC,ZD,ZE,ZF]
  refine' eX 13 hZ fun hZ => ?_
  try simp only [Act.put,ZA,ZB,ZC,ZD,ZE,ZF]
  refine' eY 5 hHeld hZ fun hZ => ?_
  try simp only [Act.put,ZA,ZB,ZC,ZD,ZE,ZF]
  refine' eY 14 hHeld hZ fun hZ => ?_
  try simp only [Act.put,ZA,ZB,ZC,ZD,ZE,ZF]
  have X0 := Lib.hid (H.out.same (w' := w.drew) rfl)
  have B0 : Hid (Below B w w.drew) := Lib.hid (below_drawn BW.out 1)
  generalize w.drew = u0 at X0 B0 hHeld ⊢
  refine wpAnyE_ready (rs := [7, 15]) (by kernel_rfl) (by simp) ?_
  refine AllReadyE.cons rfl (fun K hK => ?_) (AllReadyE.cons rfl (fun K hK => ?_) AllReadyE.nil)
  ·go_simp
   refine (top_any u0 B g _ lsl sv _ _ e st HST.out X0.out hsm).mono ?_
   rintro ed u1 ⟨rfl, b_⟩
   have X1 := Lib.hid (X0.out.below b_ (Nat.le_refl _))
   have B1 := Lib.hid (B0.out.trans (b_.mono X0.out.le))
   clear b_
   refine eB hK hZ (X1.out.seen) fun hHeld hZ => ?_
   clear hK K
   try simp only [Act.put,ZA,ZB,ZC,ZD,ZE,ZF]
   refine' eX 8 hZ fun hZ => ?_
   try simp only [Act.put,ZA,ZB,ZC,ZD,ZE,ZF]
   refine wpAnyE_ready (rs := [9, 15]) (by kernel_rfl) (by simp) ?_
   refine AllReadyE.cons rfl (fun K hK => ?_) (AllReadyE.cons rfl (fun K hK => ?_) AllReadyE.nil)
   ·go_simp
    have X2 := Lib.hid (X1.out.alloc (.cells #[.int .i64 e.lev] 3))
    have T2 := Lib.hid (LitAt.new u1 3 #[.int .i64 e.lev])
    have B2 := Lib.hid (B1.out.trans ((below_alloc u1 (.cells #[.int .i64 e.lev] 3)).mono X1.out.le))
    refine eB hK hZ (X2.out.seen) fun hHeld hZ => ?_
    clear hK K
    try simp only [Act.put,ZA,ZB,ZC,ZD,ZE,ZF]
    generalize u1.alloc (.cells #[.int .i64 e.lev] 3) = u2 at X2 T2 B2 hHeld ⊢
    refine wpAnyE_ready (rs := [10, 15]) (by kernel_rfl) (by simp) ?_
    refine AllReadyE.cons rfl (fun K hK => ?_) (AllReadyE.cons rfl (fun K hK => ?_) AllReadyE.nil)
    ·refine step_appN intsN u2 u2 B _ (.tmp 7) (.tmp 11) _ x.levels.length 1 (ints .i64 x.levels) [.int .i64 e.lev] _ _ rfl rfl rfl rfl X2.out.levels T2.out.lies rfl (by simp [Value.oneCell']) (Below.refl _ _) X2.out.le (by unfold maxLen; omega) (by omega) ?_
     intro v3 u3 o_ b_ g_ e_
     obtain ⟨A3, c3, rfl, _, _, _⟩ := o_.form
     have X3 := Lib.hid (X2.out.appL o_ g_ e_)
     have B3 := Lib.hid (B2.out.trans b_)
     clear o_ b_ g_ e_
     refine eB hK hZ (X3.out.seen) fun hHeld hZ => ?_
     clear hK K
     try simp only [Act.put,ZA,ZB,ZC,ZD,ZE,ZF]
     refine eA 15 fun K hK => ?_
     go_simp
     have X4 := Lib.hid (X3.out.alloc (.cells #[.int .i64 18] 3))
     have T4 := Lib.hid (LitAt.new u3 3 #[.int .i64 18])
     have B4 := Lib.hid (B3.out.trans ((below_alloc u3 (.cells #[.int .i64 18] 3)).mono X3.out.le))
     refine eB hK hZ (X4.out.seen) fun hHeld hZ => ?_
     clear hK K
     try simp only [Act.put,ZA,ZB,ZC,ZD,ZE,ZF]
     generalize u3.alloc (.cells #[.int .i64 18] 3) = u4 at X4 T4 B4 hHeld ⊢
     refine eA 16 fun K hK => ?_
     refine step_appN intsN u4 u4 B _ (.tmp 16) (.tmp 17) _ x.classes.length 1 (ints .i64 x.classes) [.int .i64 18] _ _ rfl rfl rfl rfl X4.out.classes T4.out.lies rfl (by simp [Value.oneCell']) (Below.refl _ _) X4.out.le (by unfold maxLen; omega) (by omega) ?_
     intro v5 u5 o_ b_ g_ e_
     obtain ⟨A5, c5, rfl, _, _, _⟩ := o_.form
     have X5 := Lib.hid (X4.out.appC o_ g_ e_)
     have B5 := Lib.hid (B4.out.trans b_)
     clear o_ b_ g_ e_
     refine eB hK hZ (X5.out.seen) fun hHeld hZ => ?_
     clear hK K
     try simp only [Act.put,ZA,ZB,ZC,ZD,ZE,ZF]
     refine' eX 17 hZ fun hZ => ?_
     try simp only [Act.put,ZA,ZB,ZC,ZD,ZE,ZF]
     refine' eX 18 hZ fun hZ => ?_
     try simp only [Act.put,ZA,ZB,ZC,ZD,ZE,ZF]
     refine eA 19 fun K hK => ?_
     refine step_store u5 B (.tmp 20) (.tmp 12) g 6 9 _ _ u5 rfl rfl rfl (by kernel_rfl) rfl rfl rfl X5.out.row (by simp [X6.cells]) (Below.refl _ _) ?_
     intro u6 r_ b_ g_
     have R6 := Lib.hid r_
     have G6 := Lib.hid g_
     have B6 := Lib.hid (B5.out.trans b_)
     clear r_ b_ g_
     refine eE hK hZ fun hZ => ?_
     clear hK K
     try simp only [Act.put,ZA,ZB,ZC,ZD,ZE,ZF]
     refine' eX 20 hZ fun hZ => ?_
     try simp only [Act.put,ZA,ZB,ZC,ZD,ZE,ZF]
     refine' eX 21 hZ fun hZ => ?_
     try simp only [Act.put,ZA,ZB,ZC,ZD,ZE,ZF]
     refine eA 22 fun K hK => ?_
     refine step_store u6 B (.tmp 22) (.tmp 18) g 7 9 _ _ u6 rfl rfl rfl (by kernel_rfl) rfl rfl rfl R6.out (by simp [X6.cells]) (Below.refl _ _) ?_
     intro u7 r_ b_ g_
     have XF := Lib.hid (X5.out.done R6.out G6.out r_ g_)
     have BF := Lib.hid (B6.out.trans b_)
     clear r_ b_ g_
     refine eE hK hZ fun hZ => ?_
     clear hK K
     try simp only [Act.put,ZA,ZB,ZC,ZD,ZE,ZF]
     refine wpAnyE_done (by kernel_rfl) ?_ _
     clear hZ
     go_wp2_with fail
     go_meet
     exact ⟨⟨_, _, XF.out⟩, BF.out⟩
    ·have N3 := Lib.hid (X2.out.newL)
     go_simp
     have X3 := Lib.hid (X2.out.alloc (.cells #[.int .i64 18] 3))
     have T3 := Lib.hid (LitAt.new u2 3 #[.int .i64 18])
     have B3 := Lib.hid (B2.out.trans ((below_alloc u2 (.cells #[.int .i64 18] 3)).mono X2.out.le))
     have T2_3 := Lib.hid (T2.out.alloc (.cells #[.int .i64 18] 3))
     refine eB hK hZ (X3.out.seen) fun hHeld hZ => ?_
     clear hK K
     try simp only [Act.put,ZA,ZB,ZC,ZD,ZE,ZF]
     generalize u2.alloc (.cells #[.int .i64 18] 3) = u3 at X3 T3 B3 T2_3 hHeld ⊢
     refine eA 10 fun K hK => ?_
     refine step_appN intsN u3 u3 B _ (.tmp 7) (.tmp 11) _ x.levels.length 1 (ints .i64 x.levels) [.int .i64 e.lev] _ _ rfl rfl rfl rfl X3.out.levels T2_3.out.lies rfl (by simp [Value.oneCell']) (Below.refl _ _) X3.out.le (by unfold maxLen; omega) (by omega) ?_
     intro v4 u4 o_ b_ g_ e_
     obtain ⟨A4, c4, rfl, _, _, _⟩ := o_.form
     have X4 := Lib.hid (X3.out.appL o_ g_ e_)
     have B4 := Lib.hid (B3.out.trans b_)
     have T3_4 := Lib.hid (T3.out.grown g_ N3.out)
     clear o_ b_ g_ e_
     refine eB hK hZ (X4.out.seen) fun hHeld hZ => ?_
     clear hK K
     try simp only [Act.put,ZA,ZB,ZC,ZD,ZE,ZF]
     refine eA 16 fun K hK => ?_
     refine step_appN intsN u4 u4 B _ (.tmp 16) (.tmp 17) _ x.classes.length 1 (ints .i64 x.classes) [.int .i64 18] _ _ rfl rfl rfl rfl X4.out.classes T3_4.out.lies rfl (by simp [Value.oneCell']) (Below.refl _ _) X4.out.le (by unfold maxLen; omega) (by omega) ?_
     intro v5 u5 o_ b_ g_ e_
     obtain ⟨A5, c5, rfl, _, _, _⟩ := o_.form
     have X5 := Lib.hid (X4.out.appC o_ g_ e_)
     have B5 := Lib.hid (B4.out.trans b_)
     clear o_ b_ g_ e_
     refine eB hK hZ (X5.out.seen) fun hHeld hZ => ?_
     clear hK K
     try simp only [Act.put,ZA,ZB,ZC,ZD,ZE,ZF]
     refine' eX 17 hZ fun hZ => ?_
     try simp only [Act.put,ZA,ZB,ZC,ZD,ZE,ZF]
     refine' eX 18 hZ fun hZ => ?_
     try simp only [Act.put,ZA,ZB,ZC,ZD,ZE,ZF]
     refine eA 19 fun K hK => ?_
     refine step_store u5 B (.tmp 20) (.tmp 12) g 6 9 _ _ u5 rfl rfl rfl (by kernel_rfl) rfl rfl rfl X5.out.row (by simp [X6.cells]) (Below.refl _ _) ?_
     intro u6 r_ b_ g_
     have R6 := Lib.hid r_
     have G6 := Lib.hid g_
     have B6 := Lib.hid (B5.out.trans b_)
     clear r_ b_ g_
     refine eE hK hZ fun hZ => ?_
     clear hK K
     try simp only [Act.put,ZA,ZB,ZC,ZD,ZE,ZF]
     refine' eX 20 hZ fun hZ => ?_
     try simp only [Act.put,ZA,ZB,ZC,ZD,ZE,ZF]
     refine' eX 21 hZ fun hZ => ?_
     try simp only [Act.put,ZA,ZB,ZC,ZD,ZE,ZF]
     refine eA 22 fun K hK => ?_
     refine step_store u6 B (.tmp 22) (.tmp 18) g 7 9 _ _ u6 rfl rfl rfl (by kernel_rfl) rfl rfl rfl R6.out (by simp [X6.cells]) (Below.refl _ _) ?_
     intro u7 r_ b_ g_
     have XF := Lib.hid (X5.out.done R6.out G6.out r_ g_)
     have BF := Lib.hid (B6.out.trans b_)
     clear r_ b_ g_
     refine eE hK hZ fun hZ => ?_
     clear hK K
     try simp only [Act.put,ZA,ZB,ZC,ZD,ZE,ZF]
     refine wpAnyE_done (by kernel_rfl) ?_ _
     clear hZ
     go_wp2_with fail
     go_meet
     exact ⟨⟨_, _, XF.out⟩, BF.out⟩
   ·have N2 := Lib.hid (X1.out.newL)
    go_simp
    have X2 := Lib.hid (X1.out.alloc (.cells #[.int .i64 18] 3))
    have T2 := Lib.hid (LitAt.new u1 3 #[.int .i64 18])
    have B2 := Lib.hid (B1.out.trans ((below_alloc u1 (.cells #[.int .i64 18] 3)).mono X1.out.le))
    refine eB hK hZ (X2.out.seen) fun hHeld hZ => ?_
    clear hK K
    try simp only [Act.put,ZA,ZB,ZC,ZD,ZE,ZF]
    generalize u1.alloc (.cells #[.int .i64 18] 3) = u2 at X2 T2 B2 hHeld ⊢
    refine eA 9 fun K hK => ?_
    go_simp
    have X3 := Lib.hid (X2.out.alloc (.cells #[.int .i64 e.lev] 3))
    have T3 := Lib.hid (LitAt.new u2 3 #[.int .i64 e.lev])
    have B3 := Lib.hid (B2.out.trans ((below_alloc u2 (.cells #[.int .i64 e.lev] 3)).mono X2.out.le))
    have T2_3 := Lib.hid (T2.out.alloc (.cells #[.int .i64 e.lev] 3))
    refine eB hK hZ (X3.out.seen) fun hHeld hZ => ?_
    clear hK K
    try simp only [Act.put,ZA,ZB,ZC,ZD,ZE,ZF]
    generalize u2.alloc (.cells #[.int .i64 e.lev] 3) = u3 at X3 T3 B3 T2_3 hHeld ⊢
    refine eA 10 fun K hK => ?_
    refine step_appN intsN u3 u3 B _ (.tmp 7) (.tmp 11) _ x.levels.length 1 (ints .i64 x.levels) [.int .i64 e.lev] _ _ rfl rfl rfl rfl X3.out.levels T3.out.lies rfl (by simp [Value.oneCell']) (Below.refl _ _) X3.out.le (by unfold maxLen; omega) (by omega) ?_
    intro v4 u4 o_ b_ g_ e_
    obtain ⟨A4, c4, rfl, _, _, _⟩ := o_.form
    have X4 := Lib.hid (X3.out.appL o_ g_ e_)
    have B4 := Lib.hid (B3.out.trans b_)
    have T2_3_4 := Lib.hid (T2_3.out.grown g_ N2.out)
    clear o_ b_ g_ e_
    refine eB hK hZ (X4.out.seen) fun hHeld hZ => ?_
    clear hK K
    try simp only [Act.put,ZA,ZB,ZC,ZD,ZE,ZF]
    refine eA 16 fun K hK => ?_
    refine step_appN intsN u4 u4 B _ (.tmp 16) (.tmp 17) _ x.classes.length 1 (ints .i64 x.classes) [.int .i64 18] _ _ rfl rfl rfl rfl X4.out.classes T2_3_4.out.lies rfl (by simp [Value.oneCell']) (Below.refl _ _) X4.out.le (by unfold maxLen; omega) (by omega) ?_
    intro v5 u5 o_ b_ g_ e_
    obtain ⟨A5, c5, rfl, _, _, _⟩ := o_.form
    have X5 := Lib.hid (X4.out.appC o_ g_ e_)
    have B5 := Lib.hid (B4.out.trans b_)
    clear o_ b_ g_ e_
    refine eB hK hZ (X5.out.seen) fun hHeld hZ => ?_
    clear hK K
    try simp only [Act.put,ZA,ZB,ZC,ZD,ZE,ZF]
    refine' eX 17 hZ fun hZ => ?_
    try simp only [Act.put,ZA,ZB,ZC,ZD,ZE,ZF]
    refine' eX 18 hZ fun hZ => ?_
    try simp only [Act.put,ZA,ZB,ZC,ZD,ZE,ZF]
    refine eA 19 fun K hK => ?_
    refine step_store u5 B (.tmp 20) (.tmp 12) g 6 9 _ _ u5 rfl rfl rfl (by kernel_rfl) rfl rfl rfl X5.out.row (by simp [X6.cells]) (Below.refl _ _) ?_
    intro u6 r_ b_ g_
    have R6 := Lib.hid r_
    have G6 := Lib.hid g_
    have B6 := Lib.hid (B5.out.trans b_)
    clear r_ b_ g_
    refine eE hK hZ fun hZ => ?_
    clear hK K
    try simp only [Act.put,ZA,ZB,ZC,ZD,ZE,ZF]
    refine' eX 20 hZ fun hZ => ?_
    try simp only [Act.put,ZA,ZB,ZC,ZD,ZE,ZF]
    refine' eX 21 hZ fun hZ => ?_
    try simp only [Act.put,ZA,ZB,ZC,ZD,ZE,ZF]
    refine eA 22 fun K hK => ?_
    refine step_store u6 B (.tmp 22) (.tmp 18) g 7 9 _ _ u6 rfl rfl rfl (by kernel_rfl) rfl rfl rfl R6.out (by simp [X6.cells]) (Below.refl _ _) ?_
    intro u7 r_ b_ g_
    have XF := Lib.hid (X5.out.done R6.out G6.out r_ g_)
    have BF := Lib.hid (B6.out.trans b_)
    clear r_ b_ g_
    refine eE hK hZ fun hZ => ?_
    clear hK K
    try simp only [Act.put,ZA,ZB,ZC,ZD,ZE,ZF]
    refine wpAnyE_done (by kernel_rfl) ?_ _
    clear hZ
    go_wp2_with fail
    go_meet
    exact ⟨⟨_, _, XF.out⟩, BF.out⟩
  ·have N1 := Lib.hid (X0.out.newL)
   go_simp
   have X1 := Lib.hid (X0.out.alloc (.cells #[.int .i64 18] 3))
   have T1 := Lib.hid (LitAt.new u0 3 #[.int .i64 18])
   have B1 := Lib.hid (B0.out.trans ((below_alloc u0 (.cells #[.int .i64 18] 3)).mono X0.out.le))
   refine eB hK hZ (X1.out.seen) fun hHeld hZ => ?_
   clear hK K
   try simp only [Act.put,ZA,ZB,ZC,ZD,ZE,ZF]
   generalize u0.alloc (.cells #[.int .i64 18] 3) = u1 at X1 T1 B1 hHeld ⊢
   refine eA 7 fun K hK => ?_
   go_simp
   refine (top_any u1 B g _ lsl sv _ _ e st HST.out X1.out hsm).mono ?_
   rintro ed u2 ⟨rfl, b_⟩
   have X2 := Lib.hid (X1.out.below b_ (Nat.le_refl _))
   have B2 := Lib.hid (B1.out.trans (b_.mono X1.out.le))
   have T1_2 := Lib.hid (T1.out.below b_)
   clear b_
   refine eB hK hZ (X2.out.seen) fun hHeld hZ => ?_
   clear hK K
   try simp only [Act.put,ZA,ZB,ZC,ZD,ZE,ZF]
   refine' eX 8 hZ fun hZ => ?_
   try simp only [Act.put,ZA,ZB,ZC,ZD,ZE,ZF]
   refine eA 9 fun K hK => ?_
   go_simp
   have X3 := Lib.hid (X2.out.alloc (.cells #[.int .i64 e.lev] 3))
   have T3 := Lib.hid (LitAt.new u2 3 #[.int .i64 e.lev])
   have B3 := Lib.hid (B2.out.trans ((below_alloc u2 (.cells #[.int .i64 e.lev] 3)).mono X2.out.le))
   have T1_2_3 := Lib.hid (T1_2.out.alloc (.cells #[.int .i64 e.lev] 3))
   refine eB hK hZ (X3.out.seen) fun hHeld hZ => ?_
   clear hK K
   try simp only [Act.put,ZA,ZB,ZC,ZD,ZE,ZF]
   generalize u2.alloc (.cells #[.int .i64 e.lev] 3) = u3 at X3 T3 B3 T1_2_3 hHeld ⊢
   refine eA 10 fun K hK => ?_
   refine step_appN intsN u3 u3 B _ (.tmp 7) (.tmp 11) _ x.levels.length 1 (ints .i64 x.levels) [.int .i64 e.lev] _ _ rfl rfl rfl rfl X3.out.levels T3.out.lies rfl (by simp [Value.oneCell']) (Below.refl _ _) X3.out.le (by unfold maxLen; omega) (by omega) ?_
   intro v4 u4 o_ b_ g_ e_
   obtain ⟨A4, c4, rfl, _, _, _⟩ := o_.form
   have X4 := Lib.hid (X3.out.appL o_ g_ e_)
   have B4 := Lib.hid (B3.out.trans b_)
   have T1_2_3_4 := Lib.hid (T1_2_3.out.grown g_ N1.out)
   clear o_ b_ g_ e_
   refine eB hK hZ (X4.out.seen) fun hHeld hZ => ?_
   clear hK K
   try simp only [Act.put,ZA,ZB,ZC,ZD,ZE,ZF]
   refine eA 16 fun K hK => ?_
   refine step_appN intsN u4 u4 B _ (.tmp 16) (.tmp 17) _ x.classes.length 1 (ints .i64 x.classes) [.int .i64 18] _ _ rfl rfl rfl rfl X4.out.classes T1_2_3_4.out.lies rfl (by simp [Value.oneCell']) (Below.refl _ _) X4.out.le (by unfold maxLen; omega) (by omega) ?_
   intro v5 u5 o_ b_ g_ e_
   obtain ⟨A5, c5, rfl, _, _, _⟩ := o_.form
   have X5 := Lib.hid (X4.out.appC o_ g_ e_)
   have B5 := Lib.hid (B4.out.trans b_)
   clear o_ b_ g_ e_
   refine eB hK hZ (X5.out.seen) fun hHeld hZ => ?_
   clear hK K
   try simp only [Act.put,ZA,ZB,ZC,ZD,ZE,ZF]
   refine' eX 17 hZ fun hZ => ?_
   try simp only [Act.put,ZA,ZB,ZC,ZD,ZE,ZF]
   refine' eX 18 hZ fun hZ => ?_
   try simp only [Act.put,ZA,ZB,ZC,ZD,ZE,ZF]
   refine eA 19 fun K hK => ?_
   refine step_store u5 B (.tmp 20) (.tmp 12) g 6 9 _ _ u5 rfl rfl rfl (by kernel_rfl) rfl rfl rfl X5.out.row (by simp [X6.cells]) (Below.refl _ _) ?_
   intro u6 r_ b_ g_
   have R6 := Lib.hid r_
   have G6 := Lib.hid g_
   have B6 := Lib.hid (B5.out.trans b_)
   clear r_ b_ g_
   refine eE hK hZ fun hZ => ?_
   clear hK K
   try simp only [Act.put,ZA,ZB,ZC,ZD,ZE,ZF]
   refine' eX 20 hZ fun hZ => ?_
   try simp only [Act.put,ZA,ZB,ZC,ZD,ZE,ZF]
   refine' eX 21 hZ fun hZ => ?_
   try simp only [Act.put,ZA,ZB,ZC,ZD,ZE,ZF]
   refine eA 22 fun K hK => ?_
   refine step_store u6 B (.tmp 22) (.tmp 18) g 7 9 _ _ u6 rfl rfl rfl (by kernel_rfl) rfl rfl rfl R6.out (by simp [X6.cells]) (Below.refl _ _) ?_
   intro u7 r_ b_ g_
   have XF := Lib.hid (X5.out.done R6.out G6.out r_ g_)
   have BF := Lib.hid (B6.out.trans b_)
   clear r_ b_ g_
   refine eE hK hZ fun hZ => ?_
   clear hK K
   try simp only [Act.put,ZA,ZB,ZC,ZD,ZE,ZF]
   refine wpAnyE_done (by kernel_rfl) ?_ _
   clear hZ
   go_wp2_with fail
   go_meet
   exact ⟨⟨_, _, XF.out⟩, BF.out⟩
 case rest =>
  obtain ⟨⟨lv1, cv1, x1⟩, b1⟩ := hcut
  obtain ⟨y, hy⟩ : ∃ y : X6, { x with levels := x.levels ++ [e.lev], classes := x.classes ++ [18] } = y := ⟨_, rfl⟩
  rw [hy] at x1
  have hyst : y.st = e :: st := by rw [← hy]; exact HST.out
  have hyi : y.isos = x.isos := by rw [← hy]
  have hye : y.embeds = x.embeds := by rw [← hy]
  have hyl : y.st.length ≤ 1000000 := by rw [← hy]; exact hsm
  have HEX : Hid (backX x = if 0 < y.isos then y else if 0 < y.embeds then { y with embeds := y.embeds - 1 } else if e.iso = false ∧ 1 ≤ st.length then { y with st := st } else y) := Lib.hid (by
   unfold backX
   split
   ·rename_i h; rw [HST.out] at h; cases h
   ·rename_i e' st' h
    rw [HST.out] at h
    injection h with h1 h2
    subst h1
    subst h2
    simp only [hy, hyi, hye]
    rw [← hy])
  have hyb : y.embeds ≤ 1000000 := by rw [hye]; exact HS.out.embeds
  have HY := Lib.hid hyst
  have X1 := Lib.hid x1
  have B1 := Lib.hid b1
  have h2 := x1.field 2 (by omega)
  have h3 := x1.field 3 (by omega)
  have h1' := x1.field 1 (by omega)
  obtain ⟨As, cs, rfl, _, _, _⟩ := x1.stack.form
  simp only [X6.cells, List.getElem?_cons_succ, List.getElem?_cons_zero] at h2 h3 h1'
  clear hy hyst x1 b1 hf0 hyi hye h1'
  rcases hA : decide (0 < y.isos) with _ | _
  ·rcases hB : decide (0 < y.embeds) with _ | _
   ·have hf2 := field2 e.lev e.over e.iso
    rcases hio : e.iso with _ | _
    ·rw [hio] at hf2
     have HIO := Lib.hid hio
     clear hio
     have hlen : y.st.length = st.length + 1 := by rw [HY.out]; rfl
     rcases hC : decide (1 ≤ st.length) with _ | _
     ·have HZ : Hid (backX x = y) := Lib.hid (by rw [HEX.out, if_neg (by simpa using hA), if_neg (by simpa using hB), if_neg (fun h => (of_decide_eq_false hC) h.2)])
      have hge : decide ((2 : Int) ≤ (y.st.length : Int)) = false := by have := of_decide_eq_false hC; rw [decide_eq_false_iff_not]; omega
      go_wp2_with fail
      refine (top_any wc B g y lsl _ lv1 cv1 e st HY.out X1.out hyl).mono ?_
      rintro ed w2 ⟨rfl, b2⟩
      rw [HIO.out]
      have X2 := Lib.hid (X1.out.below b2 (Nat.le_refl _))
      have B2 := Lib.hid (B1.out.trans (b2.mono X1.out.le))
      have h1 := X2.out.field 1 (by omega)
      simp only [X6.cells, List.getElem?_cons_succ, List.getElem?_cons_zero] at h1
      clear b2 hlen
      go_wp2_with fail
      (try simp only [Exit.inBlock, Exit.then])
      exact bodyPost_end (results_none rfl _ _ _) rfl ⟨rfl, by rw [HZ.out]; exact ⟨_, _, _, X2.out⟩, B2.out⟩
     ·have HZ : Hid (backX x = { y with st := st }) := Lib.hid (by rw [HEX.out, if_neg (by simpa using hA), if_neg (by simpa using hB), if_pos ⟨HIO.out, by simpa using hC⟩])
      have hge : decide ((2 : Int) ≤ (y.st.length : Int)) = true := by have := of_decide_eq_true hC; rw [decide_eq_true_iff]; omega
      go_wp2_with fail
      refine (top_any wc B g y lsl _ lv1 cv1 e st HY.out X1.out hyl).mono ?_
      rintro ed w2 ⟨rfl, b2⟩
      rw [HIO.out]
      have X2 := Lib.hid (X1.out.below b2 (Nat.le_refl _))
      have B2 := Lib.hid (B1.out.trans (b2.mono X1.out.le))
      have h1 := X2.out.field 1 (by omega)
      simp only [X6.cells, List.getElem?_cons_succ, List.getElem?_cons_zero] at h1
      clear b2 hlen
      go_wp2_with fail
      refine (pop_any w2 B g y lsl _ lv1 cv1 e st HY.out X2.out hyl).mono ?_
      rintro ed w3 ⟨rfl, ⟨sv3, x3⟩, b3⟩
      have X3 := Lib.hid x3
      have B3 := Lib.hid (B2.out.trans b3)
      clear x3 b3
      go_wp2_with fail
      (try simp only [Exit.inBlock, Exit.then])
      exact bodyPost_end (results_none rfl _ _ _) rfl ⟨rfl, by rw [HZ.out]; exact ⟨_, _, _, X3.out⟩, B3.out⟩
    ·have HZ : Hid (backX x = y) := Lib.hid (by rw [HEX.out, if_neg (by simpa using hA), if_neg (by simpa using hB), if_neg (by rw [hio]; simp)])
     rw [hio] at hf2
     have HIO := Lib.hid hio
     clear hio
     go_wp2_with fail
     refine (top_any wc B g y lsl _ lv1 cv1 e st HY.out X1.out hyl).mono ?_
     rintro ed w2 ⟨rfl, b2⟩
     rw [HIO.out]
     have X2 := Lib.hid (X1.out.below b2 (Nat.le_refl _))
     have B2 := Lib.hid (B1.out.trans (b2.mono X1.out.le))
     clear b2
     go_wp2_with fail
     (try simp only [Exit.inBlock, Exit.then])
     exact bodyPost_end (results_none rfl _ _ _) rfl ⟨rfl, by rw [HZ.out]; exact ⟨_, _, _, X2.out⟩, B2.out⟩
   ·have HZ : Hid (backX x = { y with embeds := y.embeds - 1 }) := Lib.hid (by rw [HEX.out, if_neg (by simpa using hA), if_pos (by simpa using hB)])
    have hpos : 0 < y.embeds := by simpa using hB
    have hw1 : IntKind.i64.wrap ((y.embeds : Int) - 1) = ((y.embeds - 1 : Nat) : Int) := by rw [IntWalk.i64_in _ (by omega)]; omega
    clear hpos
    go_wp2_with (first
     | (refine store_cell wc B _ _ g 3 9 (.int .i64 ((y.embeds - 1 : Nat) : Int)) _ wc rfl rfl rfl (by kernel_rfl) rfl rfl rfl X1.out.row (by simp [X6.cells]) (Below.refl _ _) ?_; intro w5 r5 b5 g5; have X5 := Lib.hid (X1.out.stored (x' := { y with embeds := y.embeds - 1 }) r5 g5 rfl rfl rfl rfl); have B5 := Lib.hid (B1.out.trans b5); clear r5 b5 g5)
     | fail)
    (try simp only [Exit.inBlock, Exit.then])
    exact bodyPost_end (results_none rfl _ _ _) rfl ⟨rfl, by rw [HZ.out]; exact ⟨_, _, _, X5.out⟩, B5.out⟩
  ·have HZ : Hid (backX x = y) := Lib.hid (by rw [HEX.out, if_pos (by simpa using hA)])
   go_wp2_with fail
   (try simp only [Exit.inBlock, Exit.then])
   exact bodyPost_end (results_none rfl _ _ _) rfl ⟨rfl, by rw [HZ.out]; exact ⟨_, _, _, X1.out⟩, B1.out⟩
end Go.Proofs.Ytadfleopbpomfaa
namespace Go.Proofs.Ytadfleopbpomfaa
open Go.RowKit
def tellX (x : X6) (z c : Int) : X6 := { x with levels := x.levels ++ [z], classes := x.classes ++ [c] }
def stepX (l : List Int) (x : X6) (i : Nat) (c : Int) : X6 :=
 if c = 16 ∨ c = 14 ∨ c = 17 ∨ c = 15 then embedX x c
 else if isOpens c then isolateX x l i c
 else if c = 22 then endX x c
 else if c = 18 then backX x
 else if c = 9 then (match x.st with | [] => x | e :: _ => tellX x e.lev c)
 else if c = 10 then tellX (startX x) x.base c
 else if c < 0 ∨ 22 < c then putX x 0
 else putX x c
def beginX (base : Int) : X6 := startX { base := if base = 0 then 0 else 1, st := [], isos := 0, embeds := 0, valid := 0, most := 0, levels := [], classes := [] }
def runX (l : List Int) (base : Int) : Nat → X6
 | 0 => beginX base
 | k + 1 => stepX l (runX l base k) k (at0 l k)
structure Wf (x : X6) (k : Nat) : Prop where
 base : x.base = 0 ∨ x.base = 1
 ne : x.st ≠ []
 mono : x.st.Pairwise (fun a b => b.lev < a.lev)
 rng : ∀ e ∈ x.st, x.base ≤ e.lev ∧ e.lev ≤ 125
 bot : ∃ s b, x.st = s ++ [b] ∧ b.iso = false ∧ b.lev = x.base ∧ (s.filter (·.iso)).length = x.valid
 isos : x.isos ≤ k
 embeds : x.embeds ≤ k
 valid : x.valid ≤ k
 levels : x.levels.length = k
 classes : x.classes.length = k
theorem nextL_spec {k d : Int} (h0 : 0 ≤ k) (h1 : k ≤ 125) : k < nextL k d ∧ nextL k d ≤ k + 2 := by
 unfold nextL
 rw [if_neg (by omega)]
 repeat' split
 all_goals omega
theorem fits_le {x : X6} {n : Int} (h : fitsX x n = true) : n ≤ 125 ∧ x.isos = 0 ∧ x.embeds = 0 := by
 simp [fitsX] at h
 omega
theorem Wf.top {x : X6} {k : Nat} (h : Wf x k) : ∃ e st, x.st = e :: st := by
 cases hs : x.st with
 | nil => exact absurd hs h.ne
 | cons e st => exact ⟨e, st, rfl⟩
theorem Wf.tell {x y : X6} {k : Nat} (h : Wf x k) (h1 : y.base = x.base) (h2 : y.st = x.st) (h3 : y.valid = x.valid) (h4 : y.isos ≤ k + 1) (h5 : y.embeds ≤ k + 1) (h6 : y.levels.length = k + 1) (h7 : y.classes.length = k + 1) : Wf y (k + 1) := by
 refine ⟨by rw [h1]; exact h.base, by rw [h2]; exact h.ne, by rw [h2]; exact h.mono, by rw [h1, h2]; exact h.rng, ?_, h4, h5, by rw [h3]; have := h.valid; omega, h6, h7⟩
 obtain ⟨s, b, a1, a2, a3, a4⟩ := h.bot
 exact ⟨s, b, by rw [h2]; exact a1, a2, by rw [h1]; exact a3, by rw [h3]; exact a4⟩
theorem Wf.push {x y : X6} {k : Nat} (h : Wf x k) (n over : Int) (iso : Bool) (h1 : y.base = x.base) (h2 : y.st = ⟨n, over, iso⟩ :: x.st) (h3 : y.valid = x.valid + (if iso then 1 else 0)) (h4 : y.isos ≤ k + 1) (h5 : y.embeds ≤ k + 1) (h6 : y.levels.length = k + 1) (h7 : y.classes.length = k + 1)
 (hn : ∀ e st, x.st = e :: st → e.lev < n) (hn2 : n ≤ 125) : Wf y (k + 1) := by
 obtain ⟨e, st, hst⟩ := h.top
 have hlt := hn e st hst
 have hb := (h.rng e (by rw [hst]; simp)).1
 refine ⟨by rw [h1]; exact h.base, by rw [h2]; simp, ?_, ?_, ?_, h4, h5, by rw [h3]; have := h.valid; split <;> omega, h6, h7⟩
 ·rw [h2]
  refine List.Pairwise.cons (fun b hb => ?_) h.mono
  have hm := h.mono
  rw [hst] at hm hb
  rcases List.mem_cons.1 hb with rfl | hb
  ·exact hlt
  ·have := (List.pairwise_cons.1 hm).1 b hb
   show b.lev < n
   omega
 ·rw [h1, h2]
  intro a ha
  rcases List.mem_cons.1 ha with rfl | ha
  ·exact ⟨by show x.base ≤ n; omega, hn2⟩
  ·exact h.rng a ha
 ·obtain ⟨s, b, a1, a2, a3, a4⟩ := h.bot
  refine ⟨⟨n, over, iso⟩ :: s, b, by rw [h2, a1]; rfl, a2, by rw [h1]; exact a3, ?_⟩
  rw [h3, List.filter_cons]
  cases iso <;> simp [a4]
theorem drop_iso (s : List Ent) (b : Ent) (_hb : b.iso = false) (hv : 0 < (s.filter (·.iso)).length) :
 ∃ p e t, s = p ++ e :: t ∧ e.iso = true ∧ (∀ a ∈ p, a.iso = false) ∧ unwind (s ++ [b]) = t ++ [b] ∧ (t.filter (·.iso)).length + 1 = (s.filter (·.iso)).length := by
 induction s with
 | nil => simp at hv
 | cons a s ih =>
  cases ha : a.iso with
  | true => exact ⟨[], a, s, rfl, ha, (fun _ h => by cases h), by rw [List.cons_append, unwind_hit ha], by simp [ha]⟩
  | false =>
   have hf : (a :: s).filter (·.iso) = s.filter (·.iso) := by simp [ha]
   obtain ⟨p, e, t, h1, h2, h3, h4, h5⟩ := ih (by rw [hf] at hv; exact hv)
   refine ⟨a :: p, e, t, by rw [h1]; rfl, h2, fun c hc => ?_, by rw [List.cons_append, unwind_skip ha]; exact h4, by rw [hf]; exact h5⟩
   rcases List.mem_cons.1 hc with rfl | hc
   ·exact ha
   ·exact h3 c hc
theorem Wf.ended {x : X6} {k : Nat} (h : Wf x k) : Wf { endX0 x with levels := x.levels ++ [0], classes := x.classes ++ [0] } (k + 1) := by
 have h8 := h.levels
 have h9 := h.classes
 have hi := h.isos
 have he := h.embeds
 unfold endX0
 split
 ·exact h.tell rfl rfl rfl (by show x.isos - 1 ≤ _; omega) (by show x.embeds ≤ _; omega) (by simp [h8]) (by simp [h9])
 ·split
  ·rename_i h1 h2
   obtain ⟨s, b, a1, a2, a3, a4⟩ := h.bot
   obtain ⟨p, e, t, b1, b2, b3, b4, b5⟩ := drop_iso s b a2 (by omega)
   rw [← a1] at b4
   have hsub : (t ++ [b]).Sublist x.st := by
    rw [a1, b1, List.append_assoc]
    exact (List.Sublist.refl _).trans ((List.sublist_cons_self e (t ++ [b])).trans (List.sublist_append_right p _))
   have hv := h.valid
   refine ⟨h.base, ?_, ?_, ?_, ⟨t, b, b4, a2, a3, ?_⟩, by show x.isos ≤ _; omega, Nat.zero_le _, by show x.valid - 1 ≤ _; omega, by simp [h8], by simp [h9]⟩
   ·show unwind x.st ≠ []
    rw [b4]; simp
   ·show (unwind x.st).Pairwise _
    rw [b4]; exact h.mono.sublist hsub
   ·intro a ha
    have ha : a ∈ unwind x.st := ha
    rw [b4] at ha
    exact h.rng a (hsub.subset ha)
   ·show (t.filter (·.iso)).length = x.valid - 1
    omega
  ·exact h.tell rfl rfl rfl (by show x.isos ≤ _; omega) (by show x.embeds ≤ _; omega) (by simp [h8]) (by simp [h9])
theorem wf_put {x : X6} {k : Nat} {c : Int} (h : Wf x k) : Wf (putX x c) (k + 1) := by
 obtain ⟨e, st, hst⟩ := h.top
 have hi := h.isos
 have he := h.embeds
 unfold putX
 split
 ·rename_i h0; rw [hst] at h0; cases h0
 ·exact h.tell rfl rfl rfl (by show x.isos ≤ _; omega) (by show x.embeds ≤ _; omega) (by simp [h.levels]) (by simp [h.classes])
theorem wf_tellX {x : X6} {k : Nat} {z c : Int} (h : Wf x k) : Wf (tellX x z c) (k + 1) := by
 have hi := h.isos
 have he := h.embeds
 exact h.tell rfl rfl rfl (by show x.isos ≤ _; omega) (by show x.embeds ≤ _; omega) (by simp [tellX, h.levels]) (by simp [tellX, h.classes])
theorem wf_start {x : X6} {k : Nat} (h : x.base = 0 ∨ x.base = 1) (h1 : x.levels.length = k) (h2 : x.classes.length = k) : Wf (startX x) k := by
 refine ⟨h, by simp [startX], by simp [startX], ?_, ⟨[], ⟨x.base, -1, false⟩, rfl, rfl, rfl, rfl⟩, Nat.zero_le _, Nat.zero_le _, Nat.zero_le _, h1, h2⟩
 intro e he
 have : e = ⟨x.base, -1, false⟩ := by simpa [startX] using he
 subst this
 refine ⟨Int.le_refl _, ?_⟩
 show x.base ≤ 125
 omega
theorem wf_embed {x : X6} {k : Nat} {c : Int} (h : Wf x k) : Wf (embedX x c) (k + 1) := by
 obtain ⟨e, st, hst⟩ := h.top
 have hi := h.isos
 have he := h.embeds
 have hr := h.rng e (by rw [hst]; simp)
 have hb := h.base
 have hn := nextL_spec (k := e.lev) (d := dirOf c) (by omega) hr.2
 unfold embedX
 split
 ·rename_i h0; rw [hst] at h0; cases h0
 ·rename_i e' st' h0
  rw [hst] at h0
  injection h0 with h1 h2
  subst h1
  simp only
  split
  ·rename_i hf
   exact h.push (nextL e.lev (dirOf c)) (overOf c) false rfl rfl rfl (by show x.isos ≤ _; omega) (by show x.embeds ≤ _; omega) (by simp [pushX, h.levels]) (by simp [pushX, h.classes])
    (fun e2 st2 hs2 => by rw [hst] at hs2; injection hs2 with h3 _; subst h3; exact hn.1) (fits_le hf).1
  ·split
   ·exact h.tell rfl rfl rfl (by show x.isos ≤ _; omega) (by show x.embeds + 1 ≤ _; omega) (by simp [h.levels]) (by simp [h.classes])
   ·exact h.tell rfl rfl rfl (by show x.isos ≤ _; omega) (by show x.embeds ≤ _; omega) (by simp [h.levels]) (by simp [h.classes])
theorem wf_isolate {x : X6} {k : Nat} {l : List Int} {i c : Int} (h : Wf x k) : Wf (isolateX x l i c) (k + 1) := by
 obtain ⟨e, st, hst⟩ := h.top
 have hi := h.isos
 have he := h.embeds
 have hr := h.rng e (by rw [hst]; simp)
 have hb := h.base
 have hn := nextL_spec (k := e.lev) (d := isolate l i) (by omega) hr.2
 have hw := wf_put (c := c) h
 obtain ⟨p1, p2, p3, p4⟩ := putX_st x c
 have pb : (putX x c).base = x.base := by unfold putX; split <;> rfl
 unfold isolateX
 split
 ·rename_i h0; rw [hst] at h0; cases h0
 ·rename_i e' st' h0
  rw [hst] at h0
  injection h0 with h1 h2
  subst h1
  split
  ·rename_i hf
   exact h.push (nextL e.lev (isolate l i)) (-1) true pb (by show _ :: (putX x c).st = _; rw [p1]) (by show (putX x c).valid + 1 = _; rw [p2]; rfl) (by show (putX x c).isos ≤ _; omega) (by show (putX x c).embeds ≤ _; omega) hw.levels hw.classes
    (fun e2 st2 hs2 => by rw [hst] at hs2; injection hs2 with h3 _; subst h3; exact hn.1) (fits_le hf).1
  ·exact h.tell pb p1 p2 (by show (putX x c).isos + 1 ≤ _; omega) (by show (putX x c).embeds ≤ _; omega) hw.levels hw.classes
theorem wf_end {x : X6} {k : Nat} {c : Int} (h : Wf x k) : (∃ e st, (endX0 x).st = e :: st) ∧ Wf (endX x c) (k + 1) := by
 have hw := h.ended
 obtain ⟨e, st, hst⟩ := hw.top
 have hst' : (endX0 x).st = e :: st := hst
 have hl : (endX0 x).levels = x.levels ∧ (endX0 x).classes = x.classes := by unfold endX0; split <;> (try split) <;> exact ⟨rfl, rfl⟩
 refine ⟨⟨e, st, hst'⟩, ?_⟩
 unfold endX putX
 split
 ·rename_i h0; rw [hst'] at h0; cases h0
 ·exact ⟨hw.base, hw.ne, hw.mono, hw.rng, hw.bot, hw.isos, hw.embeds, hw.valid, by simp [hl, h.levels], by simp [hl, h.classes]⟩
theorem wf_back {x : X6} {k : Nat} (h : Wf x k) : Wf (backX x) (k + 1) := by
 obtain ⟨e, st, hst⟩ := h.top
 have hi := h.isos
 have he := h.embeds
 unfold backX
 split
 ·rename_i h0; rw [hst] at h0; cases h0
 ·rename_i e' st' h0
  rw [hst] at h0
  injection h0 with h1 h2
  subst h1
  subst h2
  simp only
  split
  ·exact h.tell rfl rfl rfl (by show x.isos ≤ _; omega) (by show x.embeds ≤ _; omega) (by simp [h.levels]) (by simp [h.classes])
  ·split
   ·exact h.tell rfl rfl rfl (by show x.isos ≤ _; omega) (by show x.embeds - 1 ≤ _; omega) (by simp [h.levels]) (by simp [h.classes])
   ·split
    ·rename_i hcond
     obtain ⟨s, b, a1, a2, a3, a4⟩ := h.bot
     have hv := h.valid
     have hs : ∃ s', s = e :: s' ∧ st = s' ++ [b] := by
      rw [hst] at a1
      cases s with
      | nil => simp at a1; have := a1.2; subst this; simp at hcond
      | cons a s' => simp at a1; exact ⟨s', by rw [a1.1], a1.2⟩
     obtain ⟨s', hs1, hs2⟩ := hs
     have hm := h.mono
     rw [hst] at hm
     refine ⟨h.base, ?_, (List.pairwise_cons.1 hm).2, fun a ha => h.rng a (by rw [hst]; exact List.mem_cons_of_mem _ ha), ⟨s', b, hs2, a2, a3, ?_⟩, by show x.isos ≤ _; omega, by show x.embeds ≤ _; omega, by show x.valid ≤ _; omega, by simp [h.levels], by simp [h.classes]⟩
     ·show st ≠ []
      rw [hs2]; simp
     ·rw [hs1, List.filter_cons, hcond.1] at a4
      simpa using a4
    ·exact h.tell rfl rfl rfl (by show x.isos ≤ _; omega) (by show x.embeds ≤ _; omega) (by simp [h.levels]) (by simp [h.classes])
theorem wf_step {x : X6} {k : Nat} (l : List Int) (c : Int) (h : Wf x k) : Wf (stepX l x k c) (k + 1) := by
 obtain ⟨e, st, hst⟩ := h.top
 unfold stepX
 split
 ·exact wf_embed h
 ·split
  ·exact wf_isolate h
  ·split
   ·exact (wf_end h).2
   ·split
    ·exact wf_back h
    ·split
     ·rw [hst]; exact wf_tellX h
     ·split
      ·exact wf_tellX (wf_start h.base h.levels h.classes)
      ·split
       ·exact wf_put h
       ·exact wf_put h
theorem wf_run (l : List Int) (base : Int) : ∀ k, Wf (runX l base k) k := by
 intro k
 induction k with
 | zero => exact wf_start (by show (if base = 0 then (0 : Int) else 1) = 0 ∨ (if base = 0 then (0 : Int) else 1) = 1; split <;> simp) rfl rfl
 | succ k ih => exact wf_step l _ ih
end Go.Proofs.Ytadfleopbpomfaa
