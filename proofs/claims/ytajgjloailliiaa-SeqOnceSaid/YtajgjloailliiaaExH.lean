/- Layer 6: the document's back. -/
import Derived.Test.YtajgjloailliiaaExG
namespace Go.Proofs.Ytajgjloailliiaa
open Go.RowKit

def backX (x : X6) : X6 := match x.st with
  | [] => x
  | e :: st =>
    let y : X6 := { x with levels := x.levels ++ [e.lev], classes := x.classes ++ [18] }
    if 0 < x.isos then y else if 0 < x.embeds then { y with embeds := x.embeds - 1 } else if e.iso = false ∧ 1 ≤ st.length then { y with st := st } else y
set_option maxRecDepth 20000 in
set_option maxHeartbeats 8000000 in
theorem back_any (w : World) (B g : Nat) (x : X6) (lsl : Value) (e : Ent) (st : List Ent) (hst : x.st = e :: st) (hx : HasX w B g x lsl) (hs : x.Small) :
    Calls Try.prog 41 #[.pointer (some ⟨g, 0, none⟩)] w fun ed w' => ed = .returned (.tuple #[]) ∧ HasX w' B g (backX x) lsl ∧ Below B w w' := by
  obtain ⟨sv, lv, cv, h⟩ := hx
  have hsm : x.st.length ≤ 1000000 := by have := hs.st; omega
  obtain ⟨Al, cl, rfl, _, _, _⟩ := h.levels.form
  obtain ⟨Ac, cc, rfl, _, _, _⟩ := h.classes.form
  have H := Lib.hid h
  have HST := Lib.hid hst
  have HS := Lib.hid hs
  have BW : Hid (Below B w w) := Lib.hid (Below.refl _ _)
  have hin := h.inside
  have hll := hs.lev
  have hcl := hs.cls
  clear h hst hs
  have hf0 := field0 e.lev e.over e.iso
  go_enter Try.func41, Try.ntmps41
  go_upto_region 0 with fail
  go_cut [] (fun wx => (∃ lv' cv', IsX wx B g { x with levels := x.levels ++ [e.lev], classes := x.classes ++ [18] } lsl sv lv' cv') ∧ Below B w wx)
  case first =>
    refine wp_region_E (S := fun w' => fieldsAt w' g x (.slice Al x.levels.length cl) (.slice Ac x.classes.length cc)) [19, 22] (by kernel_rfl) (H.out.seen) (fun hHeld hClosed => ?_)
    refine' wpAnyE_free (i := 0) (v := _) rfl (by kernel_rfl) (by kernel_rfl) (by kernel_rfl) (fun _ _ _ h => h) (Or.inl ⟨by rfl, fun u _ => ?_⟩) hClosed (fun hNext => ?_)
    rotate_left
    · go_simp
      try with_reducible rfl
    clear hClosed
    have hClosed := hNext
    clear hNext
    try simp only [Act.put, List.getElem_toArray, List.getElem_cons_zero, List.setIfInBounds_toArray, List.set_cons_zero, List.set_cons_succ]
    refine' wpAnyE_free (i := 1) (v := _) rfl (by kernel_rfl) (by kernel_rfl) (by kernel_rfl) (fun _ _ _ h => h) (Or.inl ⟨by rfl, fun u _ => ?_⟩) hClosed (fun hNext => ?_)
    rotate_left
    · go_simp
      try with_reducible rfl
    clear hClosed
    have hClosed := hNext
    clear hNext
    try simp only [Act.put, List.getElem_toArray, List.getElem_cons_zero, List.getElem_cons_succ, List.setIfInBounds_toArray, List.set_cons_zero, List.set_cons_succ]
    refine' wpAnyE_free (i := 2) (v := _) rfl (by kernel_rfl) (by kernel_rfl) (by kernel_rfl) (fun _ _ _ h => h) (Or.inl ⟨by rfl, fun u _ => ?_⟩) hClosed (fun hNext => ?_)
    rotate_left
    · go_simp
      try with_reducible rfl
    clear hClosed
    have hClosed := hNext
    clear hNext
    try simp only [Act.put, List.getElem_toArray, List.getElem_cons_zero, List.getElem_cons_succ, List.setIfInBounds_toArray, List.set_cons_zero, List.set_cons_succ]
    refine' wpAnyE_free (i := 3) (v := _) rfl (by kernel_rfl) (by kernel_rfl) (by kernel_rfl) (fun _ _ _ h => h) (Or.inl ⟨by rfl, fun u _ => ?_⟩) hClosed (fun hNext => ?_)
    rotate_left
    · go_simp
      try with_reducible rfl
    clear hClosed
    have hClosed := hNext
    clear hNext
    try simp only [Act.put, List.getElem_toArray, List.getElem_cons_zero, List.getElem_cons_succ, List.setIfInBounds_toArray, List.set_cons_zero, List.set_cons_succ]
    refine' wpAnyE_free (i := 4) (v := _) rfl (by kernel_rfl) (by kernel_rfl) (by kernel_rfl) (fun _ _ _ h => h) (Or.inl ⟨by rfl, fun u _ => ?_⟩) hClosed (fun hNext => ?_)
    rotate_left
    · go_simp
      try with_reducible rfl
    clear hClosed
    have hClosed := hNext
    clear hNext
    try simp only [Act.put, List.getElem_toArray, List.getElem_cons_zero, List.getElem_cons_succ, List.setIfInBounds_toArray, List.set_cons_zero, List.set_cons_succ]
    refine' wpAnyE_free (i := 6) (v := _) rfl (by kernel_rfl) (by kernel_rfl) (by kernel_rfl) (fun _ _ _ h => h) (Or.inl ⟨by rfl, fun u _ => ?_⟩) hClosed (fun hNext => ?_)
    rotate_left
    · go_simp
      try with_reducible rfl
    clear hClosed
    have hClosed := hNext
    clear hNext
    try simp only [Act.put, List.getElem_toArray, List.getElem_cons_zero, List.getElem_cons_succ, List.setIfInBounds_toArray, List.set_cons_zero, List.set_cons_succ]
    refine' wpAnyE_free (i := 11) (v := _) rfl (by kernel_rfl) (by kernel_rfl) (by kernel_rfl) (fun _ _ _ h => h) (Or.inl ⟨by rfl, fun u _ => ?_⟩) hClosed (fun hNext => ?_)
    rotate_left
    · go_simp
      try with_reducible rfl
    clear hClosed
    have hClosed := hNext
    clear hNext
    try simp only [Act.put, List.getElem_toArray, List.getElem_cons_zero, List.getElem_cons_succ, List.setIfInBounds_toArray, List.set_cons_zero, List.set_cons_succ]
    refine' wpAnyE_free (i := 12) (v := _) rfl (by kernel_rfl) (by kernel_rfl) (by kernel_rfl) (fun _ _ _ h => h) (Or.inl ⟨by rfl, fun u _ => ?_⟩) hClosed (fun hNext => ?_)
    rotate_left
    · go_simp
      try with_reducible rfl
    clear hClosed
    have hClosed := hNext
    clear hNext
    try simp only [Act.put, List.getElem_toArray, List.getElem_cons_zero, List.getElem_cons_succ, List.setIfInBounds_toArray, List.set_cons_zero, List.set_cons_succ]
    refine' wpAnyE_free (i := 13) (v := _) rfl (by kernel_rfl) (by kernel_rfl) (by kernel_rfl) (fun _ _ _ h => h) (Or.inl ⟨by rfl, fun u _ => ?_⟩) hClosed (fun hNext => ?_)
    rotate_left
    · go_simp
      try with_reducible rfl
    clear hClosed
    have hClosed := hNext
    clear hNext
    try simp only [Act.put, List.getElem_toArray, List.getElem_cons_zero, List.getElem_cons_succ, List.setIfInBounds_toArray, List.set_cons_zero, List.set_cons_succ]
    refine' wpAnyE_take (i := 5) (v := _) rfl (by kernel_rfl) (by kernel_rfl) (by kernel_rfl) (by kernel_rfl) (fun _ _ _ h => h) (Or.inl ⟨by rfl, fun u hu => ?_⟩) hHeld hClosed (fun hNext => ?_)
    rotate_left
    · (try dsimp only at hu)
      go_simp
      try with_reducible rfl
    clear hClosed
    have hClosed := hNext
    clear hNext
    try simp only [Act.put, List.getElem_toArray, List.getElem_cons_zero, List.getElem_cons_succ, List.setIfInBounds_toArray, List.set_cons_zero, List.set_cons_succ]
    refine' wpAnyE_take (i := 14) (v := _) rfl (by kernel_rfl) (by kernel_rfl) (by kernel_rfl) (by kernel_rfl) (fun _ _ _ h => h) (Or.inl ⟨by rfl, fun u hu => ?_⟩) hHeld hClosed (fun hNext => ?_)
    rotate_left
    · (try dsimp only at hu)
      go_simp
      try with_reducible rfl
    clear hClosed
    have hClosed := hNext
    clear hNext
    try simp only [Act.put, List.getElem_toArray, List.getElem_cons_zero, List.getElem_cons_succ, List.setIfInBounds_toArray, List.set_cons_zero, List.set_cons_succ]
    have X0 := Lib.hid (H.out.same (w' := w.drew) rfl)
    have B0 : Hid (Below B w w.drew) := Lib.hid (below_drawn BW.out 1)
    generalize w.drew = u0 at X0 B0 hHeld ⊢
    refine wpAnyE_ready (rs := [7, 15]) (by kernel_rfl) (by simp) ?_
    refine AllReadyE.cons rfl (fun K hK => ?_) (AllReadyE.cons rfl (fun K hK => ?_) AllReadyE.nil)
    · go_simp
      refine (top_any u0 B g _ lsl sv _ _ e st HST.out X0.out hsm).mono ?_
      rintro ed u1 ⟨rfl, b_⟩
      have X1 := Lib.hid (X0.out.below b_ (Nat.le_refl _))
      have B1 := Lib.hid (B0.out.trans (b_.mono X0.out.le))
      clear b_
      refine hK.out _ _ (fun _ => X1.out.seen) (fun hHeld => ?_) (fun hX => (by first | cases hX | simp at hX))
      replace hClosed := hClosed.step 7 (by kernel_rfl)
      clear hK K
      try simp only [Act.put, List.getElem_toArray, List.getElem_cons_zero, List.getElem_cons_succ, List.setIfInBounds_toArray, List.set_cons_zero, List.set_cons_succ]
      refine' wpAnyE_free (i := 8) (v := _) rfl (by kernel_rfl) (by kernel_rfl) (by kernel_rfl) (fun _ _ _ h => h) (Or.inl ⟨by rfl, fun u _ => ?_⟩) hClosed (fun hNext => ?_)
      rotate_left
      · go_simp
        try with_reducible rfl
      clear hClosed
      have hClosed := hNext
      clear hNext
      try simp only [Act.put, List.getElem_toArray, List.getElem_cons_zero, List.getElem_cons_succ, List.setIfInBounds_toArray, List.set_cons_zero, List.set_cons_succ]
      refine wpAnyE_ready (rs := [9, 15]) (by kernel_rfl) (by simp) ?_
      refine AllReadyE.cons rfl (fun K hK => ?_) (AllReadyE.cons rfl (fun K hK => ?_) AllReadyE.nil)
      · go_simp
        have X2 := Lib.hid (X1.out.alloc (.cells #[.int .i64 e.lev] 3))
        have T2 := Lib.hid (LitAt.new u1 3 #[.int .i64 e.lev])
        have B2 := Lib.hid (B1.out.trans ((below_alloc u1 (.cells #[.int .i64 e.lev] 3)).mono X1.out.le))
        refine hK.out _ _ (fun _ => X2.out.seen) (fun hHeld => ?_) (fun hX => (by first | cases hX | simp at hX))
        replace hClosed := hClosed.step 9 (by kernel_rfl)
        clear hK K
        try simp only [Act.put, List.getElem_toArray, List.getElem_cons_zero, List.getElem_cons_succ, List.setIfInBounds_toArray, List.set_cons_zero, List.set_cons_succ]
        generalize u1.alloc (.cells #[.int .i64 e.lev] 3) = u2 at X2 T2 B2 hHeld ⊢
        refine wpAnyE_ready (rs := [10, 15]) (by kernel_rfl) (by simp) ?_
        refine AllReadyE.cons rfl (fun K hK => ?_) (AllReadyE.cons rfl (fun K hK => ?_) AllReadyE.nil)
        · refine step_appN intsN u2 u2 B _ (.tmp 7) (.tmp 11) _ x.levels.length 1 (ints .i64 x.levels) [.int .i64 e.lev] _ _ rfl rfl rfl rfl X2.out.levels T2.out.lies rfl (by simp [Value.oneCell']) (Below.refl _ _) X2.out.le (by unfold maxLen; omega) (by omega) ?_
          intro v3 u3 o_ b_ g_ e_
          obtain ⟨A3, c3, rfl, _, _, _⟩ := o_.form
          have X3 := Lib.hid (X2.out.appL o_ g_ e_)
          have B3 := Lib.hid (B2.out.trans b_)
          clear o_ b_ g_ e_
          refine hK.out _ _ (fun _ => X3.out.seen) (fun hHeld => ?_) (fun hX => (by first | cases hX | simp at hX))
          replace hClosed := hClosed.step 10 (by kernel_rfl)
          clear hK K
          try simp only [Act.put, List.getElem_toArray, List.getElem_cons_zero, List.getElem_cons_succ, List.setIfInBounds_toArray, List.set_cons_zero, List.set_cons_succ]
          refine wpAnyE_ready (rs := [15]) (by kernel_rfl) (by simp) ?_
          refine AllReadyE.cons rfl (fun K hK => ?_) AllReadyE.nil
          go_simp
          have X4 := Lib.hid (X3.out.alloc (.cells #[.int .i64 18] 3))
          have T4 := Lib.hid (LitAt.new u3 3 #[.int .i64 18])
          have B4 := Lib.hid (B3.out.trans ((below_alloc u3 (.cells #[.int .i64 18] 3)).mono X3.out.le))
          refine hK.out _ _ (fun _ => X4.out.seen) (fun hHeld => ?_) (fun hX => (by first | cases hX | simp at hX))
          replace hClosed := hClosed.step 15 (by kernel_rfl)
          clear hK K
          try simp only [Act.put, List.getElem_toArray, List.getElem_cons_zero, List.getElem_cons_succ, List.setIfInBounds_toArray, List.set_cons_zero, List.set_cons_succ]
          generalize u3.alloc (.cells #[.int .i64 18] 3) = u4 at X4 T4 B4 hHeld ⊢
          refine wpAnyE_ready (rs := [16]) (by kernel_rfl) (by simp) ?_
          refine AllReadyE.cons rfl (fun K hK => ?_) AllReadyE.nil
          refine step_appN intsN u4 u4 B _ (.tmp 16) (.tmp 17) _ x.classes.length 1 (ints .i64 x.classes) [.int .i64 18] _ _ rfl rfl rfl rfl X4.out.classes T4.out.lies rfl (by simp [Value.oneCell']) (Below.refl _ _) X4.out.le (by unfold maxLen; omega) (by omega) ?_
          intro v5 u5 o_ b_ g_ e_
          obtain ⟨A5, c5, rfl, _, _, _⟩ := o_.form
          have X5 := Lib.hid (X4.out.appC o_ g_ e_)
          have B5 := Lib.hid (B4.out.trans b_)
          clear o_ b_ g_ e_
          refine hK.out _ _ (fun _ => X5.out.seen) (fun hHeld => ?_) (fun hX => (by first | cases hX | simp at hX))
          replace hClosed := hClosed.step 16 (by kernel_rfl)
          clear hK K
          try simp only [Act.put, List.getElem_toArray, List.getElem_cons_zero, List.getElem_cons_succ, List.setIfInBounds_toArray, List.set_cons_zero, List.set_cons_succ]
          refine' wpAnyE_free (i := 17) (v := _) rfl (by kernel_rfl) (by kernel_rfl) (by kernel_rfl) (fun _ _ _ h => h) (Or.inl ⟨by rfl, fun u _ => ?_⟩) hClosed (fun hNext => ?_)
          rotate_left
          · go_simp
            try with_reducible rfl
          clear hClosed
          have hClosed := hNext
          clear hNext
          try simp only [Act.put, List.getElem_toArray, List.getElem_cons_zero, List.getElem_cons_succ, List.setIfInBounds_toArray, List.set_cons_zero, List.set_cons_succ]
          refine' wpAnyE_free (i := 18) (v := _) rfl (by kernel_rfl) (by kernel_rfl) (by kernel_rfl) (fun _ _ _ h => h) (Or.inl ⟨by rfl, fun u _ => ?_⟩) hClosed (fun hNext => ?_)
          rotate_left
          · go_simp
            try with_reducible rfl
          clear hClosed
          have hClosed := hNext
          clear hNext
          try simp only [Act.put, List.getElem_toArray, List.getElem_cons_zero, List.getElem_cons_succ, List.setIfInBounds_toArray, List.set_cons_zero, List.set_cons_succ]
          refine wpAnyE_ready (rs := [19]) (by kernel_rfl) (by simp) ?_
          refine AllReadyE.cons rfl (fun K hK => ?_) AllReadyE.nil
          refine step_store u5 B (.tmp 20) (.tmp 12) g 6 9 _ _ u5 rfl rfl rfl (by kernel_rfl) rfl rfl rfl X5.out.row (by simp [X6.cells]) (Below.refl _ _) ?_
          intro u6 r_ b_ g_
          have R6 := Lib.hid r_
          have G6 := Lib.hid g_
          have B6 := Lib.hid (B5.out.trans b_)
          clear r_ b_ g_
          refine (fun hrest => hK.out _ _ (fun hX => (by first | cases hX | simp at hX)) (fun _ => hrest) (fun _ => hrest)) ?_
          replace hClosed := hClosed.step 19 (by kernel_rfl)
          clear hK K
          try simp only [Act.put, List.getElem_toArray, List.getElem_cons_zero, List.getElem_cons_succ, List.setIfInBounds_toArray, List.set_cons_zero, List.set_cons_succ]
          refine' wpAnyE_free (i := 20) (v := _) rfl (by kernel_rfl) (by kernel_rfl) (by kernel_rfl) (fun _ _ _ h => h) (Or.inl ⟨by rfl, fun u _ => ?_⟩) hClosed (fun hNext => ?_)
          rotate_left
          · go_simp
            try with_reducible rfl
          clear hClosed
          have hClosed := hNext
          clear hNext
          try simp only [Act.put, List.getElem_toArray, List.getElem_cons_zero, List.getElem_cons_succ, List.setIfInBounds_toArray, List.set_cons_zero, List.set_cons_succ]
          refine' wpAnyE_free (i := 21) (v := _) rfl (by kernel_rfl) (by kernel_rfl) (by kernel_rfl) (fun _ _ _ h => h) (Or.inl ⟨by rfl, fun u _ => ?_⟩) hClosed (fun hNext => ?_)
          rotate_left
          · go_simp
            try with_reducible rfl
          clear hClosed
          have hClosed := hNext
          clear hNext
          try simp only [Act.put, List.getElem_toArray, List.getElem_cons_zero, List.getElem_cons_succ, List.setIfInBounds_toArray, List.set_cons_zero, List.set_cons_succ]
          refine wpAnyE_ready (rs := [22]) (by kernel_rfl) (by simp) ?_
          refine AllReadyE.cons rfl (fun K hK => ?_) AllReadyE.nil
          refine step_store u6 B (.tmp 22) (.tmp 18) g 7 9 _ _ u6 rfl rfl rfl (by kernel_rfl) rfl rfl rfl R6.out (by simp [X6.cells]) (Below.refl _ _) ?_
          intro u7 r_ b_ g_
          have XF := Lib.hid (X5.out.done R6.out G6.out r_ g_)
          have BF := Lib.hid (B6.out.trans b_)
          clear r_ b_ g_
          refine (fun hrest => hK.out _ _ (fun hX => (by first | cases hX | simp at hX)) (fun _ => hrest) (fun _ => hrest)) ?_
          replace hClosed := hClosed.step 22 (by kernel_rfl)
          clear hK K
          try simp only [Act.put, List.getElem_toArray, List.getElem_cons_zero, List.getElem_cons_succ, List.setIfInBounds_toArray, List.set_cons_zero, List.set_cons_succ]
          refine wpAnyE_done (by kernel_rfl) ?_ _
          clear hClosed
          go_wp2_with fail
          go_meet
          exact ⟨⟨_, _, XF.out⟩, BF.out⟩
        · have N3 := Lib.hid (X2.out.newL)
          go_simp
          have X3 := Lib.hid (X2.out.alloc (.cells #[.int .i64 18] 3))
          have T3 := Lib.hid (LitAt.new u2 3 #[.int .i64 18])
          have B3 := Lib.hid (B2.out.trans ((below_alloc u2 (.cells #[.int .i64 18] 3)).mono X2.out.le))
          have T2_3 := Lib.hid (T2.out.alloc (.cells #[.int .i64 18] 3))
          refine hK.out _ _ (fun _ => X3.out.seen) (fun hHeld => ?_) (fun hX => (by first | cases hX | simp at hX))
          replace hClosed := hClosed.step 15 (by kernel_rfl)
          clear hK K
          try simp only [Act.put, List.getElem_toArray, List.getElem_cons_zero, List.getElem_cons_succ, List.setIfInBounds_toArray, List.set_cons_zero, List.set_cons_succ]
          generalize u2.alloc (.cells #[.int .i64 18] 3) = u3 at X3 T3 B3 T2_3 hHeld ⊢
          refine wpAnyE_ready (rs := [10]) (by kernel_rfl) (by simp) ?_
          refine AllReadyE.cons rfl (fun K hK => ?_) AllReadyE.nil
          refine step_appN intsN u3 u3 B _ (.tmp 7) (.tmp 11) _ x.levels.length 1 (ints .i64 x.levels) [.int .i64 e.lev] _ _ rfl rfl rfl rfl X3.out.levels T2_3.out.lies rfl (by simp [Value.oneCell']) (Below.refl _ _) X3.out.le (by unfold maxLen; omega) (by omega) ?_
          intro v4 u4 o_ b_ g_ e_
          obtain ⟨A4, c4, rfl, _, _, _⟩ := o_.form
          have X4 := Lib.hid (X3.out.appL o_ g_ e_)
          have B4 := Lib.hid (B3.out.trans b_)
          have T3_4 := Lib.hid (T3.out.grown g_ N3.out)
          clear o_ b_ g_ e_
          refine hK.out _ _ (fun _ => X4.out.seen) (fun hHeld => ?_) (fun hX => (by first | cases hX | simp at hX))
          replace hClosed := hClosed.step 10 (by kernel_rfl)
          clear hK K
          try simp only [Act.put, List.getElem_toArray, List.getElem_cons_zero, List.getElem_cons_succ, List.setIfInBounds_toArray, List.set_cons_zero, List.set_cons_succ]
          refine wpAnyE_ready (rs := [16]) (by kernel_rfl) (by simp) ?_
          refine AllReadyE.cons rfl (fun K hK => ?_) AllReadyE.nil
          refine step_appN intsN u4 u4 B _ (.tmp 16) (.tmp 17) _ x.classes.length 1 (ints .i64 x.classes) [.int .i64 18] _ _ rfl rfl rfl rfl X4.out.classes T3_4.out.lies rfl (by simp [Value.oneCell']) (Below.refl _ _) X4.out.le (by unfold maxLen; omega) (by omega) ?_
          intro v5 u5 o_ b_ g_ e_
          obtain ⟨A5, c5, rfl, _, _, _⟩ := o_.form
          have X5 := Lib.hid (X4.out.appC o_ g_ e_)
          have B5 := Lib.hid (B4.out.trans b_)
          clear o_ b_ g_ e_
          refine hK.out _ _ (fun _ => X5.out.seen) (fun hHeld => ?_) (fun hX => (by first | cases hX | simp at hX))
          replace hClosed := hClosed.step 16 (by kernel_rfl)
          clear hK K
          try simp only [Act.put, List.getElem_toArray, List.getElem_cons_zero, List.getElem_cons_succ, List.setIfInBounds_toArray, List.set_cons_zero, List.set_cons_succ]
          refine' wpAnyE_free (i := 17) (v := _) rfl (by kernel_rfl) (by kernel_rfl) (by kernel_rfl) (fun _ _ _ h => h) (Or.inl ⟨by rfl, fun u _ => ?_⟩) hClosed (fun hNext => ?_)
          rotate_left
          · go_simp
            try with_reducible rfl
          clear hClosed
          have hClosed := hNext
          clear hNext
          try simp only [Act.put, List.getElem_toArray, List.getElem_cons_zero, List.getElem_cons_succ, List.setIfInBounds_toArray, List.set_cons_zero, List.set_cons_succ]
          refine' wpAnyE_free (i := 18) (v := _) rfl (by kernel_rfl) (by kernel_rfl) (by kernel_rfl) (fun _ _ _ h => h) (Or.inl ⟨by rfl, fun u _ => ?_⟩) hClosed (fun hNext => ?_)
          rotate_left
          · go_simp
            try with_reducible rfl
          clear hClosed
          have hClosed := hNext
          clear hNext
          try simp only [Act.put, List.getElem_toArray, List.getElem_cons_zero, List.getElem_cons_succ, List.setIfInBounds_toArray, List.set_cons_zero, List.set_cons_succ]
          refine wpAnyE_ready (rs := [19]) (by kernel_rfl) (by simp) ?_
          refine AllReadyE.cons rfl (fun K hK => ?_) AllReadyE.nil
          refine step_store u5 B (.tmp 20) (.tmp 12) g 6 9 _ _ u5 rfl rfl rfl (by kernel_rfl) rfl rfl rfl X5.out.row (by simp [X6.cells]) (Below.refl _ _) ?_
          intro u6 r_ b_ g_
          have R6 := Lib.hid r_
          have G6 := Lib.hid g_
          have B6 := Lib.hid (B5.out.trans b_)
          clear r_ b_ g_
          refine (fun hrest => hK.out _ _ (fun hX => (by first | cases hX | simp at hX)) (fun _ => hrest) (fun _ => hrest)) ?_
          replace hClosed := hClosed.step 19 (by kernel_rfl)
          clear hK K
          try simp only [Act.put, List.getElem_toArray, List.getElem_cons_zero, List.getElem_cons_succ, List.setIfInBounds_toArray, List.set_cons_zero, List.set_cons_succ]
          refine' wpAnyE_free (i := 20) (v := _) rfl (by kernel_rfl) (by kernel_rfl) (by kernel_rfl) (fun _ _ _ h => h) (Or.inl ⟨by rfl, fun u _ => ?_⟩) hClosed (fun hNext => ?_)
          rotate_left
          · go_simp
            try with_reducible rfl
          clear hClosed
          have hClosed := hNext
          clear hNext
          try simp only [Act.put, List.getElem_toArray, List.getElem_cons_zero, List.getElem_cons_succ, List.setIfInBounds_toArray, List.set_cons_zero, List.set_cons_succ]
          refine' wpAnyE_free (i := 21) (v := _) rfl (by kernel_rfl) (by kernel_rfl) (by kernel_rfl) (fun _ _ _ h => h) (Or.inl ⟨by rfl, fun u _ => ?_⟩) hClosed (fun hNext => ?_)
          rotate_left
          · go_simp
            try with_reducible rfl
          clear hClosed
          have hClosed := hNext
          clear hNext
          try simp only [Act.put, List.getElem_toArray, List.getElem_cons_zero, List.getElem_cons_succ, List.setIfInBounds_toArray, List.set_cons_zero, List.set_cons_succ]
          refine wpAnyE_ready (rs := [22]) (by kernel_rfl) (by simp) ?_
          refine AllReadyE.cons rfl (fun K hK => ?_) AllReadyE.nil
          refine step_store u6 B (.tmp 22) (.tmp 18) g 7 9 _ _ u6 rfl rfl rfl (by kernel_rfl) rfl rfl rfl R6.out (by simp [X6.cells]) (Below.refl _ _) ?_
          intro u7 r_ b_ g_
          have XF := Lib.hid (X5.out.done R6.out G6.out r_ g_)
          have BF := Lib.hid (B6.out.trans b_)
          clear r_ b_ g_
          refine (fun hrest => hK.out _ _ (fun hX => (by first | cases hX | simp at hX)) (fun _ => hrest) (fun _ => hrest)) ?_
          replace hClosed := hClosed.step 22 (by kernel_rfl)
          clear hK K
          try simp only [Act.put, List.getElem_toArray, List.getElem_cons_zero, List.getElem_cons_succ, List.setIfInBounds_toArray, List.set_cons_zero, List.set_cons_succ]
          refine wpAnyE_done (by kernel_rfl) ?_ _
          clear hClosed
          go_wp2_with fail
          go_meet
          exact ⟨⟨_, _, XF.out⟩, BF.out⟩
      · have N2 := Lib.hid (X1.out.newL)
        go_simp
        have X2 := Lib.hid (X1.out.alloc (.cells #[.int .i64 18] 3))
        have T2 := Lib.hid (LitAt.new u1 3 #[.int .i64 18])
        have B2 := Lib.hid (B1.out.trans ((below_alloc u1 (.cells #[.int .i64 18] 3)).mono X1.out.le))
        refine hK.out _ _ (fun _ => X2.out.seen) (fun hHeld => ?_) (fun hX => (by first | cases hX | simp at hX))
        replace hClosed := hClosed.step 15 (by kernel_rfl)
        clear hK K
        try simp only [Act.put, List.getElem_toArray, List.getElem_cons_zero, List.getElem_cons_succ, List.setIfInBounds_toArray, List.set_cons_zero, List.set_cons_succ]
        generalize u1.alloc (.cells #[.int .i64 18] 3) = u2 at X2 T2 B2 hHeld ⊢
        refine wpAnyE_ready (rs := [9]) (by kernel_rfl) (by simp) ?_
        refine AllReadyE.cons rfl (fun K hK => ?_) AllReadyE.nil
        go_simp
        have X3 := Lib.hid (X2.out.alloc (.cells #[.int .i64 e.lev] 3))
        have T3 := Lib.hid (LitAt.new u2 3 #[.int .i64 e.lev])
        have B3 := Lib.hid (B2.out.trans ((below_alloc u2 (.cells #[.int .i64 e.lev] 3)).mono X2.out.le))
        have T2_3 := Lib.hid (T2.out.alloc (.cells #[.int .i64 e.lev] 3))
        refine hK.out _ _ (fun _ => X3.out.seen) (fun hHeld => ?_) (fun hX => (by first | cases hX | simp at hX))
        replace hClosed := hClosed.step 9 (by kernel_rfl)
        clear hK K
        try simp only [Act.put, List.getElem_toArray, List.getElem_cons_zero, List.getElem_cons_succ, List.setIfInBounds_toArray, List.set_cons_zero, List.set_cons_succ]
        generalize u2.alloc (.cells #[.int .i64 e.lev] 3) = u3 at X3 T3 B3 T2_3 hHeld ⊢
        refine wpAnyE_ready (rs := [10]) (by kernel_rfl) (by simp) ?_
        refine AllReadyE.cons rfl (fun K hK => ?_) AllReadyE.nil
        refine step_appN intsN u3 u3 B _ (.tmp 7) (.tmp 11) _ x.levels.length 1 (ints .i64 x.levels) [.int .i64 e.lev] _ _ rfl rfl rfl rfl X3.out.levels T3.out.lies rfl (by simp [Value.oneCell']) (Below.refl _ _) X3.out.le (by unfold maxLen; omega) (by omega) ?_
        intro v4 u4 o_ b_ g_ e_
        obtain ⟨A4, c4, rfl, _, _, _⟩ := o_.form
        have X4 := Lib.hid (X3.out.appL o_ g_ e_)
        have B4 := Lib.hid (B3.out.trans b_)
        have T2_3_4 := Lib.hid (T2_3.out.grown g_ N2.out)
        clear o_ b_ g_ e_
        refine hK.out _ _ (fun _ => X4.out.seen) (fun hHeld => ?_) (fun hX => (by first | cases hX | simp at hX))
        replace hClosed := hClosed.step 10 (by kernel_rfl)
        clear hK K
        try simp only [Act.put, List.getElem_toArray, List.getElem_cons_zero, List.getElem_cons_succ, List.setIfInBounds_toArray, List.set_cons_zero, List.set_cons_succ]
        refine wpAnyE_ready (rs := [16]) (by kernel_rfl) (by simp) ?_
        refine AllReadyE.cons rfl (fun K hK => ?_) AllReadyE.nil
        refine step_appN intsN u4 u4 B _ (.tmp 16) (.tmp 17) _ x.classes.length 1 (ints .i64 x.classes) [.int .i64 18] _ _ rfl rfl rfl rfl X4.out.classes T2_3_4.out.lies rfl (by simp [Value.oneCell']) (Below.refl _ _) X4.out.le (by unfold maxLen; omega) (by omega) ?_
        intro v5 u5 o_ b_ g_ e_
        obtain ⟨A5, c5, rfl, _, _, _⟩ := o_.form
        have X5 := Lib.hid (X4.out.appC o_ g_ e_)
        have B5 := Lib.hid (B4.out.trans b_)
        clear o_ b_ g_ e_
        refine hK.out _ _ (fun _ => X5.out.seen) (fun hHeld => ?_) (fun hX => (by first | cases hX | simp at hX))
        replace hClosed := hClosed.step 16 (by kernel_rfl)
        clear hK K
        try simp only [Act.put, List.getElem_toArray, List.getElem_cons_zero, List.getElem_cons_succ, List.setIfInBounds_toArray, List.set_cons_zero, List.set_cons_succ]
        refine' wpAnyE_free (i := 17) (v := _) rfl (by kernel_rfl) (by kernel_rfl) (by kernel_rfl) (fun _ _ _ h => h) (Or.inl ⟨by rfl, fun u _ => ?_⟩) hClosed (fun hNext => ?_)
        rotate_left
        · go_simp
          try with_reducible rfl
        clear hClosed
        have hClosed := hNext
        clear hNext
        try simp only [Act.put, List.getElem_toArray, List.getElem_cons_zero, List.getElem_cons_succ, List.setIfInBounds_toArray, List.set_cons_zero, List.set_cons_succ]
        refine' wpAnyE_free (i := 18) (v := _) rfl (by kernel_rfl) (by kernel_rfl) (by kernel_rfl) (fun _ _ _ h => h) (Or.inl ⟨by rfl, fun u _ => ?_⟩) hClosed (fun hNext => ?_)
        rotate_left
        · go_simp
          try with_reducible rfl
        clear hClosed
        have hClosed := hNext
        clear hNext
        try simp only [Act.put, List.getElem_toArray, List.getElem_cons_zero, List.getElem_cons_succ, List.setIfInBounds_toArray, List.set_cons_zero, List.set_cons_succ]
        refine wpAnyE_ready (rs := [19]) (by kernel_rfl) (by simp) ?_
        refine AllReadyE.cons rfl (fun K hK => ?_) AllReadyE.nil
        refine step_store u5 B (.tmp 20) (.tmp 12) g 6 9 _ _ u5 rfl rfl rfl (by kernel_rfl) rfl rfl rfl X5.out.row (by simp [X6.cells]) (Below.refl _ _) ?_
        intro u6 r_ b_ g_
        have R6 := Lib.hid r_
        have G6 := Lib.hid g_
        have B6 := Lib.hid (B5.out.trans b_)
        clear r_ b_ g_
        refine (fun hrest => hK.out _ _ (fun hX => (by first | cases hX | simp at hX)) (fun _ => hrest) (fun _ => hrest)) ?_
        replace hClosed := hClosed.step 19 (by kernel_rfl)
        clear hK K
        try simp only [Act.put, List.getElem_toArray, List.getElem_cons_zero, List.getElem_cons_succ, List.setIfInBounds_toArray, List.set_cons_zero, List.set_cons_succ]
        refine' wpAnyE_free (i := 20) (v := _) rfl (by kernel_rfl) (by kernel_rfl) (by kernel_rfl) (fun _ _ _ h => h) (Or.inl ⟨by rfl, fun u _ => ?_⟩) hClosed (fun hNext => ?_)
        rotate_left
        · go_simp
          try with_reducible rfl
        clear hClosed
        have hClosed := hNext
        clear hNext
        try simp only [Act.put, List.getElem_toArray, List.getElem_cons_zero, List.getElem_cons_succ, List.setIfInBounds_toArray, List.set_cons_zero, List.set_cons_succ]
        refine' wpAnyE_free (i := 21) (v := _) rfl (by kernel_rfl) (by kernel_rfl) (by kernel_rfl) (fun _ _ _ h => h) (Or.inl ⟨by rfl, fun u _ => ?_⟩) hClosed (fun hNext => ?_)
        rotate_left
        · go_simp
          try with_reducible rfl
        clear hClosed
        have hClosed := hNext
        clear hNext
        try simp only [Act.put, List.getElem_toArray, List.getElem_cons_zero, List.getElem_cons_succ, List.setIfInBounds_toArray, List.set_cons_zero, List.set_cons_succ]
        refine wpAnyE_ready (rs := [22]) (by kernel_rfl) (by simp) ?_
        refine AllReadyE.cons rfl (fun K hK => ?_) AllReadyE.nil
        refine step_store u6 B (.tmp 22) (.tmp 18) g 7 9 _ _ u6 rfl rfl rfl (by kernel_rfl) rfl rfl rfl R6.out (by simp [X6.cells]) (Below.refl _ _) ?_
        intro u7 r_ b_ g_
        have XF := Lib.hid (X5.out.done R6.out G6.out r_ g_)
        have BF := Lib.hid (B6.out.trans b_)
        clear r_ b_ g_
        refine (fun hrest => hK.out _ _ (fun hX => (by first | cases hX | simp at hX)) (fun _ => hrest) (fun _ => hrest)) ?_
        replace hClosed := hClosed.step 22 (by kernel_rfl)
        clear hK K
        try simp only [Act.put, List.getElem_toArray, List.getElem_cons_zero, List.getElem_cons_succ, List.setIfInBounds_toArray, List.set_cons_zero, List.set_cons_succ]
        refine wpAnyE_done (by kernel_rfl) ?_ _
        clear hClosed
        go_wp2_with fail
        go_meet
        exact ⟨⟨_, _, XF.out⟩, BF.out⟩
    · have N1 := Lib.hid (X0.out.newL)
      go_simp
      have X1 := Lib.hid (X0.out.alloc (.cells #[.int .i64 18] 3))
      have T1 := Lib.hid (LitAt.new u0 3 #[.int .i64 18])
      have B1 := Lib.hid (B0.out.trans ((below_alloc u0 (.cells #[.int .i64 18] 3)).mono X0.out.le))
      refine hK.out _ _ (fun _ => X1.out.seen) (fun hHeld => ?_) (fun hX => (by first | cases hX | simp at hX))
      replace hClosed := hClosed.step 15 (by kernel_rfl)
      clear hK K
      try simp only [Act.put, List.getElem_toArray, List.getElem_cons_zero, List.getElem_cons_succ, List.setIfInBounds_toArray, List.set_cons_zero, List.set_cons_succ]
      generalize u0.alloc (.cells #[.int .i64 18] 3) = u1 at X1 T1 B1 hHeld ⊢
      refine wpAnyE_ready (rs := [7]) (by kernel_rfl) (by simp) ?_
      refine AllReadyE.cons rfl (fun K hK => ?_) AllReadyE.nil
      go_simp
      refine (top_any u1 B g _ lsl sv _ _ e st HST.out X1.out hsm).mono ?_
      rintro ed u2 ⟨rfl, b_⟩
      have X2 := Lib.hid (X1.out.below b_ (Nat.le_refl _))
      have B2 := Lib.hid (B1.out.trans (b_.mono X1.out.le))
      have T1_2 := Lib.hid (T1.out.below b_)
      clear b_
      refine hK.out _ _ (fun _ => X2.out.seen) (fun hHeld => ?_) (fun hX => (by first | cases hX | simp at hX))
      replace hClosed := hClosed.step 7 (by kernel_rfl)
      clear hK K
      try simp only [Act.put, List.getElem_toArray, List.getElem_cons_zero, List.getElem_cons_succ, List.setIfInBounds_toArray, List.set_cons_zero, List.set_cons_succ]
      refine' wpAnyE_free (i := 8) (v := _) rfl (by kernel_rfl) (by kernel_rfl) (by kernel_rfl) (fun _ _ _ h => h) (Or.inl ⟨by rfl, fun u _ => ?_⟩) hClosed (fun hNext => ?_)
      rotate_left
      · go_simp
        try with_reducible rfl
      clear hClosed
      have hClosed := hNext
      clear hNext
      try simp only [Act.put, List.getElem_toArray, List.getElem_cons_zero, List.getElem_cons_succ, List.setIfInBounds_toArray, List.set_cons_zero, List.set_cons_succ]
      refine wpAnyE_ready (rs := [9]) (by kernel_rfl) (by simp) ?_
      refine AllReadyE.cons rfl (fun K hK => ?_) AllReadyE.nil
      go_simp
      have X3 := Lib.hid (X2.out.alloc (.cells #[.int .i64 e.lev] 3))
      have T3 := Lib.hid (LitAt.new u2 3 #[.int .i64 e.lev])
      have B3 := Lib.hid (B2.out.trans ((below_alloc u2 (.cells #[.int .i64 e.lev] 3)).mono X2.out.le))
      have T1_2_3 := Lib.hid (T1_2.out.alloc (.cells #[.int .i64 e.lev] 3))
      refine hK.out _ _ (fun _ => X3.out.seen) (fun hHeld => ?_) (fun hX => (by first | cases hX | simp at hX))
      replace hClosed := hClosed.step 9 (by kernel_rfl)
      clear hK K
      try simp only [Act.put, List.getElem_toArray, List.getElem_cons_zero, List.getElem_cons_succ, List.setIfInBounds_toArray, List.set_cons_zero, List.set_cons_succ]
      generalize u2.alloc (.cells #[.int .i64 e.lev] 3) = u3 at X3 T3 B3 T1_2_3 hHeld ⊢
      refine wpAnyE_ready (rs := [10]) (by kernel_rfl) (by simp) ?_
      refine AllReadyE.cons rfl (fun K hK => ?_) AllReadyE.nil
      refine step_appN intsN u3 u3 B _ (.tmp 7) (.tmp 11) _ x.levels.length 1 (ints .i64 x.levels) [.int .i64 e.lev] _ _ rfl rfl rfl rfl X3.out.levels T3.out.lies rfl (by simp [Value.oneCell']) (Below.refl _ _) X3.out.le (by unfold maxLen; omega) (by omega) ?_
      intro v4 u4 o_ b_ g_ e_
      obtain ⟨A4, c4, rfl, _, _, _⟩ := o_.form
      have X4 := Lib.hid (X3.out.appL o_ g_ e_)
      have B4 := Lib.hid (B3.out.trans b_)
      have T1_2_3_4 := Lib.hid (T1_2_3.out.grown g_ N1.out)
      clear o_ b_ g_ e_
      refine hK.out _ _ (fun _ => X4.out.seen) (fun hHeld => ?_) (fun hX => (by first | cases hX | simp at hX))
      replace hClosed := hClosed.step 10 (by kernel_rfl)
      clear hK K
      try simp only [Act.put, List.getElem_toArray, List.getElem_cons_zero, List.getElem_cons_succ, List.setIfInBounds_toArray, List.set_cons_zero, List.set_cons_succ]
      refine wpAnyE_ready (rs := [16]) (by kernel_rfl) (by simp) ?_
      refine AllReadyE.cons rfl (fun K hK => ?_) AllReadyE.nil
      refine step_appN intsN u4 u4 B _ (.tmp 16) (.tmp 17) _ x.classes.length 1 (ints .i64 x.classes) [.int .i64 18] _ _ rfl rfl rfl rfl X4.out.classes T1_2_3_4.out.lies rfl (by simp [Value.oneCell']) (Below.refl _ _) X4.out.le (by unfold maxLen; omega) (by omega) ?_
      intro v5 u5 o_ b_ g_ e_
      obtain ⟨A5, c5, rfl, _, _, _⟩ := o_.form
      have X5 := Lib.hid (X4.out.appC o_ g_ e_)
      have B5 := Lib.hid (B4.out.trans b_)
      clear o_ b_ g_ e_
      refine hK.out _ _ (fun _ => X5.out.seen) (fun hHeld => ?_) (fun hX => (by first | cases hX | simp at hX))
      replace hClosed := hClosed.step 16 (by kernel_rfl)
      clear hK K
      try simp only [Act.put, List.getElem_toArray, List.getElem_cons_zero, List.getElem_cons_succ, List.setIfInBounds_toArray, List.set_cons_zero, List.set_cons_succ]
      refine' wpAnyE_free (i := 17) (v := _) rfl (by kernel_rfl) (by kernel_rfl) (by kernel_rfl) (fun _ _ _ h => h) (Or.inl ⟨by rfl, fun u _ => ?_⟩) hClosed (fun hNext => ?_)
      rotate_left
      · go_simp
        try with_reducible rfl
      clear hClosed
      have hClosed := hNext
      clear hNext
      try simp only [Act.put, List.getElem_toArray, List.getElem_cons_zero, List.getElem_cons_succ, List.setIfInBounds_toArray, List.set_cons_zero, List.set_cons_succ]
      refine' wpAnyE_free (i := 18) (v := _) rfl (by kernel_rfl) (by kernel_rfl) (by kernel_rfl) (fun _ _ _ h => h) (Or.inl ⟨by rfl, fun u _ => ?_⟩) hClosed (fun hNext => ?_)
      rotate_left
      · go_simp
        try with_reducible rfl
      clear hClosed
      have hClosed := hNext
      clear hNext
      try simp only [Act.put, List.getElem_toArray, List.getElem_cons_zero, List.getElem_cons_succ, List.setIfInBounds_toArray, List.set_cons_zero, List.set_cons_succ]
      refine wpAnyE_ready (rs := [19]) (by kernel_rfl) (by simp) ?_
      refine AllReadyE.cons rfl (fun K hK => ?_) AllReadyE.nil
      refine step_store u5 B (.tmp 20) (.tmp 12) g 6 9 _ _ u5 rfl rfl rfl (by kernel_rfl) rfl rfl rfl X5.out.row (by simp [X6.cells]) (Below.refl _ _) ?_
      intro u6 r_ b_ g_
      have R6 := Lib.hid r_
      have G6 := Lib.hid g_
      have B6 := Lib.hid (B5.out.trans b_)
      clear r_ b_ g_
      refine (fun hrest => hK.out _ _ (fun hX => (by first | cases hX | simp at hX)) (fun _ => hrest) (fun _ => hrest)) ?_
      replace hClosed := hClosed.step 19 (by kernel_rfl)
      clear hK K
      try simp only [Act.put, List.getElem_toArray, List.getElem_cons_zero, List.getElem_cons_succ, List.setIfInBounds_toArray, List.set_cons_zero, List.set_cons_succ]
      refine' wpAnyE_free (i := 20) (v := _) rfl (by kernel_rfl) (by kernel_rfl) (by kernel_rfl) (fun _ _ _ h => h) (Or.inl ⟨by rfl, fun u _ => ?_⟩) hClosed (fun hNext => ?_)
      rotate_left
      · go_simp
        try with_reducible rfl
      clear hClosed
      have hClosed := hNext
      clear hNext
      try simp only [Act.put, List.getElem_toArray, List.getElem_cons_zero, List.getElem_cons_succ, List.setIfInBounds_toArray, List.set_cons_zero, List.set_cons_succ]
      refine' wpAnyE_free (i := 21) (v := _) rfl (by kernel_rfl) (by kernel_rfl) (by kernel_rfl) (fun _ _ _ h => h) (Or.inl ⟨by rfl, fun u _ => ?_⟩) hClosed (fun hNext => ?_)
      rotate_left
      · go_simp
        try with_reducible rfl
      clear hClosed
      have hClosed := hNext
      clear hNext
      try simp only [Act.put, List.getElem_toArray, List.getElem_cons_zero, List.getElem_cons_succ, List.setIfInBounds_toArray, List.set_cons_zero, List.set_cons_succ]
      refine wpAnyE_ready (rs := [22]) (by kernel_rfl) (by simp) ?_
      refine AllReadyE.cons rfl (fun K hK => ?_) AllReadyE.nil
      refine step_store u6 B (.tmp 22) (.tmp 18) g 7 9 _ _ u6 rfl rfl rfl (by kernel_rfl) rfl rfl rfl R6.out (by simp [X6.cells]) (Below.refl _ _) ?_
      intro u7 r_ b_ g_
      have XF := Lib.hid (X5.out.done R6.out G6.out r_ g_)
      have BF := Lib.hid (B6.out.trans b_)
      clear r_ b_ g_
      refine (fun hrest => hK.out _ _ (fun hX => (by first | cases hX | simp at hX)) (fun _ => hrest) (fun _ => hrest)) ?_
      replace hClosed := hClosed.step 22 (by kernel_rfl)
      clear hK K
      try simp only [Act.put, List.getElem_toArray, List.getElem_cons_zero, List.getElem_cons_succ, List.setIfInBounds_toArray, List.set_cons_zero, List.set_cons_succ]
      refine wpAnyE_done (by kernel_rfl) ?_ _
      clear hClosed
      go_wp2_with fail
      go_meet
      exact ⟨⟨_, _, XF.out⟩, BF.out⟩
  case rest =>
    obtain ⟨⟨lv1, cv1, x1⟩, b1⟩ := hcut
    obtain ⟨y, hy⟩ : ∃ y : X6, { x with levels := x.levels ++ [e.lev], classes := x.classes ++ [18] } = y := ⟨_, rfl⟩
    rw [hy] at x1
    have hyst : y.st = e :: st := by rw [← hy]; exact HST.out
    have hyi : y.isos = x.isos := by rw [← hy]
    have hye : y.embeds = x.embeds := by rw [← hy]
    have hyl : y.st.length ≤ 1000000 := by rw [← hy]; exact hsm
    have HEX : Hid (backX x = if 0 < y.isos then y else if 0 < y.embeds then { y with embeds := y.embeds - 1 } else if e.iso = false ∧ 1 ≤ st.length then { y with st := st } else y) := Lib.hid (by
      unfold backX
      split
      · rename_i h; rw [HST.out] at h; cases h
      · rename_i e' st' h
        rw [HST.out] at h
        injection h with h1 h2
        subst h1
        subst h2
        simp only [hy, hyi, hye]
        rw [← hy])
    have hyb : y.embeds ≤ 1000000 := by rw [hye]; exact HS.out.embeds
    have HY := Lib.hid hyst
    have X1 := Lib.hid x1
    have B1 := Lib.hid b1
    have h2 := x1.field 2 (by omega)
    have h3 := x1.field 3 (by omega)
    have h1' := x1.field 1 (by omega)
    obtain ⟨As, cs, rfl, _, _, _⟩ := x1.stack.form
    simp only [X6.cells, List.getElem?_cons_succ, List.getElem?_cons_zero] at h2 h3 h1'
    clear hy hyst x1 b1 hf0 hyi hye h1'
    rcases hA : decide (0 < y.isos) with _ | _
    · rcases hB : decide (0 < y.embeds) with _ | _
      · have hf2 := field2 e.lev e.over e.iso
        rcases hio : e.iso with _ | _
        · rw [hio] at hf2
          have HIO := Lib.hid hio
          clear hio
          have hlen : y.st.length = st.length + 1 := by rw [HY.out]; rfl
          rcases hC : decide (1 ≤ st.length) with _ | _
          · have HZ : Hid (backX x = y) := Lib.hid (by rw [HEX.out, if_neg (by simpa using hA), if_neg (by simpa using hB), if_neg (fun h => (of_decide_eq_false hC) h.2)])
            have hge : decide ((2 : Int) ≤ (y.st.length : Int)) = false := by have := of_decide_eq_false hC; rw [decide_eq_false_iff_not]; omega
            go_wp2_with fail
            refine (top_any wc B g y lsl _ lv1 cv1 e st HY.out X1.out hyl).mono ?_
            rintro ed w2 ⟨rfl, b2⟩
            rw [HIO.out]
            have X2 := Lib.hid (X1.out.below b2 (Nat.le_refl _))
            have B2 := Lib.hid (B1.out.trans (b2.mono X1.out.le))
            have h1 := X2.out.field 1 (by omega)
            simp only [X6.cells, List.getElem?_cons_succ, List.getElem?_cons_zero] at h1
            clear b2 hlen
            go_wp2_with fail
            (try simp only [Exit.inBlock, Exit.then])
            exact bodyPost_end (results_none rfl _ _ _) rfl ⟨rfl, by rw [HZ.out]; exact ⟨_, _, _, X2.out⟩, B2.out⟩
          · have HZ : Hid (backX x = { y with st := st }) := Lib.hid (by rw [HEX.out, if_neg (by simpa using hA), if_neg (by simpa using hB), if_pos ⟨HIO.out, by simpa using hC⟩])
            have hge : decide ((2 : Int) ≤ (y.st.length : Int)) = true := by have := of_decide_eq_true hC; rw [decide_eq_true_iff]; omega
            go_wp2_with fail
            refine (top_any wc B g y lsl _ lv1 cv1 e st HY.out X1.out hyl).mono ?_
            rintro ed w2 ⟨rfl, b2⟩
            rw [HIO.out]
            have X2 := Lib.hid (X1.out.below b2 (Nat.le_refl _))
            have B2 := Lib.hid (B1.out.trans (b2.mono X1.out.le))
            have h1 := X2.out.field 1 (by omega)
            simp only [X6.cells, List.getElem?_cons_succ, List.getElem?_cons_zero] at h1
            clear b2 hlen
            go_wp2_with fail
            refine (pop_any w2 B g y lsl _ lv1 cv1 e st HY.out X2.out hyl).mono ?_
            rintro ed w3 ⟨rfl, ⟨sv3, x3⟩, b3⟩
            have X3 := Lib.hid x3
            have B3 := Lib.hid (B2.out.trans b3)
            clear x3 b3
            go_wp2_with fail
            (try simp only [Exit.inBlock, Exit.then])
            exact bodyPost_end (results_none rfl _ _ _) rfl ⟨rfl, by rw [HZ.out]; exact ⟨_, _, _, X3.out⟩, B3.out⟩
        · have HZ : Hid (backX x = y) := Lib.hid (by rw [HEX.out, if_neg (by simpa using hA), if_neg (by simpa using hB), if_neg (by rw [hio]; simp)])
          rw [hio] at hf2
          have HIO := Lib.hid hio
          clear hio
          go_wp2_with fail
          refine (top_any wc B g y lsl _ lv1 cv1 e st HY.out X1.out hyl).mono ?_
          rintro ed w2 ⟨rfl, b2⟩
          rw [HIO.out]
          have X2 := Lib.hid (X1.out.below b2 (Nat.le_refl _))
          have B2 := Lib.hid (B1.out.trans (b2.mono X1.out.le))
          clear b2
          go_wp2_with fail
          (try simp only [Exit.inBlock, Exit.then])
          exact bodyPost_end (results_none rfl _ _ _) rfl ⟨rfl, by rw [HZ.out]; exact ⟨_, _, _, X2.out⟩, B2.out⟩
      · have HZ : Hid (backX x = { y with embeds := y.embeds - 1 }) := Lib.hid (by rw [HEX.out, if_neg (by simpa using hA), if_pos (by simpa using hB)])
        have hpos : 0 < y.embeds := by simpa using hB
        have hw1 : IntKind.i64.wrap ((y.embeds : Int) - 1) = ((y.embeds - 1 : Nat) : Int) := by rw [IntWalk.i64_in _ (by omega)]; omega
        clear hpos
        go_wp2_with (first
          | (refine store_cell wc B _ _ g 3 9 (.int .i64 ((y.embeds - 1 : Nat) : Int)) _ wc rfl rfl rfl (by kernel_rfl) rfl rfl rfl X1.out.row (by simp [X6.cells]) (Below.refl _ _) ?_; intro w5 r5 b5 g5; have X5 := Lib.hid (X1.out.stored (x' := { y with embeds := y.embeds - 1 }) r5 g5 rfl rfl rfl rfl); have B5 := Lib.hid (B1.out.trans b5); clear r5 b5 g5)
          | fail)
        (try simp only [Exit.inBlock, Exit.then])
        exact bodyPost_end (results_none rfl _ _ _) rfl ⟨rfl, by rw [HZ.out]; exact ⟨_, _, _, X5.out⟩, B5.out⟩
    · have HZ : Hid (backX x = y) := Lib.hid (by rw [HEX.out, if_pos (by simpa using hA)])
      go_wp2_with fail
      (try simp only [Exit.inBlock, Exit.then])
      exact bodyPost_end (results_none rfl _ _ _) rfl ⟨rfl, by rw [HZ.out]; exact ⟨_, _, _, X1.out⟩, B1.out⟩
end Go.Proofs.Ytajgjloailliiaa
