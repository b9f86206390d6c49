/- Layer 6: Of and Depth, the program's and the document's. -/
import Derived.Test.YtihphfbgihbkfaaDoorEpM
import Derived.Test.YtihphfbgihbkfaaDoorCells
namespace Go.Proofs.YtihphfbgihbkfaaDoor
open Go.RowKit

/-- the levels, the classes, the greatest height -/
def lvs (l : List Int) (base : Int) : List Int := (runX l base l.length).levels
def cls (l : List Int) (base : Int) : List Int := (runX l base l.length).classes
def dep (l : List Int) (base : Int) : Nat := (runX l base l.length).most
theorem lvs_length (l : List Int) (base : Int) : (lvs l base).length = l.length := (wf_run l base l.length).levels
theorem cls_length (l : List Int) (base : Int) : (cls l base).length = l.length := (wf_run l base l.length).classes
/-- two rows of its own -/
def RowedII (w : World) (xs ys : List Int) (ed : Ending) (w' : World) : Prop :=
  ∃ v1 v2, ed = .returned (.tuple #[v1, v2]) ∧ Own w' w.heap.size 3 v1 (ints .i64 xs) ∧ Own w' w.heap.size 3 v2 (ints .i64 ys) ∧ Below w.heap.size w w'

theorem Own.ofN' {w : World} {B n : Nat} {e : TypeId} {v : Value} {xs : List Value} (h : OwnN w B e 1 v n xs) : Own w B e v xs := Own.ofN h
set_option maxHeartbeats 2000000 in
theorem rof_any (A : Option Addr) (l : List Int) (cap : Nat) (base : Int) (w : World) (h : Lies w w.heap.size A (ints .i64 l)) (hl : l.length ≤ 1000000) :
    Calls Tryd.prog 10 #[.slice A l.length cap, .int .i64 base] w fun ed w' => RowedII w (lvs l base) (cls l base) ed w' := by
  have HC := Lib.hid (went_loop A l cap base w h hl)
  go_enter Tryd.func10, Tryd.ntmps10
  go_wp2_with fail
  refine HC.out.mono ?_
  rintro ed w1 ⟨rfl, ⟨sv, lv, cv, x1⟩, b1⟩
  have X1 := Lib.hid x1
  have B1 := Lib.hid b1
  have h6 := x1.field 6 (by omega)
  have h7 := x1.field 7 (by omega)
  simp only [X6.cells, List.getElem?_cons_succ, List.getElem?_cons_zero] at h6 h7
  obtain ⟨Al, cl, rfl, _, _, _⟩ := x1.levels.form
  obtain ⟨Ac, cc, rfl, _, _, _⟩ := x1.classes.form
  clear x1 b1 h
  go_wp2
  go_region
  go_wp2
  go_ret2
  exact ⟨_, _, rfl, Own.ofN' (X1.out.levels.same rfl), Own.ofN' (X1.out.classes.same rfl), below_drawn B1.out 1⟩

set_option maxHeartbeats 2000000 in
theorem rdepth_any (A : Option Addr) (l : List Int) (cap : Nat) (base : Int) (w : World) (h : Lies w w.heap.size A (ints .i64 l)) (hl : l.length ≤ 1000000) :
    Calls Tryd.prog 13 #[.slice A l.length cap, .int .i64 base] w fun ed w' => ed = .returned (.int .i64 (dep l base : Int)) ∧ Below w.heap.size w w' := by
  have HC := Lib.hid (went_loop A l cap base w h hl)
  go_enter Tryd.func13, Tryd.ntmps13
  go_wp2_with fail
  refine HC.out.mono ?_
  rintro ed w1 ⟨rfl, ⟨sv, lv, cv, x1⟩, b1⟩
  have h5 := x1.field 5 (by omega)
  simp only [X6.cells, List.getElem?_cons_succ, List.getElem?_cons_zero] at h5
  have B1 := Lib.hid b1
  clear x1 b1 h
  go_wp2
  go_ret
  exact ⟨rfl, B1.out⟩

set_option maxRecDepth 20000 in
set_option maxHeartbeats 2000000 in
theorem begin_any (A : Option Addr) (l : List Int) (cap : Nat) (base : Int) (w : World) :
    Calls Tryd.prog 19 #[.slice A l.length cap, .int .i64 base] w fun ed w' => ed = .returned (.pointer (some ⟨w.heap.size, 0, none⟩)) ∧ HasP w' w.heap.size w.heap.size (runX l base 0).core (.slice A l.length cap) ∧ Below w.heap.size w w' := by
  obtain ⟨b, hb⟩ : ∃ b : Int, (if base = 0 then (0 : Int) else 1) = b := ⟨_, rfl⟩
  have HBG : Hid ((runX l base 0).core = resetP ⟨b, [], 0, 0, 0⟩) := Lib.hid (by rw [runX, beginX, hb]; rfl)
  have X0 : Hid (IsP (w.alloc (.cells #[.slice A l.length cap, .int .i64 b, .slice none 0 0, .int .i64 0, .int .i64 0, .int .i64 0] 49)) w.heap.size w.heap.size ⟨b, [], 0, 0, 0⟩ (.slice A l.length cap) (.slice none 0 0)) :=
    Lib.hid ⟨OwnN.ofLit (n := 6) (size := 1) #[.slice A l.length cap, .int .i64 b, .slice none 0 0, .int .i64 0, .int .i64 0, .int .i64 0] (Nat.le_refl _) (by unfold maxLen; omega) rfl, OwnN.empty _ _ _ _⟩
  have B0 := Lib.hid (below_alloc w (.cells #[.slice A l.length cap, .int .i64 b, .slice none 0 0, .int .i64 0, .int .i64 0, .int .i64 0] 49))
  obtain ⟨B, hB⟩ : ∃ B, w.heap.size = B := ⟨_, rfl⟩
  rw [hB] at X0 B0
  have HB := Lib.hid hB
  have hb2 : (b = 0 ∧ base = 0 ∧ (base != 0) = false) ∨ (b = 1 ∧ (base != 0) = true) := by
    by_cases h0 : base = 0
    · rw [if_pos h0] at hb; exact .inl ⟨hb.symm, h0, by simpa using h0⟩
    · rw [if_neg h0] at hb; exact .inr ⟨hb.symm, by simpa using h0⟩
  clear hb
  rw [HBG.out]
  rcases hb2 with ⟨rfl, rfl, hb0⟩ | ⟨rfl, hb0⟩
  · clear hb0
    go_enter Tryd.func19, Tryd.ntmps19
    go_wp2_with fail
    refine (reset_any _ B B _ _ _ X0.out (.inr rfl) (by simp)).mono ?_
    rintro ed w1 ⟨rfl, x1, b1⟩
    have X1 := Lib.hid x1
    have B1 := Lib.hid (B0.out.trans b1)
    clear x1 b1 hB
    go_wp2_with fail
    go_ret
    rw [HB.out]
    exact ⟨rfl, X1.out, B1.out⟩
  · go_enter Tryd.func19, Tryd.ntmps19
    go_wp2_with fail
    refine (reset_any _ B B _ _ _ X0.out (.inr rfl) (by simp)).mono ?_
    rintro ed w1 ⟨rfl, x1, b1⟩
    have X1 := Lib.hid x1
    have B1 := Lib.hid (B0.out.trans b1)
    clear x1 b1 hB
    go_wp2_with fail
    go_ret
    rw [HB.out]
    exact ⟨rfl, X1.out, B1.out⟩

/-- a row below stays -/
theorem Row.stay {w w' : World} {B C : Nat} {e : TypeId} {g c : Nat} {xs : List Value} (h : Row w B e g c xs) (hb : Below C w w') (hg : g < C) : Row w' B e g c xs := by
  unfold Row Own at *
  refine ⟨h.1, ?_⟩
  rcases h.2 with h2 | ⟨g', cap, cur, hv, hbg, hh, r⟩
  · exact .inl h2
  · refine .inr ⟨g', cap, cur, hv, hbg, ?_, r⟩
    injection hv with h1 _ _
    injection h1 with h1
    injection h1 with h1 _ _
    subst h1
    rw [hb.block g hg]; exact hh
/-- a store elsewhere -/
theorem HasP.keep {w w' : World} {B g k : Nat} {p : P6} {lsl : Value} (h : HasP w B g p lsl) (hg : w.grownBy w' (some k)) (hk : k < B) : HasP w' B g p lsl := by
  obtain ⟨sv, h⟩ := h
  have hin := h.inside
  exact ⟨sv, h.row.keep hg (.inr (fun e => by injection e with e; simp at e; omega)), h.stack.keep hg (.inr (fun e => by have := (h.stack.inside _ e).1; omega))⟩
theorem small_core {x : X6} {k : Nat} (h : Wf x k) (hk : k ≤ 1000000) : x.core.Small := by
  have := wf_small h hk
  exact ⟨this.st, this.isos, this.embeds, this.valid⟩
theorem ends_core {x : X6} {k : Nat} (h : Wf x k) : ∃ e2 st2, (endP x.core).st = e2 :: st2 := by
  obtain ⟨⟨e2, st2, he⟩, _⟩ := wf_end (c := 0) h
  exact ⟨e2, st2, by rw [← core_end x 0, endX, core_put]; exact he⟩

section
variable {P : Program} {ops : Array Oper} {o : Oper} {a : Act} {K : Act → World → Prop} {Q : Exit → Act → World → Prop} {E : Prop}
/-- at a step of a region: make([]T, n) -/
theorem step_make {t e : TypeId} {z : Value} {bytes : Nat} (T : SliceOf P t e z bytes) (w0 W : World) (B : Nat) (x y : Operand) (kl kc : IntKind) (n : Nat)
    (hgd : o.guard = none) (ho : o.op = .makeSlice t x y) (hx : a.eval x = .int kl (n : Int)) (hy : a.eval y = .int kc (n : Int)) (hz : z.cells = #[z]) (hb : Below B w0 W) (hB : B ≤ W.heap.size) (hn : bytes * n ≤ 281474976710656) (hm : n ≤ maxLen)
    (h : ∀ w', Row w' B e W.heap.size n (List.replicate n z) → Below B w0 w' → W.grownBy w' none → K (a.put o.dst (.slice (some ⟨W.heap.size, 0, none⟩) n n)) w') :
    if Region.wanted o (yielded ops a.tmps) = true then Oper.wp P o a W K Q else E := by
  have hw : Region.wanted o (yielded ops a.tmps) = true := by simp [Region.wanted, hgd]
  rw [if_pos hw]
  obtain ⟨i, hi, hz0, hz1, hz2⟩ := info_parts T.elem
  obtain ⟨w', hrun, r1, r2⟩ := run_make_full (P := P) W B t e i z 1 T.slice hi hz0 hz1 kl kc n (by rw [hz2]; exact hn) hm hB
  unfold Oper.wp
  simp [execOp, ho, hx, hy, hrun, Result.andThen]
  refine h w' ?_ (hb.grown r2 hB (fun k hk => by cases hk)) r2
  rw [hz, Nat.mul_one, toList_madeCells_one] at r1
  unfold Row Own
  simpa using r1
end

set_option maxRecDepth 20000 in
set_option maxHeartbeats 4000000 in
theorem of_any (A : Option Addr) (l : List Int) (cap : Nat) (base : Int) (w : World) (hT : ClsTabs w) (h : Lies w w.heap.size A (ints .i64 l)) (hl : l.length ≤ 1000000) (hcap : l.length ≤ cap) :
    Calls Tryd.prog 9 #[.slice A l.length cap, .int .i64 base] w fun ed w' => RowedII w (lvs l base) (cls l base) ed w' := by
  have HL := Lib.hid h
  have HT := Lib.hid hT
  obtain ⟨n, hn⟩ : ∃ n, l.length = n := ⟨_, rfl⟩
  have HN := Lib.hid hn
  rw [hn] at hl hcap ⊢
  clear h hT
  go_enter Tryd.func9, Tryd.ntmps9
  go_upto_region 1 with fail
  go_cut [4, 5] (fun v1 v2 wx => ∃ g1 g2, v1 = .slice (some ⟨g1, 0, none⟩) n n ∧ v2 = .slice (some ⟨g2, 0, none⟩) n n ∧ g1 ≠ g2 ∧ Row wx w.heap.size 3 g1 n (List.replicate n (.int .i64 0)) ∧ Row wx w.heap.size 3 g2 n (List.replicate n (.int .i64 0)) ∧ Below w.heap.size w wx)
  case first =>
    refine wp_region_E (S := fun _ => True) [] (by kernel_rfl) (trivial) (fun hHeld hClosed => ?_)
    refine' wpAnyE_take (i := 0) (v := _) rfl (by kernel_rfl) (by kernel_rfl) (by kernel_rfl) (by kernel_rfl) (fun _ _ _ h => h) (Or.inl ⟨by rfl, fun u hu => ?_⟩) hHeld hClosed (fun hNext => ?_)
    rotate_left
    · (try dsimp only at hu)
      go_simp
      try with_reducible rfl
    clear hClosed
    have hClosed := hNext
    clear hNext
    try simp only [Act.put, List.getElem_toArray, List.getElem_cons_zero, List.setIfInBounds_toArray, List.set_cons_zero, List.set_cons_succ]
    refine' wpAnyE_take (i := 1) (v := _) rfl (by kernel_rfl) (by kernel_rfl) (by kernel_rfl) (by kernel_rfl) (fun _ _ _ h => h) (Or.inl ⟨by rfl, fun u hu => ?_⟩) hHeld hClosed (fun hNext => ?_)
    rotate_left
    · (try dsimp only at hu)
      go_simp
      try with_reducible rfl
    clear hClosed
    have hClosed := hNext
    clear hNext
    try simp only [Act.put, List.getElem_toArray, List.getElem_cons_zero, List.getElem_cons_succ, List.setIfInBounds_toArray, List.set_cons_zero, List.set_cons_succ]
    refine' wpAnyE_take (i := 3) (v := _) rfl (by kernel_rfl) (by kernel_rfl) (by kernel_rfl) (by kernel_rfl) (fun _ _ _ h => h) (Or.inl ⟨by rfl, fun u hu => ?_⟩) hHeld hClosed (fun hNext => ?_)
    rotate_left
    · (try dsimp only at hu)
      go_simp
      try with_reducible rfl
    clear hClosed
    have hClosed := hNext
    clear hNext
    try simp only [Act.put, List.getElem_toArray, List.getElem_cons_zero, List.getElem_cons_succ, List.setIfInBounds_toArray, List.set_cons_zero, List.set_cons_succ]
    refine' wpAnyE_take (i := 4) (v := _) rfl (by kernel_rfl) (by kernel_rfl) (by kernel_rfl) (by kernel_rfl) (fun _ _ _ h => h) (Or.inl ⟨by rfl, fun u hu => ?_⟩) hHeld hClosed (fun hNext => ?_)
    rotate_left
    · (try dsimp only at hu)
      go_simp
      try with_reducible rfl
    clear hClosed
    have hClosed := hNext
    clear hNext
    try simp only [Act.put, List.getElem_toArray, List.getElem_cons_zero, List.getElem_cons_succ, List.setIfInBounds_toArray, List.set_cons_zero, List.set_cons_succ]
    refine wpAnyE_ready (rs := [2, 5]) (by kernel_rfl) (by simp) ?_
    refine AllReadyE.cons rfl (fun K hK => ?_) (AllReadyE.cons rfl (fun K hK => ?_) AllReadyE.nil)
    · refine step_make intsT w _ w.heap.size (.tmp 9) (.tmp 9) .i64 .i64 n rfl rfl rfl rfl rfl (by exact below_same (Below.refl _ _) rfl rfl rfl rfl) (by exact Nat.le_refl _) (by omega) (by unfold maxLen; omega) ?_
      intro w1 r1 b1 g1
      have R1 := Lib.hid r1
      have B1 := Lib.hid b1
      clear r1 b1 g1
      refine hK.out _ _ (fun _ => trivial) (fun hHeld => ?_) (fun hX => (by first | cases hX | simp at hX))
      replace hClosed := hClosed.step 2 (by kernel_rfl)
      clear hK K
      try simp only [Act.put, List.getElem_toArray, List.getElem_cons_zero, List.getElem_cons_succ, List.setIfInBounds_toArray, List.set_cons_zero, List.set_cons_succ]
      refine' wpAnyE_free (i := 6) (v := _) rfl (by kernel_rfl) (by kernel_rfl) (by kernel_rfl) (fun _ _ _ h => h) (Or.inl ⟨by rfl, fun u _ => ?_⟩) hClosed (fun hNext => ?_)
      rotate_left
      · go_simp
        try with_reducible rfl
      clear hClosed
      have hClosed := hNext
      clear hNext
      try simp only [Act.put, List.getElem_toArray, List.getElem_cons_zero, List.getElem_cons_succ, List.setIfInBounds_toArray, List.set_cons_zero, List.set_cons_succ]
      refine wpAnyE_ready (rs := [5]) (by kernel_rfl) (by simp) ?_
      refine AllReadyE.cons rfl (fun K hK => ?_) AllReadyE.nil
      refine step_make intsT w w1 w.heap.size (.tmp 12) (.tmp 12) .i64 .i64 n rfl rfl rfl rfl rfl B1.out B1.out.size (by omega) (by unfold maxLen; omega) ?_
      intro w2 r2 b2 g2
      have R2 := Lib.hid r2
      have B2 := Lib.hid b2
      have R12 := Lib.hid (R1.out.keep g2 (by simp))
      have HNE : Hid (w.drew.heap.size ≠ w1.heap.size) := Lib.hid (by have := R1.out.inside; omega)
      clear r2 b2 g2
      refine hK.out _ _ (fun _ => trivial) (fun hHeld => ?_) (fun hX => (by first | cases hX | simp at hX))
      replace hClosed := hClosed.step 5 (by kernel_rfl)
      clear hK K
      try simp only [Act.put, List.getElem_toArray, List.getElem_cons_zero, List.getElem_cons_succ, List.setIfInBounds_toArray, List.set_cons_zero, List.set_cons_succ]
      refine' wpAnyE_free (i := 7) (v := _) rfl (by kernel_rfl) (by kernel_rfl) (by kernel_rfl) (fun _ _ _ h => h) (Or.inl ⟨by rfl, fun u _ => ?_⟩) hClosed (fun hNext => ?_)
      rotate_left
      · go_simp
        try with_reducible rfl
      clear hClosed
      have hClosed := hNext
      clear hNext
      try simp only [Act.put, List.getElem_toArray, List.getElem_cons_zero, List.getElem_cons_succ, List.setIfInBounds_toArray, List.set_cons_zero, List.set_cons_succ]
      refine wpAnyE_done (by kernel_rfl) ?_ _
      clear hClosed
      go_wp2_with fail
      go_meet
      exact ⟨_, _, rfl, rfl, HNE.out, R12.out, R2.out, B2.out⟩
    · refine step_make intsT w _ w.heap.size (.tmp 12) (.tmp 12) .i64 .i64 n rfl rfl rfl rfl rfl (by exact below_same (Below.refl _ _) rfl rfl rfl rfl) (by exact Nat.le_refl _) (by omega) (by unfold maxLen; omega) ?_
      intro w1 r1 b1 g1
      have R1 := Lib.hid r1
      have B1 := Lib.hid b1
      clear r1 b1 g1
      refine hK.out _ _ (fun _ => trivial) (fun hHeld => ?_) (fun hX => (by first | cases hX | simp at hX))
      replace hClosed := hClosed.step 5 (by kernel_rfl)
      clear hK K
      try simp only [Act.put, List.getElem_toArray, List.getElem_cons_zero, List.getElem_cons_succ, List.setIfInBounds_toArray, List.set_cons_zero, List.set_cons_succ]
      refine wpAnyE_ready (rs := [2]) (by kernel_rfl) (by simp) ?_
      refine AllReadyE.cons rfl (fun K hK => ?_) AllReadyE.nil
      refine step_make intsT w w1 w.heap.size (.tmp 9) (.tmp 9) .i64 .i64 n rfl rfl rfl rfl rfl B1.out B1.out.size (by omega) (by unfold maxLen; omega) ?_
      intro w2 r2 b2 g2
      have R2 := Lib.hid r2
      have B2 := Lib.hid b2
      have R12 := Lib.hid (R1.out.keep g2 (by simp))
      have HNE : Hid (w1.heap.size ≠ w.drew.heap.size) := Lib.hid (by have := R1.out.inside; omega)
      clear r2 b2 g2
      refine hK.out _ _ (fun _ => trivial) (fun hHeld => ?_) (fun hX => (by first | cases hX | simp at hX))
      replace hClosed := hClosed.step 2 (by kernel_rfl)
      clear hK K
      try simp only [Act.put, List.getElem_toArray, List.getElem_cons_zero, List.getElem_cons_succ, List.setIfInBounds_toArray, List.set_cons_zero, List.set_cons_succ]
      refine' wpAnyE_free (i := 6) (v := _) rfl (by kernel_rfl) (by kernel_rfl) (by kernel_rfl) (fun _ _ _ h => h) (Or.inl ⟨by rfl, fun u _ => ?_⟩) hClosed (fun hNext => ?_)
      rotate_left
      · go_simp
        try with_reducible rfl
      clear hClosed
      have hClosed := hNext
      clear hNext
      try simp only [Act.put, List.getElem_toArray, List.getElem_cons_zero, List.getElem_cons_succ, List.setIfInBounds_toArray, List.set_cons_zero, List.set_cons_succ]
      refine' wpAnyE_free (i := 7) (v := _) rfl (by kernel_rfl) (by kernel_rfl) (by kernel_rfl) (fun _ _ _ h => h) (Or.inl ⟨by rfl, fun u _ => ?_⟩) hClosed (fun hNext => ?_)
      rotate_left
      · go_simp
        try with_reducible rfl
      clear hClosed
      have hClosed := hNext
      clear hNext
      try simp only [Act.put, List.getElem_toArray, List.getElem_cons_zero, List.getElem_cons_succ, List.setIfInBounds_toArray, List.set_cons_zero, List.set_cons_succ]
      refine wpAnyE_done (by kernel_rfl) ?_ _
      clear hClosed
      go_wp2_with fail
      go_meet
      exact ⟨_, _, rfl, rfl, HNE.out, R2.out, R12.out, B2.out⟩
  case rest =>
    obtain ⟨g1, g2, rfl, rfl, hne, r1, r2, bc⟩ := hcut
    have R1 := Lib.hid r1
    have R2 := Lib.hid r2
    have BC := Lib.hid bc
    have HNE := Lib.hid hne
    have HBG : Hid (g1 < wc.heap.size ∧ g2 < wc.heap.size) := Lib.hid ⟨r1.inside.2, r2.inside.2⟩
    clear r1 r2 bc hne
    go_wp2_with fail
    have hbg := begin_any A l cap base wc
    rw [HN.out] at hbg
    refine hbg.mono ?_
    clear hbg
    rintro ed w1 ⟨rfl, x1, b1⟩
    have X1 := Lib.hid x1
    have B1 : Hid (Below w.heap.size w w1) := Lib.hid (below_then BC.out b1)
    have R11 := Lib.hid (R1.out.below b1 (Nat.le_refl _))
    have R21 := Lib.hid (R2.out.below b1 (Nat.le_refl _))
    obtain ⟨C, hC⟩ : ∃ C, wc.heap.size = C := ⟨_, rfl⟩
    rw [hC] at X1 HBG
    have HC1 : Hid (w.heap.size ≤ C) := Lib.hid (hC ▸ BC.out.size)
    rw [hC]
    clear x1 b1 hC
    go_wp2_with fail
    go_loopw [19] (fun iv wr => ∃ k : Nat, k ≤ n ∧ iv = .int .i64 k ∧ Row wr w.heap.size 3 g1 n (ints .i64 (runX l base k).levels ++ List.replicate (n - k) (.int .i64 0)) ∧ Row wr w.heap.size 3 g2 n (ints .i64 (runX l base k).classes ++ List.replicate (n - k) (.int .i64 0)) ∧ HasP wr C C (runX l base k).core (.slice A n cap) ∧ Below w.heap.size w wr) (fun iv _ => n - (intOf iv).toNat)
    case atStart => exact ⟨0, by omega, rfl, R11.out, R21.out, X1.out, B1.out⟩
    case round =>
      obtain ⟨k, hk, rfl, r1, r2, hx, hb⟩ := hrel
      have HX := Lib.hid hx
      have BW := Lib.hid hb
      have RA := Lib.hid r1
      have RB := Lib.hid r2
      clear hx hb r1 r2
      by_cases hlt : k < n
      · obtain ⟨x, hx⟩ : ∃ x, runX l base k = x := ⟨_, rfl⟩
        have HWF : Hid (Wf x k) := Lib.hid (hx ▸ wf_run l base k)
        have HOV : Hid (OvOk x) := Lib.hid (hx ▸ ov_run l base k)
        have hkl : k < l.length := by have := HN.out; omega
        obtain ⟨c, hc⟩ : ∃ c, l[k] = c := ⟨_, rfl⟩
        have HS : Hid (runX l base (k + 1) = stepX l x k c) := Lib.hid (by rw [runX, hx, at0_eq hkl, hc])
        obtain ⟨e, st, hst⟩ := HWF.out.top
        have HTO := Lib.hid (told_step HWF.out HOV.out l c)
        rw [hx] at HX RA RB
        obtain ⟨r, hr⟩ : ∃ r, tellP x.core c = r := ⟨_, rfl⟩
        have HR := Lib.hid hr
        have CT : Hid (Ctx wr C A l) := Lib.hid ⟨HT.out.below BW.out HT.out.big, by have := HT.out.big; have := HC1.out; omega, (HL.out.below BW.out).wider HC1.out⟩
        have HCO := Lib.hid (core_step hst l k c)
        have hstep := step_any wr C C x.core A l cap k hkl c hc e st hst (by rw [HN.out]; exact HX.out) (small_core HWF.out (by omega)) CT.out (by have := HN.out; omega) (by have := HN.out; omega) (ends_core HWF.out)
        rw [hr, HN.out] at hstep
        have HSTEP := Lib.hid hstep
        have b0 : (0 : Int) ≤ (k : Int) := by omega
        have b1 : (k : Int) < (n : Int) := by omega
        have HWL : Hid (x.levels.length = k) := Lib.hid HWF.out.levels
        have HWC : Hid (x.classes.length = k) := Lib.hid HWF.out.classes
        have hNR : (List.replicate n (Value.int .i64 0)).length = n := by simp
        clear hx hc hst hr hstep
        go_wp2_with fail
        refine HSTEP.out.mono ?_
        rintro ed w2 ⟨rfl, x2, b2⟩
        have X2 := Lib.hid x2
        have B2 := Lib.hid (BW.out.trans (b2.mono HC1.out))
        have RA2 := Lib.hid (RA.out.stay b2 HBG.out.1)
        have RB2 := Lib.hid (RB.out.stay b2 HBG.out.2)
        clear x2 b2
        go_wp2_with (first
          | (refine store_row intsT w2 w.heap.size _ _ g1 k n .i64 r.1 _ w rfl rfl rfl rfl rfl RA2.out (by have := HWL.out; simp; omega) B2.out ?_; intro w3 r3 b3 g3; have RA3 := Lib.hid r3; have RB3 := Lib.hid (RB2.out.keep g3 (fun e => HNE.out (Option.some.inj e))); have X3 := Lib.hid (X2.out.keep g3 HBG.out.1); have B3 := Lib.hid b3; clear r3 b3 g3)
          | (refine store_row intsT w3 w.heap.size _ _ g2 k n .i64 r.2 _ w rfl rfl rfl rfl rfl RB3.out (by have := HWC.out; simp; omega) B3.out ?_; intro w4 r4 b4 g4; have RB4 := Lib.hid r4; have RA4 := Lib.hid (RA3.out.keep g4 (fun e => HNE.out (Option.some.inj e).symm)); have X4 := Lib.hid (X3.out.keep g4 HBG.out.2); have B4 := Lib.hid b4; clear r4 b4 g4)
          | fail)
        go_roundw
        case rel => exact ⟨k + 1, by omega, by go_num, by
          have := RA4.out
          rw [fill_list (by simpa using HWL.out) hlt] at this
          rw [HS.out, HTO.out.levels, HR.out]
          simpa [ints] using this, by
          have := RB4.out
          rw [fill_list (by simpa using HWC.out) hlt] at this
          rw [HS.out, HTO.out.classes, HR.out]
          simpa [ints] using this, by rw [HS.out, HCO.out]; exact X4.out, B4.out⟩
        case measure => simp [intOf]; omega
      · obtain rfl : k = n := by omega
        go_wp2_with fail
        go_ret2
        have h1 := RA.out
        have h2 := RB.out
        rw [Nat.sub_self, List.replicate_zero, List.append_nil] at h1 h2
        have hl1 : (runX l base l.length).levels.length = l.length := (wf_run l base l.length).levels
        have hl2 : (runX l base l.length).classes.length = l.length := (wf_run l base l.length).classes
        have HNk := HN.out
        exact ⟨_, _, rfl, by unfold lvs; rw [HNk] at hl1 ⊢; exact Row.own h1 (by simpa using hl1.symm), by unfold cls; rw [HNk] at hl2 ⊢; exact Row.own h2 (by simpa using hl2.symm), BW.out⟩
end Go.Proofs.YtihphfbgihbkfaaDoor
