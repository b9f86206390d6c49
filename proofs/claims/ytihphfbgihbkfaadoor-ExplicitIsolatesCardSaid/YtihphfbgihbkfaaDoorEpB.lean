/- Layer 6: the program's reset, beginEmbed, endEmbed, embed, endIsolate, isolate. -/
import Derived.Test.YtihphfbgihbkfaaDoorEpA
import Derived.Test.YtihphfbgihbkfaaDoorExG
namespace Go.Proofs.YtihphfbgihbkfaaDoor
open Go.RowKit

theorem HasP.le {w : World} {B g : Nat} {p : P6} {lsl : Value} (h : HasP w B g p lsl) : B ≤ w.heap.size := by obtain ⟨sv, h⟩ := h; exact h.le
theorem HasP.below {w w' : World} {B g : Nat} {p : P6} {lsl : Value} (h : HasP w B g p lsl) (hb : Below w.heap.size w w') : HasP w' B g p lsl := by obtain ⟨sv, h⟩ := h; exact ⟨sv, h.below hb (Nat.le_refl _)⟩

def resetP (p : P6) : P6 := { p with st := [⟨p.base, -1, false⟩], isos := 0, embeds := 0, valid := 0 }
set_option maxRecDepth 20000 in
set_option maxHeartbeats 4000000 in
theorem reset_any (w : World) (B g : Nat) (p : P6) (lsl sv : Value) (h : IsP w B g p lsl sv) (hz : p.st ≠ [] ∨ sv = .slice none 0 0) (hsm : p.st.length ≤ 1000000) :
    Calls Tryd.prog 22 #[.pointer (some ⟨g, 0, none⟩)] w fun ed w' => ed = .returned (.tuple #[]) ∧ HasP w' B g (resetP p) lsl ∧ Below B w w' := by
  have hin := h.inside
  obtain ⟨n, hn⟩ : ∃ n, p.st.length = n := ⟨_, rfl⟩
  obtain ⟨A, c, rfl, hnc, hsh⟩ := h.stack.short (j := 0) (by omega)
  have hA : (A = none ∧ c = 0 ∧ n = 0) ∨ (∃ gs, A = some ⟨gs, 0, none⟩ ∧ ¬ c = 0) := by
    by_cases h0 : 0 < p.st.length
    · obtain ⟨gs, c', hv, _⟩ := h.stack.block h0
      injection hv with hv
      exact .inr ⟨gs, hv, by omega⟩
    · rcases hz with hz | hz
      · cases hs : p.st with
        | nil => exact absurd hs hz
        | cons a b => rw [hs] at h0; simp at h0
      · injection hz with h1 h2 h3
        exact .inl ⟨h1, h3, by omega⟩
  have h1 := h.field 2 (by omega)
  have h0 := h.field 1 (by omega)
  simp only [P6.cells, List.getElem?_cons_succ, List.getElem?_cons_zero] at h1 h0
  rw [hn] at h1
  obtain ⟨b, hb⟩ : ∃ b, p.base = b := ⟨_, rfl⟩
  rw [hb] at h0
  have HB := Lib.hid hb
  have HN := Lib.hid hn
  have b0 : (0 : Int) ≤ (c : Int) := by omega
  have H := Lib.hid h
  have F1 : Hid ((Value.slice A 0 c).ownBlock ≠ some g) := Lib.hid (by
    have := h.far
    rcases hA with ⟨rfl, rfl, rfl⟩ | ⟨gs, rfl, _⟩
    · simp [Value.ownBlock]
    · simpa [Value.ownBlock] using this)
  have HSH : Hid (OwnN w B 52 3 (.slice A 0 c) 0 []) := Lib.hid (by simpa using hsh)
  have HBB : Hid (B ≤ w.heap.size) := Lib.hid h.le
  have hk : w.drew.cell? ⟨g, 2, none⟩ = some (.slice A n c) ∧ w.drew.cell? ⟨g, 1, none⟩ = some (.int .i64 b) := ⟨h1, h0⟩
  have SK : Hid (∀ w', Below w.heap.size w w' → w'.cell? ⟨g, 2, none⟩ = some (.slice A n c) ∧ w'.cell? ⟨g, 1, none⟩ = some (.int .i64 b)) :=
    Lib.hid fun w' hb => ⟨by rw [hb.cell (show g < w.heap.size by omega)]; exact h1, by rw [hb.cell (show g < w.heap.size by omega)]; exact h0⟩
  clear h hsh hz hsm hb hn h1 h0
  rcases hA with ⟨rfl, rfl, rfl⟩ | ⟨gs, rfl, hcc⟩
  all_goals
    go_enter Tryd.func22, Tryd.ntmps22
    go_wp2_with fail
    refine wp_region_E (S := fun w' => w'.cell? ⟨g, 2, none⟩ = some (.slice _ _ _) ∧ w'.cell? ⟨g, 1, none⟩ = some (.int .i64 b)) [15] (by kernel_rfl) (hk) (fun hHeld hClosed => ?_)
    refine' wpAnyE_take (i := 0) (v := _) rfl (by kernel_rfl) (by kernel_rfl) (by kernel_rfl) (by kernel_rfl) (fun _ _ _ h => h) (Or.inl ⟨by rfl, fun u hu => ?_⟩) hHeld hClosed (fun hNext => ?_)
    rotate_left
    · (try dsimp only at hu)
      go_simp
      try with_reducible rfl
    clear hClosed
    have hClosed := hNext
    clear hNext
    try simp only [Act.put, List.getElem_toArray, List.getElem_cons_zero, List.setIfInBounds_toArray, List.set_cons_zero, List.set_cons_succ]
    refine' wpAnyE_take (i := 1) (v := _) rfl (by kernel_rfl) (by kernel_rfl) (by kernel_rfl) (by kernel_rfl) (fun _ _ _ h => h) (Or.inl ⟨by rfl, fun u hu => ?_⟩) hHeld hClosed (fun hNext => ?_)
    rotate_left
    · (try dsimp only at hu)
      go_simp
      try with_reducible rfl
    clear hClosed
    have hClosed := hNext
    clear hNext
    try simp only [Act.put, List.getElem_toArray, List.getElem_cons_zero, List.getElem_cons_succ, List.setIfInBounds_toArray, List.set_cons_zero, List.set_cons_succ]
    refine' wpAnyE_take (i := 2) (v := _) rfl (by kernel_rfl) (by kernel_rfl) (by kernel_rfl) (by kernel_rfl) (fun _ _ _ h => h) (Or.inl ⟨by rfl, fun u hu => ?_⟩) hHeld hClosed (fun hNext => ?_)
    rotate_left
    · (try dsimp only at hu)
      go_simp
      try with_reducible rfl
    clear hClosed
    have hClosed := hNext
    clear hNext
    try simp only [Act.put, List.getElem_toArray, List.getElem_cons_zero, List.getElem_cons_succ, List.setIfInBounds_toArray, List.set_cons_zero, List.set_cons_succ]
    refine' wpAnyE_take (i := 3) (v := _) rfl (by kernel_rfl) (by kernel_rfl) (by kernel_rfl) (by kernel_rfl) (fun _ _ _ h => h) (Or.inl ⟨by rfl, fun u hu => ?_⟩) hHeld hClosed (fun hNext => ?_)
    rotate_left
    · (try dsimp only at hu)
      go_simp
      try with_reducible rfl
    clear hClosed
    have hClosed := hNext
    clear hNext
    try simp only [Act.put, List.getElem_toArray, List.getElem_cons_zero, List.getElem_cons_succ, List.setIfInBounds_toArray, List.set_cons_zero, List.set_cons_succ]
    refine' wpAnyE_take (i := 4) (v := _) rfl (by kernel_rfl) (by kernel_rfl) (by kernel_rfl) (by kernel_rfl) (fun _ _ _ h => h) (Or.inl ⟨by rfl, fun u hu => ?_⟩) hHeld hClosed (fun hNext => ?_)
    rotate_left
    · (try dsimp only at hu)
      go_simp
      try with_reducible rfl
    clear hClosed
    have hClosed := hNext
    clear hNext
    try simp only [Act.put, List.getElem_toArray, List.getElem_cons_zero, List.getElem_cons_succ, List.setIfInBounds_toArray, List.set_cons_zero, List.set_cons_succ]
    refine' wpAnyE_take (i := 5) (v := _) rfl (by kernel_rfl) (by kernel_rfl) (by kernel_rfl) (by kernel_rfl) (fun _ _ _ h => h) (Or.inl ⟨by rfl, fun u hu => ?_⟩) hHeld hClosed (fun hNext => ?_)
    rotate_left
    · (try dsimp only at hu)
      go_simp
      try with_reducible rfl
    clear hClosed
    have hClosed := hNext
    clear hNext
    try simp only [Act.put, List.getElem_toArray, List.getElem_cons_zero, List.getElem_cons_succ, List.setIfInBounds_toArray, List.set_cons_zero, List.set_cons_succ]
    refine' wpAnyE_take (i := 6) (v := _) rfl (by kernel_rfl) (by kernel_rfl) (by kernel_rfl) (by kernel_rfl) (fun _ _ _ h => h) (Or.inl ⟨by rfl, fun u hu => ?_⟩) hHeld hClosed (fun hNext => ?_)
    rotate_left
    · (try dsimp only at hu)
      go_simp
      try with_reducible rfl
    clear hClosed
    have hClosed := hNext
    clear hNext
    try simp only [Act.put, List.getElem_toArray, List.getElem_cons_zero, List.getElem_cons_succ, List.setIfInBounds_toArray, List.set_cons_zero, List.set_cons_succ]
    refine' wpAnyE_take (i := 7) (v := _) rfl (by kernel_rfl) (by kernel_rfl) (by kernel_rfl) (by kernel_rfl) (fun _ _ _ h => h) (Or.inl ⟨by rfl, fun u hu => ?_⟩) hHeld hClosed (fun hNext => ?_)
    rotate_left
    · (try dsimp only at hu)
      go_simp
      try with_reducible rfl
    clear hClosed
    have hClosed := hNext
    clear hNext
    try simp only [Act.put, List.getElem_toArray, List.getElem_cons_zero, List.getElem_cons_succ, List.setIfInBounds_toArray, List.set_cons_zero, List.set_cons_succ]
    refine' wpAnyE_take (i := 8) (v := _) rfl (by kernel_rfl) (by kernel_rfl) (by kernel_rfl) (by kernel_rfl) (fun _ _ _ h => h) (Or.inl ⟨by rfl, fun u hu => ?_⟩) hHeld hClosed (fun hNext => ?_)
    rotate_left
    · (try dsimp only at hu)
      go_simp
      try with_reducible rfl
    clear hClosed
    have hClosed := hNext
    clear hNext
    try simp only [Act.put, List.getElem_toArray, List.getElem_cons_zero, List.getElem_cons_succ, List.setIfInBounds_toArray, List.set_cons_zero, List.set_cons_succ]
    refine' wpAnyE_take (i := 9) (v := _) rfl (by kernel_rfl) (by kernel_rfl) (by kernel_rfl) (by kernel_rfl) (fun _ _ _ h => h) (Or.inl ⟨by rfl, fun u hu => ?_⟩) hHeld hClosed (fun hNext => ?_)
    rotate_left
    · (try dsimp only at hu)
      go_simp
      try with_reducible rfl
    clear hClosed
    have hClosed := hNext
    clear hNext
    try simp only [Act.put, List.getElem_toArray, List.getElem_cons_zero, List.getElem_cons_succ, List.setIfInBounds_toArray, List.set_cons_zero, List.set_cons_succ]
    refine' wpAnyE_take (i := 10) (v := _) rfl (by kernel_rfl) (by kernel_rfl) (by kernel_rfl) (by kernel_rfl) (fun _ _ _ h => h) (Or.inl ⟨by rfl, fun u hu => ?_⟩) hHeld hClosed (fun hNext => ?_)
    rotate_left
    · (try dsimp only at hu)
      go_simp
      try with_reducible rfl
    clear hClosed
    have hClosed := hNext
    clear hNext
    try simp only [Act.put, List.getElem_toArray, List.getElem_cons_zero, List.getElem_cons_succ, List.setIfInBounds_toArray, List.set_cons_zero, List.set_cons_succ]
    refine wpAnyE_ready (rs := [11]) (by kernel_rfl) (by simp) ?_
    refine AllReadyE.cons rfl (fun K hK => ?_) AllReadyE.nil
    all_goals simp only [List.getElem_toArray, List.getElem_cons_zero, List.getElem_cons_succ]
    all_goals go_simp
    refine hK.out _ _ (fun _ => SK.out _ (by exact below_same (below_alloc w _) rfl rfl rfl rfl)) (fun hHeld => ?_) (fun hX => (by first | cases hX | simp at hX))
    replace hClosed := hClosed.step 11 (by kernel_rfl)
    clear hK K
    try simp only [Act.put, List.getElem_toArray, List.getElem_cons_zero, List.getElem_cons_succ, List.setIfInBounds_toArray, List.set_cons_zero, List.set_cons_succ]
    refine wpAnyE_ready (rs := [12]) (by kernel_rfl) (by simp) ?_
    refine AllReadyE.cons rfl (fun K hK => ?_) AllReadyE.nil
    refine step_appN pentsT w _ B _ (.tmp 7) (.tmp 13) (.slice _ 0 _) 0 1 [] (Ent.cells ⟨b, -1, false⟩) _ _ rfl rfl rfl rfl (OwnN.same (HSH.out.alloc _) rfl) (Lies.sameHeap (ent_lies w ⟨b, -1, false⟩) rfl) rfl (cells_one _) (by exact below_same ((below_alloc w _).mono HBB.out) rfl rfl rfl rfl) (by have := HBB.out; simp; omega) (by unfold maxLen; omega) (by omega) ?_
    intro v2 w2 o2 b2 g2 e2
    obtain ⟨A2, c2, rfl, _, _, _⟩ := o2.form
    have O2 := Lib.hid o2
    have B2 := Lib.hid b2
    have G2 := Lib.hid g2
    have E2 := Lib.hid e2
    have RW : Hid (OwnN w2 B 49 1 (.slice (some ⟨g, 0, none⟩) 6 6) 6 (p.cells lsl _)) := Lib.hid (OwnN.keep (w := (w.alloc (.cells #[.int .i64 b, .int .i64 (-1), .bool false] 52)).drew) (OwnN.same (H.out.row.alloc _) rfl) g2 (.inr (fun e => F1.out e.symm)))
    clear o2 b2 g2 e2
    have hk2 : w2.cell? ⟨g, 2, none⟩ = some (.slice _ _ _) ∧ w2.cell? ⟨g, 1, none⟩ = some (.int .i64 b) := ⟨by have := World.ownsRow.cellAt RW.out 2 (by omega); rw [this]; simp only [P6.cells, List.getElem?_cons_succ, List.getElem?_cons_zero, HN.out]; rfl, by have := World.ownsRow.cellAt RW.out 1 (by omega); rw [this, ← HB.out]; rfl⟩
    refine hK.out _ _ (fun _ => hk2) (fun hHeld => ?_) (fun hX => (by first | cases hX | simp at hX))
    replace hClosed := hClosed.step 12 (by kernel_rfl)
    clear hK K
    try simp only [Act.put, List.getElem_toArray, List.getElem_cons_zero, List.getElem_cons_succ, List.setIfInBounds_toArray, List.set_cons_zero, List.set_cons_succ]
    refine' wpAnyE_take (i := 13) (v := _) rfl (by kernel_rfl) (by kernel_rfl) (by kernel_rfl) (by kernel_rfl) (fun _ _ _ h => h) (Or.inl ⟨by rfl, fun u hu => ?_⟩) hHeld hClosed (fun hNext => ?_)
    rotate_left
    · (try dsimp only at hu)
      go_simp
      try with_reducible rfl
    clear hClosed
    have hClosed := hNext
    clear hNext
    try simp only [Act.put, List.getElem_toArray, List.getElem_cons_zero, List.getElem_cons_succ, List.setIfInBounds_toArray, List.set_cons_zero, List.set_cons_succ]
    refine' wpAnyE_take (i := 14) (v := _) rfl (by kernel_rfl) (by kernel_rfl) (by kernel_rfl) (by kernel_rfl) (fun _ _ _ h => h) (Or.inl ⟨by rfl, fun u hu => ?_⟩) hHeld hClosed (fun hNext => ?_)
    rotate_left
    · (try dsimp only at hu)
      go_simp
      try with_reducible rfl
    clear hClosed
    have hClosed := hNext
    clear hNext
    try simp only [Act.put, List.getElem_toArray, List.getElem_cons_zero, List.getElem_cons_succ, List.setIfInBounds_toArray, List.set_cons_zero, List.set_cons_succ]
    refine wpAnyE_ready (rs := [15]) (by kernel_rfl) (by simp) ?_
    refine AllReadyE.cons rfl (fun K hK => ?_) AllReadyE.nil
    refine step_store w2 B (.tmp 16) (.tmp 14) g 2 6 (.slice A2 (0 + 1) c2) _ w2 rfl rfl rfl (by kernel_rfl) rfl rfl rfl RW.out (by simp [P6.cells]) (Below.refl _ _) ?_
    intro w3 r3 b3 g3
    have X3 : Hid (IsP w3 B g { p with st := [⟨b, -1, false⟩] } lsl (.slice A2 (0 + 1) c2)) := Lib.hid ⟨r3, by
      have := O2.out.keep g3 (.inr (grown_ne E2.out F1.out (by have := hin.2; simp; omega)))
      simpa [ents] using this⟩
    have B3 := Lib.hid (B2.out.trans b3)
    clear r3 b3 g3 hk2
    refine (fun hrest => hK.out _ _ (fun hX => (by first | cases hX | simp at hX)) (fun _ => hrest) (fun _ => hrest)) ?_
    replace hClosed := hClosed.step 15 (by kernel_rfl)
    clear hK K
    try simp only [Act.put, List.getElem_toArray, List.getElem_cons_zero, List.getElem_cons_succ, List.setIfInBounds_toArray, List.set_cons_zero, List.set_cons_succ]
    refine wpAnyE_done (by kernel_rfl) ?_ _
    clear hClosed
    go_wp2_with (first
      | (refine store_cell w3 B _ _ g 3 6 (.int .i64 0) _ w3 rfl rfl rfl (by kernel_rfl) rfl rfl rfl X3.out.row (by simp [P6.cells]) (Below.refl _ _) ?_; intro w4 r4 b4 g4; have X4 := Lib.hid (X3.out.stored (p' := { p with st := [⟨b, -1, false⟩], isos := 0 }) r4 g4 rfl rfl); have B4 := Lib.hid (B3.out.trans b4); clear r4 b4 g4)
      | (refine store_cell w4 B _ _ g 4 6 (.int .i64 0) _ w4 rfl rfl rfl (by kernel_rfl) rfl rfl rfl X4.out.row (by simp [P6.cells]) (Below.refl _ _) ?_; intro w5 r5 b5 g5; have X5 := Lib.hid (X4.out.stored (p' := { p with st := [⟨b, -1, false⟩], isos := 0, embeds := 0 }) r5 g5 rfl rfl); have B5 := Lib.hid (B4.out.trans b5); clear r5 b5 g5)
      | (refine store_cell w5 B _ _ g 5 6 (.int .i64 0) _ w5 rfl rfl rfl (by kernel_rfl) rfl rfl rfl X5.out.row (by simp [P6.cells]) (Below.refl _ _) ?_; intro w6 r6 b6 g6; have X6 := Lib.hid (X5.out.stored (p' := { p with st := [⟨b, -1, false⟩], isos := 0, embeds := 0, valid := 0 }) r6 g6 rfl rfl); have B6 := Lib.hid (B5.out.trans b6); clear r6 b6 g6)
      | fail)
    (try simp only [Exit.inBlock, Exit.then])
    exact bodyPost_end (results_none rfl _ _ _) rfl ⟨rfl, ⟨_, by have := X6.out; rw [← HB.out] at this; exact this⟩, B6.out⟩

/-- a beginning of an embedding, or an override -/
def beginP (p : P6) (d o : Int) : P6 := if (overP p || !fitP p d) = true then (if p.isos = 0 then { p with embeds := p.embeds + 1 } else p) else pushP p d o false
set_option maxRecDepth 20000 in
set_option maxHeartbeats 4000000 in
theorem beginEmbed_any (w : World) (B g : Nat) (p : P6) (lsl sv : Value) (d o : Int) (e : Ent) (st : List Ent) (hst : p.st = e :: st) (hp : IsP w B g p lsl sv) (hs : p.Small) :
    Calls Tryd.prog 39 #[.pointer (some ⟨g, 0, none⟩), .int .i64 d, .int .i64 o] w fun ed w' => ed = .returned (.tuple #[]) ∧ Went w w' B g (beginP p d o) lsl sv ∧ Below B w w' := by
  have HP := Lib.hid hp
  have HST := Lib.hid hst
  have hsm : p.st.length ≤ 1000000 := by have := hs.st; omega
  have hem := hs.embeds
  have BW : Hid (Below B w w) := Lib.hid (Below.refl _ _)
  obtain ⟨q, hq⟩ : ∃ q, beginP p d o = q := ⟨_, rfl⟩
  have HQ := Lib.hid hq
  rw [hq]
  have hw1 : IntKind.i64.wrap ((p.embeds : Int) + 1) = ((p.embeds + 1 : Nat) : Int) := by rw [IntWalk.i64_in _ (by omega)]; omega
  clear hp hst hs hq
  rcases hO : overP p with _ | _
  · have HO := Lib.hid hO
    clear hO
    go_enter Tryd.func39, Tryd.ntmps39
    go_wp2_with fail
    refine (overflows_any w B g p lsl ⟨_, HP.out⟩).mono ?_
    rintro e wq ⟨rfl, rfl⟩
    rw [HO.out]
    go_wp2_with fail
    refine (ppush_any w B g p lsl sv d o false e st HST.out HP.out hsm).mono ?_
    rintro ed w1 ⟨rfl, x1, b1⟩
    have X1 := Lib.hid x1
    have B1 := Lib.hid b1
    clear x1 b1
    rcases hF : fitP p d with _ | _
    · have HU : Hid (pushP p d o false = p) := Lib.hid (by unfold fitP at hF; unfold pushP; rw [HST.out] at hF ⊢; simp only [decide_eq_false_iff_not] at hF; simp only; rw [if_neg hF])
      have X2 : Hid (Went w w1 B g p lsl sv) := Lib.hid (HU.out ▸ X1.out)
      obtain ⟨sv2, h, fr⟩ := X2.out
      have FR := Lib.hid fr
      have h3 := h.field 3 (by omega)
      have h4 := h.field 4 (by omega)
      simp only [P6.cells, List.getElem?_cons_succ, List.getElem?_cons_zero] at h3 h4
      have H := Lib.hid h
      have HF := Lib.hid hF
      clear h hF fr
      rcases hI : ((p.isos : Int) == 0) with _ | _
      · have HE : Hid (p = q) := Lib.hid (by rw [← HQ.out, beginP, HO.out, HF.out, if_pos (by rfl), if_neg (by simp at hI; omega)])
        go_wp2_with fail
        (try simp only [Exit.inBlock, Exit.then])
        exact bodyPost_end (results_none rfl _ _ _) rfl ⟨rfl, by rw [← HE.out]; exact X2.out, B1.out⟩
      · have HE : Hid ({ p with embeds := p.embeds + 1 } = q) := Lib.hid (by rw [← HQ.out, beginP, HO.out, HF.out, if_pos (by rfl), if_pos (by simp at hI; omega)])
        go_wp2_with (first
          | (refine store_cell w1 B _ _ g 4 6 (.int .i64 ((p.embeds + 1 : Nat) : Int)) _ w1 rfl rfl rfl (by kernel_rfl) rfl rfl rfl H.out.row (by simp [P6.cells]) (Below.refl _ _) ?_; intro w3 r3 b3 g3; have X3 := Lib.hid (H.out.stored (p' := { p with embeds := p.embeds + 1 }) r3 g3 rfl rfl); have B3 := Lib.hid (B1.out.trans b3); have G3 := Lib.hid g3; clear r3 b3 g3)
          | fail)
        (try simp only [Exit.inBlock, Exit.then])
        exact bodyPost_end (results_none rfl _ _ _) rfl ⟨rfl, by rw [← HE.out]; exact ⟨_, X3.out, FR.out.trans (Frame.store G3.out)⟩, B3.out⟩
    · have HE : Hid (pushP p d o false = q) := Lib.hid (by rw [← HQ.out, beginP, HO.out, hF, if_neg (by simp)])
      clear hF
      go_wp2_with fail
      (try simp only [Exit.inBlock, Exit.then])
      exact bodyPost_end (results_none rfl _ _ _) rfl ⟨rfl, by rw [← HE.out]; exact X1.out, B1.out⟩
  · have h := HP.out
    have h3 := h.field 3 (by omega)
    have h4 := h.field 4 (by omega)
    simp only [P6.cells, List.getElem?_cons_succ, List.getElem?_cons_zero] at h3 h4
    have H := Lib.hid h
    have HO := Lib.hid hO
    clear h hO
    rcases hI : ((p.isos : Int) == 0) with _ | _
    · have HE : Hid (p = q) := Lib.hid (by rw [← HQ.out, beginP, HO.out, if_pos (by rfl), if_neg (by simp at hI; omega)])
      go_enter Tryd.func39, Tryd.ntmps39
      go_wp2_with fail
      refine (overflows_any w B g p lsl ⟨_, HP.out⟩).mono ?_
      rintro e wq ⟨rfl, rfl⟩
      rw [HO.out]
      go_wp2_with fail
      (try simp only [Exit.inBlock, Exit.then])
      exact bodyPost_end (results_none rfl _ _ _) rfl ⟨rfl, by rw [← HE.out]; exact ⟨_, HP.out, Frame.refl _ _ _⟩, BW.out⟩
    · have HE : Hid ({ p with embeds := p.embeds + 1 } = q) := Lib.hid (by rw [← HQ.out, beginP, HO.out, if_pos (by rfl), if_pos (by simp at hI; omega)])
      go_enter Tryd.func39, Tryd.ntmps39
      go_wp2_with fail
      refine (overflows_any w B g p lsl ⟨_, HP.out⟩).mono ?_
      rintro e wq ⟨rfl, rfl⟩
      rw [HO.out]
      go_wp2_with (first
        | (refine store_cell w B _ _ g 4 6 (.int .i64 ((p.embeds + 1 : Nat) : Int)) _ w rfl rfl rfl (by kernel_rfl) rfl rfl rfl H.out.row (by simp [P6.cells]) (Below.refl _ _) ?_; intro w3 r3 b3 g3; have X3 := Lib.hid (H.out.stored (p' := { p with embeds := p.embeds + 1 }) r3 g3 rfl rfl); have B3 := Lib.hid b3; have G3 := Lib.hid g3; clear r3 b3 g3)
        | fail)
      (try simp only [Exit.inBlock, Exit.then])
      exact bodyPost_end (results_none rfl _ _ _) rfl ⟨rfl, by rw [← HE.out]; exact ⟨_, X3.out, Frame.store G3.out⟩, B3.out⟩

/-- an embedding ends -/
def backP (p : P6) : P6 := if 0 < p.isos then p else if 0 < p.embeds then { p with embeds := p.embeds - 1 } else match p.st with
  | [] => p
  | e :: st => if e.iso = false ∧ 1 ≤ st.length then { p with st := st } else p
set_option maxRecDepth 20000 in
set_option maxHeartbeats 4000000 in
theorem endEmbed_any (w : World) (B g : Nat) (p : P6) (lsl sv : Value) (e : Ent) (st : List Ent) (hst : p.st = e :: st) (x1 : IsP w B g p lsl sv) (hs : p.Small) :
    Calls Tryd.prog 40 #[.pointer (some ⟨g, 0, none⟩)] w fun ed w' => ed = .returned (.tuple #[]) ∧ Went w w' B g (backP p) lsl sv ∧ Below B w w' := by
  have hyl : p.st.length ≤ 1000000 := by have := hs.st; omega
  have hyb := hs.embeds
  have HY := Lib.hid hst
  have HEX : Hid (backP p = if 0 < p.isos then p else if 0 < p.embeds then { p with embeds := p.embeds - 1 } else if e.iso = false ∧ 1 ≤ st.length then { p with st := st } else p) := Lib.hid (by unfold backP; rw [hst])
  have h2 := x1.field 3 (by omega)
  have h3 := x1.field 4 (by omega)
  have X1 := Lib.hid x1
  have BW : Hid (Below B w w) := Lib.hid (Below.refl _ _)
  obtain ⟨As, cs, rfl, _, _, _⟩ := x1.stack.form
  simp only [P6.cells, List.getElem?_cons_succ, List.getElem?_cons_zero] at h2 h3
  clear hst x1 hs
  rcases hA : decide (0 < p.isos) with _ | _
  · rcases hB : decide (0 < p.embeds) with _ | _
    · have hf2 := pfield2 e.lev e.over e.iso
      rcases hio : e.iso with _ | _
      · rw [hio] at hf2
        have HIO := Lib.hid hio
        clear hio
        have hlen : p.st.length = st.length + 1 := by rw [HY.out]; rfl
        rcases hC : decide (1 ≤ st.length) with _ | _
        · have HZ : Hid (backP p = p) := Lib.hid (by rw [HEX.out, if_neg (by simpa using hA), if_neg (by simpa using hB), if_neg (fun h => (of_decide_eq_false hC) h.2)])
          have hge : decide ((2 : Int) ≤ (p.st.length : Int)) = false := by have := of_decide_eq_false hC; rw [decide_eq_false_iff_not]; omega
          go_enter Tryd.func40, Tryd.ntmps40
          go_wp2_with fail
          refine (plast_any w B g p lsl e st HY.out ⟨_, X1.out⟩ hyl).mono ?_
          rintro ed w2 ⟨rfl, b2⟩
          rw [HIO.out]
          have X2 := Lib.hid (X1.out.below b2 (Nat.le_refl _))
          have B2 : Hid (Below B w w2) := Lib.hid (b2.mono X1.out.le)
          have FR2 : Hid (Frame w w2 g (.slice As p.st.length cs) (.slice As p.st.length cs)) := Lib.hid (Frame.below b2)
          have h1 := X2.out.field 2 (by omega)
          simp only [P6.cells, List.getElem?_cons_succ, List.getElem?_cons_zero] at h1
          clear b2 hlen
          go_wp2_with fail
          (try simp only [Exit.inBlock, Exit.then])
          exact bodyPost_end (results_none rfl _ _ _) rfl ⟨rfl, by rw [HZ.out]; exact ⟨_, X2.out, FR2.out⟩, B2.out⟩
        · have HZ : Hid (backP p = { p with st := st }) := Lib.hid (by rw [HEX.out, if_neg (by simpa using hA), if_neg (by simpa using hB), if_pos ⟨HIO.out, by simpa using hC⟩])
          have hge : decide ((2 : Int) ≤ (p.st.length : Int)) = true := by have := of_decide_eq_true hC; rw [decide_eq_true_iff]; omega
          go_enter Tryd.func40, Tryd.ntmps40
          go_wp2_with fail
          refine (plast_any w B g p lsl e st HY.out ⟨_, X1.out⟩ hyl).mono ?_
          rintro ed w2 ⟨rfl, b2⟩
          rw [HIO.out]
          have X2 := Lib.hid (X1.out.below b2 (Nat.le_refl _))
          have B2 : Hid (Below B w w2) := Lib.hid (b2.mono X1.out.le)
          have FR2 : Hid (Frame w w2 g (.slice As p.st.length cs) (.slice As p.st.length cs)) := Lib.hid (Frame.below b2)
          have h1 := X2.out.field 2 (by omega)
          simp only [P6.cells, List.getElem?_cons_succ, List.getElem?_cons_zero] at h1
          clear b2 hlen
          go_wp2_with fail
          refine (ppop_any w2 B g p lsl _ e st HY.out X2.out hyl).mono ?_
          rintro ed w3 ⟨rfl, x3, b3⟩
          have X3 := Lib.hid x3
          have B3 := Lib.hid (B2.out.trans b3)
          clear x3 b3
          go_wp2_with fail
          (try simp only [Exit.inBlock, Exit.then])
          exact bodyPost_end (results_none rfl _ _ _) rfl ⟨rfl, by rw [HZ.out]; (obtain ⟨sv3, x3, f3⟩ := X3.out; exact ⟨_, x3, FR2.out.trans f3⟩), B3.out⟩
      · have HZ : Hid (backP p = p) := Lib.hid (by rw [HEX.out, if_neg (by simpa using hA), if_neg (by simpa using hB), if_neg (by rw [hio]; simp)])
        rw [hio] at hf2
        have HIO := Lib.hid hio
        clear hio
        go_enter Tryd.func40, Tryd.ntmps40
        go_wp2_with fail
        refine (plast_any w B g p lsl e st HY.out ⟨_, X1.out⟩ hyl).mono ?_
        rintro ed w2 ⟨rfl, b2⟩
        rw [HIO.out]
        have X2 := Lib.hid (X1.out.below b2 (Nat.le_refl _))
        have B2 : Hid (Below B w w2) := Lib.hid (b2.mono X1.out.le)
        have FR2 : Hid (Frame w w2 g (.slice As p.st.length cs) (.slice As p.st.length cs)) := Lib.hid (Frame.below b2)
        clear b2
        go_wp2_with fail
        (try simp only [Exit.inBlock, Exit.then])
        exact bodyPost_end (results_none rfl _ _ _) rfl ⟨rfl, by rw [HZ.out]; exact ⟨_, X2.out, FR2.out⟩, B2.out⟩
    · have HZ : Hid (backP p = { p with embeds := p.embeds - 1 }) := Lib.hid (by rw [HEX.out, if_neg (by simpa using hA), if_pos (by simpa using hB)])
      have hpos : 0 < p.embeds := by simpa using hB
      have hw1 : IntKind.i64.wrap ((p.embeds : Int) - 1) = ((p.embeds - 1 : Nat) : Int) := by rw [IntWalk.i64_in _ (by omega)]; omega
      clear hpos
      go_enter Tryd.func40, Tryd.ntmps40
      go_wp2_with (first
        | (refine store_cell w B _ _ g 4 6 (.int .i64 ((p.embeds - 1 : Nat) : Int)) _ w rfl rfl rfl (by kernel_rfl) rfl rfl rfl X1.out.row (by simp [P6.cells]) (Below.refl _ _) ?_; intro w5 r5 b5 g5; have X5 := Lib.hid (X1.out.stored (p' := { p with embeds := p.embeds - 1 }) r5 g5 rfl rfl); have B5 := Lib.hid b5; have G5 := Lib.hid g5; clear r5 b5 g5)
        | fail)
      (try simp only [Exit.inBlock, Exit.then])
      exact bodyPost_end (results_none rfl _ _ _) rfl ⟨rfl, by rw [HZ.out]; exact ⟨_, X5.out, Frame.store G5.out⟩, B5.out⟩
  · have HZ : Hid (backP p = p) := Lib.hid (by rw [HEX.out, if_pos (by simpa using hA)])
    go_enter Tryd.func40, Tryd.ntmps40
    go_wp2_with fail
    (try simp only [Exit.inBlock, Exit.then])
    exact bodyPost_end (results_none rfl _ _ _) rfl ⟨rfl, by rw [HZ.out]; exact ⟨_, X1.out, Frame.refl _ _ _⟩, BW.out⟩
end Go.Proofs.YtihphfbgihbkfaaDoor
