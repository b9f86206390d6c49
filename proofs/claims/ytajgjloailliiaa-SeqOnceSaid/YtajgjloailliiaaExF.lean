/- Layer 6: the document's isolate. -/
import Derived.Test.YtajgjloailliiaaExE
import Derived.Test.YtajgjloailliiaaBsD
namespace Go.Proofs.Ytajgjloailliiaa
open Go.RowKit

theorem putX_st (x : X6) (c : Int) : (putX x c).st = x.st ∧ (putX x c).valid = x.valid ∧ (putX x c).isos = x.isos ∧ (putX x c).embeds = x.embeds := by
  unfold putX; split <;> simp_all
def isolateX (x : X6) (l : List Int) (i c : Int) : X6 := match x.st with
  | [] => x
  | e :: _ => if fitsX (putX x c) (nextL e.lev (isolate l i)) then pushX { putX x c with valid := (putX x c).valid + 1 } ⟨nextL e.lev (isolate l i), -1, true⟩ else { putX x c with isos := (putX x c).isos + 1 }

set_option maxRecDepth 20000 in
set_option maxHeartbeats 4000000 in
theorem isolateX_any (w : World) (B g : Nat) (x : X6) (A : Option Addr) (l : List Int) (cap : Nat) (i c : Int) (e : Ent) (st : List Ent) (hst : x.st = e :: st) (hx : HasX w B g x (.slice A l.length cap)) (hs : x.Small) (hl : l.length ≤ 1000000)
    (hA : Lies w B A (ints .i64 l)) :
    Calls Try.prog 39 #[.pointer (some ⟨g, 0, none⟩), .int .i64 i, .int .i64 c] w fun ed w' => ed = .returned (.tuple #[]) ∧ HasX w' B g (isolateX x l i c) (.slice A l.length cap) ∧ Below B w w' := by
  have HP := Lib.hid (put_any w B g x (.slice A l.length cap) c e st hst hx hs)
  obtain ⟨y, hy⟩ : ∃ y, putX x c = y := ⟨_, rfl⟩
  obtain ⟨p1, p2, p3, p4⟩ := putX_st x c
  rw [hy] at HP p1 p2 p3 p4
  obtain ⟨n, hn⟩ : ∃ n, nextL e.lev (isolate l i) = n := ⟨_, rfl⟩
  have HEX : Hid (isolateX x l i c = if fitsX y n then pushX { y with valid := y.valid + 1 } ⟨n, -1, true⟩ else { y with isos := y.isos + 1 }) := Lib.hid (by
    unfold isolateX
    split
    · rename_i h; rw [hst] at h; cases h
    · rename_i e' st' h
      rw [hst] at h
      injection h with h1 h2
      subst h1
      rw [hy, hn])
  have HY : Hid (y.st = e :: st) := Lib.hid (p1.trans hst)
  have hyl : y.st.length ≤ 1000000 := by rw [p1]; have := hs.st; omega
  have hyv : y.valid ≤ 1000000 := by rw [p2]; exact hs.valid
  have hyi : y.isos ≤ 1000000 := by rw [p3]; exact hs.isos
  obtain ⟨dd, hdd⟩ : ∃ d, isolate l i = d := ⟨_, rfl⟩
  rw [hdd] at hn
  have HDD := Lib.hid hdd
  have HN := Lib.hid hn
  have HA := Lib.hid hA
  clear hst hx hs hy hn hdd hA p1 p2 p3 p4
  have hf0 := field0 e.lev e.over e.iso
  go_enter Try.func39, Try.ntmps39
  go_wp2_with fail
  refine HP.out.mono ?_
  rintro ed w1 ⟨rfl, ⟨sv, lv, cv, x1⟩, b1⟩
  have X1 := Lib.hid x1
  have B1 := Lib.hid b1
  have h8 := x1.field 8 (by omega)
  simp only [X6.cells, List.getElem?_cons_succ, List.getElem?_cons_zero] at h8
  clear x1 b1
  go_wp2_with fail
  refine wp_region_E (S := fun w' => w'.cell? ⟨g, 8, none⟩ = some (.slice A l.length cap)) [] (by kernel_rfl) (h8) (fun hHeld hClosed => ?_)
  refine' wpAnyE_free (i := 0) (v := _) rfl (by kernel_rfl) (by kernel_rfl) (by kernel_rfl) (fun _ _ _ h => h) (Or.inl ⟨by rfl, fun u _ => ?_⟩) hClosed (fun hNext => ?_)
  rotate_left
  · go_simp
    try with_reducible rfl
  clear hClosed
  have hClosed := hNext
  clear hNext
  try simp only [Act.put, List.getElem_toArray, List.getElem_cons_zero, List.setIfInBounds_toArray, List.set_cons_zero, List.set_cons_succ]
  refine' wpAnyE_free (i := 3) (v := _) rfl (by kernel_rfl) (by kernel_rfl) (by kernel_rfl) (fun _ _ _ h => h) (Or.inl ⟨by rfl, fun u _ => ?_⟩) hClosed (fun hNext => ?_)
  rotate_left
  · go_simp
    try with_reducible rfl
  clear hClosed
  have hClosed := hNext
  clear hNext
  try simp only [Act.put, List.getElem_toArray, List.getElem_cons_zero, List.getElem_cons_succ, List.setIfInBounds_toArray, List.set_cons_zero, List.set_cons_succ]
  refine' wpAnyE_free (i := 4) (v := _) rfl (by kernel_rfl) (by kernel_rfl) (by kernel_rfl) (fun _ _ _ h => h) (Or.inl ⟨by rfl, fun u _ => ?_⟩) hClosed (fun hNext => ?_)
  rotate_left
  · go_simp
    try with_reducible rfl
  clear hClosed
  have hClosed := hNext
  clear hNext
  try simp only [Act.put, List.getElem_toArray, List.getElem_cons_zero, List.getElem_cons_succ, List.setIfInBounds_toArray, List.set_cons_zero, List.set_cons_succ]
  refine' wpAnyE_free (i := 5) (v := _) rfl (by kernel_rfl) (by kernel_rfl) (by kernel_rfl) (fun _ _ _ h => h) (Or.inl ⟨by rfl, fun u _ => ?_⟩) hClosed (fun hNext => ?_)
  rotate_left
  · go_simp
    try with_reducible rfl
  clear hClosed
  have hClosed := hNext
  clear hNext
  try simp only [Act.put, List.getElem_toArray, List.getElem_cons_zero, List.getElem_cons_succ, List.setIfInBounds_toArray, List.set_cons_zero, List.set_cons_succ]
  refine' wpAnyE_free (i := 7) (v := _) rfl (by kernel_rfl) (by kernel_rfl) (by kernel_rfl) (fun _ _ _ h => h) (Or.inl ⟨by rfl, fun u _ => ?_⟩) hClosed (fun hNext => ?_)
  rotate_left
  · go_simp
    try with_reducible rfl
  clear hClosed
  have hClosed := hNext
  clear hNext
  try simp only [Act.put, List.getElem_toArray, List.getElem_cons_zero, List.getElem_cons_succ, List.setIfInBounds_toArray, List.set_cons_zero, List.set_cons_succ]
  refine' wpAnyE_take (i := 6) (v := _) rfl (by kernel_rfl) (by kernel_rfl) (by kernel_rfl) (by kernel_rfl) (fun _ _ _ h => h) (Or.inl ⟨by rfl, fun u hu => ?_⟩) hHeld hClosed (fun hNext => ?_)
  rotate_left
  · (try dsimp only at hu)
    go_simp
    try with_reducible rfl
  clear hClosed
  have hClosed := hNext
  clear hNext
  try simp only [Act.put, List.getElem_toArray, List.getElem_cons_zero, List.getElem_cons_succ, List.setIfInBounds_toArray, List.set_cons_zero, List.set_cons_succ]
  have X1d := Lib.hid (X1.out.same (w' := w1.drew) rfl)
  have B1d : Hid (Below B w w1.drew) := Lib.hid (below_drawn B1.out 1)
  clear h8
  generalize w1.drew = u0 at X1d B1d hHeld ⊢
  refine wpAnyE_ready (rs := [1]) (by kernel_rfl) (by simp) ?_
  refine AllReadyE.cons rfl (fun K hK => ?_) AllReadyE.nil
  all_goals simp only [List.getElem_toArray, List.getElem_cons_zero, List.getElem_cons_succ]
  all_goals go_simp
  refine (top_any u0 B g y _ sv lv cv e st HY.out X1d.out hyl).mono ?_
  rintro ed u1 ⟨rfl, b_⟩
  have X2 := Lib.hid (X1d.out.below b_ (Nat.le_refl _))
  have B2 := Lib.hid (B1d.out.trans (b_.mono X1d.out.le))
  clear b_
  refine hK.out _ _ (fun _ => X2.out.field 8 (by omega)) (fun hHeld => ?_) (fun hX => (by first | cases hX | simp at hX))
  replace hClosed := hClosed.step 1 (by kernel_rfl)
  clear hK K
  try simp only [Act.put, List.getElem_toArray, List.getElem_cons_zero, List.getElem_cons_succ, List.setIfInBounds_toArray, List.set_cons_zero, List.set_cons_succ]
  refine' wpAnyE_free (i := 2) (v := _) rfl (by kernel_rfl) (by kernel_rfl) (by kernel_rfl) (fun _ _ _ h => h) (Or.inl ⟨by rfl, fun u _ => ?_⟩) hClosed (fun hNext => ?_)
  rotate_left
  · go_simp
    try with_reducible rfl
  clear hClosed
  have hClosed := hNext
  clear hNext
  try simp only [Act.put, List.getElem_toArray, List.getElem_cons_zero, List.getElem_cons_succ, List.setIfInBounds_toArray, List.set_cons_zero, List.set_cons_succ]
  refine wpAnyE_ready (rs := [8]) (by kernel_rfl) (by simp) ?_
  refine AllReadyE.cons rfl (fun K hK => ?_) AllReadyE.nil
  all_goals simp only [List.getElem_toArray, List.getElem_cons_zero, List.getElem_cons_succ]
  all_goals go_simp
  refine (risolate_any A l cap i u1 ((HA.out.below B2.out).wider X2.out.le) hl).mono ?_
  rintro ed u2 ⟨rfl, b_⟩
  rw [HDD.out]
  have X3 := Lib.hid (X2.out.below b_ (Nat.le_refl _))
  have B3 := Lib.hid (B2.out.trans (b_.mono X2.out.le))
  clear b_
  refine hK.out _ _ (fun _ => X3.out.field 8 (by omega)) (fun hHeld => ?_) (fun hX => (by first | cases hX | simp at hX))
  replace hClosed := hClosed.step 8 (by kernel_rfl)
  clear hK K
  try simp only [Act.put, List.getElem_toArray, List.getElem_cons_zero, List.getElem_cons_succ, List.setIfInBounds_toArray, List.set_cons_zero, List.set_cons_succ]
  refine wpAnyE_ready (rs := [9]) (by kernel_rfl) (by simp) ?_
  refine AllReadyE.cons rfl (fun K hK => ?_) AllReadyE.nil
  all_goals simp only [List.getElem_toArray, List.getElem_cons_zero, List.getElem_cons_succ]
  all_goals go_simp
  refine (next_any e.lev dd u2).mono ?_
  rintro ed u3 ⟨rfl, rfl⟩
  rw [HN.out]
  refine hK.out _ _ (fun _ => X3.out.field 8 (by omega)) (fun hHeld => ?_) (fun hX => (by first | cases hX | simp at hX))
  replace hClosed := hClosed.step 9 (by kernel_rfl)
  clear hK K
  try simp only [Act.put, List.getElem_toArray, List.getElem_cons_zero, List.getElem_cons_succ, List.setIfInBounds_toArray, List.set_cons_zero, List.set_cons_succ]
  refine' wpAnyE_free (i := 10) (v := _) rfl (by kernel_rfl) (by kernel_rfl) (by kernel_rfl) (fun _ _ _ h => h) (Or.inl ⟨by rfl, fun u _ => ?_⟩) hClosed (fun hNext => ?_)
  rotate_left
  · go_simp
    try with_reducible rfl
  clear hClosed
  have hClosed := hNext
  clear hNext
  try simp only [Act.put, List.getElem_toArray, List.getElem_cons_zero, List.getElem_cons_succ, List.setIfInBounds_toArray, List.set_cons_zero, List.set_cons_succ]
  refine wpAnyE_done (by kernel_rfl) ?_ _
  clear hClosed
  go_wp2_with fail
  refine (fits_any u2 B g y _ sv lv cv n X3.out).mono ?_
  rintro e wq ⟨rfl, rfl⟩
  rcases hfit : fitsX y n with _ | _
  · have HZ : Hid (isolateX x l i c = { y with isos := y.isos + 1 }) := Lib.hid (by rw [HEX.out, hfit, if_neg (by simp)])
    have h2 := X3.out.field 2 (by omega)
    simp only [X6.cells, List.getElem?_cons_succ, List.getElem?_cons_zero] at h2
    have hw1 : IntKind.i64.wrap ((y.isos : Int) + 1) = ((y.isos + 1 : Nat) : Int) := by rw [IntWalk.i64_in _ (by omega)]; omega
    clear hfit
    go_wp2_with (first
      | (refine store_cell u2 B _ _ g 2 9 (.int .i64 ((y.isos + 1 : Nat) : Int)) _ u2 rfl rfl rfl (by kernel_rfl) rfl rfl rfl X3.out.row (by simp [X6.cells]) (Below.refl _ _) ?_; intro w3 r3 b3 g3; have X4 := Lib.hid (X3.out.stored (x' := { y with isos := y.isos + 1 }) r3 g3 rfl rfl rfl rfl); have B4 := Lib.hid (B3.out.trans b3); clear r3 b3 g3)
      | fail)
    (try simp only [Exit.inBlock, Exit.then])
    exact bodyPost_end (results_none rfl _ _ _) rfl ⟨rfl, by rw [HZ.out]; exact ⟨_, _, _, X4.out⟩, B4.out⟩
  · have HZ : Hid (isolateX x l i c = pushX { y with valid := y.valid + 1 } ⟨n, -1, true⟩) := Lib.hid (by rw [HEX.out, hfit, if_pos rfl])
    have h4 := X3.out.field 4 (by omega)
    simp only [X6.cells, List.getElem?_cons_succ, List.getElem?_cons_zero] at h4
    have hw1 : IntKind.i64.wrap ((y.valid : Int) + 1) = ((y.valid + 1 : Nat) : Int) := by rw [IntWalk.i64_in _ (by omega)]; omega
    clear hfit
    go_wp2_with (first
      | (refine store_cell u2 B _ _ g 4 9 (.int .i64 ((y.valid + 1 : Nat) : Int)) _ u2 rfl rfl rfl (by kernel_rfl) rfl rfl rfl X3.out.row (by simp [X6.cells]) (Below.refl _ _) ?_; intro w3 r3 b3 g3; have X4 := Lib.hid (X3.out.stored (x' := { y with valid := y.valid + 1 }) r3 g3 rfl rfl rfl rfl); have B4 := Lib.hid (B3.out.trans b3); clear r3 b3 g3)
      | fail)
    refine (push_any w3 B g { y with valid := y.valid + 1 } _ sv lv cv ⟨n, -1, true⟩ X4.out hyl).mono ?_
    rintro ed w5 ⟨rfl, ⟨sv5, x5⟩, b5⟩
    have X5 := Lib.hid x5
    have B5 := Lib.hid (B4.out.trans b5)
    clear x5 b5
    go_wp2_with fail
    (try simp only [Exit.inBlock, Exit.then])
    exact bodyPost_end (results_none rfl _ _ _) rfl ⟨rfl, by rw [HZ.out]; exact ⟨_, _, _, X5.out⟩, B5.out⟩
end Go.Proofs.Ytajgjloailliiaa
