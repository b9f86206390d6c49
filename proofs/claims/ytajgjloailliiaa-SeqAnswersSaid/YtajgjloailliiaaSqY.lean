/- Layer 8: the program's Runs. -/
import Derived.Test.YtajgjloailliiaaSqS
namespace Go.Proofs.Ytajgjloailliiaa
open Go.RowKit

set_option maxRecDepth 20000 in
set_option maxHeartbeats 4000000 in
theorem sruns_any (A : Option Addr) (cl : List Int) (c : Nat) (A' : Option Addr) (lv : List Int) (c' : Nat) (w : World) (h : Lies w w.heap.size A (ints .i64 cl)) (h' : Lies w w.heap.size A' (ints .i64 lv)) (hl : cl.length ≤ 1000000) (_ : lv.length ≤ 1000000) :
    Calls Try.prog 11 #[.slice A cl.length c, .slice A' lv.length c'] w (RowedP w (listsI cl lv)) := by
  have H := Lib.hid h
  have H' := Lib.hid h'
  have hsix := listsI_six (lv := lv) hl
  have HSP := Lib.hid (ssplit_any A cl c A' lv c' w h h' hl)
  obtain ⟨L, hL⟩ : ∃ L, listsI cl lv = L := ⟨_, rfl⟩
  rw [hL] at HSP hsix
  obtain ⟨hL6, hne, hle⟩ := hsix
  have HNE := Lib.hid hne
  have HLE := Lib.hid hle
  rw [hL]
  clear h h' hL hne hle
  go_enter Try.func11, Try.ntmps11
  go_wp2_with fail
  refine HSP.out.mono ?_
  rintro e w1 ⟨A1, c1, rfl, r1, b1⟩
  have R1 := Lib.hid r1
  have B1 := Lib.hid b1
  clear r1 b1
  go_wp2_with fail
  go_loopw [12, 5] (fun iv ov wr => ∃ (k : Nat), k ≤ L.length ∧ iv = .int .i64 k ∧ OwnN wr w1.heap.size 39 2 ov k (pairsOf (L.take k)) ∧ Below w1.heap.size w1 wr) (fun iv _ _ => L.length - (intOf iv).toNat)
  case atStart => exact ⟨0, by omega, rfl, OwnN.empty _ _ _ _, Below.refl _ _⟩
  case round =>
    obtain ⟨k, hk, rfl, ho, hb⟩ := hrel
    have HO := Lib.hid ho
    have HB := Lib.hid hb
    clear ho hb
    by_cases hlt : k < L.length
    · obtain ⟨p, b, off, rfl, hpb, hbb, hcell, hc0, hc1, _⟩ := R1.out.later HB.out hlt (HNE.out k hlt)
      obtain ⟨m, hm⟩ : ∃ m, L[k].length = m := ⟨_, rfl⟩
      have hm0 : 0 < m := by rw [← hm]; exact List.length_pos_iff.2 (HNE.out k hlt)
      have hm6 : m ≤ 1000000 := by rw [← hm]; exact HLE.out k hlt
      obtain ⟨t, ht⟩ : ∃ t, m - 1 = t := ⟨_, rfl⟩
      obtain ⟨x, hx⟩ : ∃ x, headI L[k] = x := ⟨_, rfl⟩
      obtain ⟨y, hy⟩ : ∃ x, lastI L[k] = x := ⟨_, rfl⟩
      have HX : Hid (headI L[k] = x ∧ lastI L[k] = y) := Lib.hid ⟨hx, hy⟩
      rw [hm] at hcell
      rw [hm, ht, hy] at hc1
      rw [hx] at hc0
      have b0 : (0 : Int) ≤ (k : Int) := by omega
      have b1 : (k : Int) < (L.length : Int) := by omega
      have b4 : (0 : Int) < (m : Int) := by omega
      have HMT : Hid (m = t + 1) := Lib.hid (by omega)
      have SK : Hid (∀ w', Below w1.heap.size wr w' → w'.cell? ⟨b, off, none⟩ = some (.int .i64 x) ∧ w'.cell? ⟨b, off + t, none⟩ = some (.int .i64 y)) :=
        Lib.hid fun w' h => ⟨by rw [h.cell hbb]; exact hc0, by rw [h.cell hbb]; exact hc1⟩
      have hk0 := SK.out wr.drew (by exact below_same (Below.refl _ _) rfl rfl rfl rfl)
      clear hm hx hy ht hc0 hc1
      go_wp2_with fail
      clear hcell
      refine wp_region_E (S := fun w' => w'.cell? ⟨b, off, none⟩ = some (.int .i64 x) ∧ w'.cell? ⟨b, off + t, none⟩ = some (.int .i64 y)) [] (by kernel_rfl) (hk0) (fun hHeld hClosed => ?_)
      refine' wpAnyE_take (i := 0) (v := _) rfl (by kernel_rfl) (by kernel_rfl) (by kernel_rfl) (by kernel_rfl) (fun _ _ _ h => h) (Or.inl ⟨by rfl, fun u hu => ?_⟩) hHeld hClosed (fun hNext => ?_)
      rotate_left
      · (try dsimp only at hu)
        go_simp
        try with_reducible rfl
      clear hClosed
      have hClosed := hNext
      clear hNext
      try simp only [Act.put, List.getElem_toArray, List.getElem_cons_zero, List.setIfInBounds_toArray, List.set_cons_zero, List.set_cons_succ]
      refine' wpAnyE_take (i := 1) (v := _) rfl (by kernel_rfl) (by kernel_rfl) (by kernel_rfl) (by kernel_rfl) (fun _ _ _ h => h) (Or.inl ⟨by rfl, fun u hu => ?_⟩) hHeld hClosed (fun hNext => ?_)
      rotate_left
      · (try dsimp only at hu)
        go_simp
        try with_reducible rfl
      clear hClosed
      have hClosed := hNext
      clear hNext
      try simp only [Act.put, List.getElem_toArray, List.getElem_cons_zero, List.getElem_cons_succ, List.setIfInBounds_toArray, List.set_cons_zero, List.set_cons_succ]
      refine' wpAnyE_take (i := 2) (v := _) rfl (by kernel_rfl) (by kernel_rfl) (by kernel_rfl) (by kernel_rfl) (fun _ _ _ h => h) (Or.inl ⟨by rfl, fun u hu => ?_⟩) hHeld hClosed (fun hNext => ?_)
      rotate_left
      · (try dsimp only at hu)
        go_simp
        try with_reducible rfl
      clear hClosed
      have hClosed := hNext
      clear hNext
      try simp only [Act.put, List.getElem_toArray, List.getElem_cons_zero, List.getElem_cons_succ, List.setIfInBounds_toArray, List.set_cons_zero, List.set_cons_succ]
      refine' wpAnyE_take (i := 3) (v := _) rfl (by kernel_rfl) (by kernel_rfl) (by kernel_rfl) (by kernel_rfl) (fun _ _ _ h => h) (Or.inl ⟨by rfl, fun u hu => ?_⟩) hHeld hClosed (fun hNext => ?_)
      rotate_left
      · (try dsimp only at hu)
        go_simp
        try with_reducible rfl
      clear hClosed
      have hClosed := hNext
      clear hNext
      try simp only [Act.put, List.getElem_toArray, List.getElem_cons_zero, List.getElem_cons_succ, List.setIfInBounds_toArray, List.set_cons_zero, List.set_cons_succ]
      refine' wpAnyE_take (i := 4) (v := _) rfl (by kernel_rfl) (by kernel_rfl) (by kernel_rfl) (by kernel_rfl) (fun _ _ _ h => h) (Or.inl ⟨by rfl, fun u hu => ?_⟩) hHeld hClosed (fun hNext => ?_)
      rotate_left
      · (try dsimp only at hu)
        go_simp
        try with_reducible rfl
      clear hClosed
      have hClosed := hNext
      clear hNext
      try simp only [Act.put, List.getElem_toArray, List.getElem_cons_zero, List.getElem_cons_succ, List.setIfInBounds_toArray, List.set_cons_zero, List.set_cons_succ]
      refine wpAnyE_ready (rs := [5]) (by kernel_rfl) (by simp) ?_
      refine AllReadyE.cons rfl (fun K hK => ?_) AllReadyE.nil
      all_goals simp only [List.getElem_toArray, List.getElem_cons_zero, List.getElem_cons_succ]
      all_goals go_simp
      refine (slast_any b off m t m y _ HMT.out hm6 hHeld.2).mono ?_
      rintro e wq ⟨rfl, rfl⟩
      refine hK.out _ _ (fun _ => hHeld) (fun hHeld => ?_) (fun hX => (by first | cases hX | simp at hX))
      replace hClosed := hClosed.step 5 (by kernel_rfl)
      clear hK K
      try simp only [Act.put, List.getElem_toArray, List.getElem_cons_zero, List.getElem_cons_succ, List.setIfInBounds_toArray, List.set_cons_zero, List.set_cons_succ]
      refine' wpAnyE_take (i := 6) (v := _) rfl (by kernel_rfl) (by kernel_rfl) (by kernel_rfl) (by kernel_rfl) (fun _ _ _ h => h) (Or.inl ⟨by rfl, fun u hu => ?_⟩) hHeld hClosed (fun hNext => ?_)
      rotate_left
      · (try dsimp only at hu)
        go_simp
        try with_reducible rfl
      clear hClosed
      have hClosed := hNext
      clear hNext
      try simp only [Act.put, List.getElem_toArray, List.getElem_cons_zero, List.getElem_cons_succ, List.setIfInBounds_toArray, List.set_cons_zero, List.set_cons_succ]
      refine wpAnyE_ready (rs := [7]) (by kernel_rfl) (by simp) ?_
      refine AllReadyE.cons rfl (fun K hK => ?_) AllReadyE.nil
      all_goals simp only [List.getElem_toArray, List.getElem_cons_zero, List.getElem_cons_succ]
      all_goals go_simp
      refine hK.out _ _ (fun _ => SK.out _ (by exact below_same ((below_alloc wr _).mono HB.out.size) rfl rfl rfl rfl)) (fun hHeld => ?_) (fun hX => (by first | cases hX | simp at hX))
      replace hClosed := hClosed.step 7 (by kernel_rfl)
      clear hK K
      try simp only [Act.put, List.getElem_toArray, List.getElem_cons_zero, List.getElem_cons_succ, List.setIfInBounds_toArray, List.set_cons_zero, List.set_cons_succ]
      refine wpAnyE_ready (rs := [8]) (by kernel_rfl) (by simp) ?_
      refine AllReadyE.cons rfl (fun K hK => ?_) AllReadyE.nil
      refine step_appN pairsT wr _ w1.heap.size _ (.tmp 16) (.tmp 23) _ k 1 (pairsOf (L.take k)) [.int .i64 x, .int .i64 y] _ _ rfl rfl rfl rfl (OwnN.same (OwnN.alloc HO.out (.cells #[.int .i64 x, .int .i64 y] 39)) rfl) (Lies.sameHeap (Lies.lit (w := wr.drew) (e := 39) #[.int .i64 x, .int .i64 y]) rfl) rfl (by simp [Value.oneCell']) (by exact below_same ((below_alloc wr _).mono HB.out.size) rfl rfl rfl rfl) (by have := HB.out.size; simp; omega) (by unfold maxLen; omega) (by omega) ?_
      intro v2 w2 o2 b2 g2 e2
      have O2 := Lib.hid o2
      have B2 := Lib.hid b2
      clear o2 b2 g2 e2
      refine hK.out _ _ (fun _ => SK.out _ B2.out) (fun hHeld => ?_) (fun hX => (by first | cases hX | simp at hX))
      replace hClosed := hClosed.step 8 (by kernel_rfl)
      clear hK K
      try simp only [Act.put, List.getElem_toArray, List.getElem_cons_zero, List.getElem_cons_succ, List.setIfInBounds_toArray, List.set_cons_zero, List.set_cons_succ]
      refine' wpAnyE_take (i := 9) (v := _) rfl (by kernel_rfl) (by kernel_rfl) (by kernel_rfl) (by kernel_rfl) (fun _ _ _ h => h) (Or.inl ⟨by rfl, fun u hu => ?_⟩) hHeld hClosed (fun hNext => ?_)
      rotate_left
      · (try dsimp only at hu)
        go_simp
        try with_reducible rfl
      clear hClosed
      have hClosed := hNext
      clear hNext
      try simp only [Act.put, List.getElem_toArray, List.getElem_cons_zero, List.getElem_cons_succ, List.setIfInBounds_toArray, List.set_cons_zero, List.set_cons_succ]
      refine wpAnyE_done (by kernel_rfl) ?_ _
      clear hClosed
      go_wp2_with fail
      go_roundw
      case rel =>
        refine ⟨k + 1, by omega, by go_num, ?_, HB.out.trans B2.out⟩
        rw [List.take_succ_eq_append_getElem hlt, pairsOf_append, show pairsOf [L[k]] = [.int .i64 x, .int .i64 y] by rw [pairsOf, List.flatMap_cons, List.flatMap_nil, HX.out.1, HX.out.2]; rfl]
        exact O2.out
      case measure => simp [intOf]; omega
    · obtain rfl : k = L.length := by omega
      go_wp2
      go_ret
      have h1 := HO.out
      rw [List.take_length] at h1
      obtain ⟨A2, c2, rfl, l2, _, _⟩ := h1.form
      exact ⟨_, _, rfl, l2, B1.out.trans (HB.out.mono B1.out.size)⟩
end Go.Proofs.Ytajgjloailliiaa
