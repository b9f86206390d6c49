/- Layer 8: the program's walk: level, sos, eos. -/
import Derived.Test.YtajgjloailliiaaSqS
namespace Go.Proofs.Ytajgjloailliiaa
open Go.RowKit

/-- a run's level; the base, if there is no such run -/
def levW (lv : List Int) (base : Int) (L : List (List Int)) (i : Int) : Int := if i < 0 ∨ (L.length : Int) ≤ i then base else lv.getD (headI (L.getD i.toNat [])).toNat 0
theorem levW_out {lv : List Int} {base : Int} {L : List (List Int)} {i : Int} (h : i < 0 ∨ (L.length : Int) ≤ i) : levW lv base L i = base := by rw [levW, if_pos h]
theorem levW_in {lv : List Int} {base : Int} {L : List (List Int)} {k : Nat} (h : k < L.length) : levW lv base L (k : Int) = lv.getD (headI L[k]).toNat 0 := by
  rw [levW, if_neg (by omega), Int.toNat_natCast, show L.getD k [] = L[k] by simp [h]]
theorem Within.head {L : List (List Int)} {n : Nat} (h : Within L n) {i : Nat} (hi : i < L.length) : ∃ q : Nat, headI L[i] = (q : Int) ∧ q < n := by
  obtain ⟨h1, _, h2⟩ := h _ (List.getElem_mem hi)
  have hp := List.length_pos_iff.2 h1
  refine h2 _ ?_
  rw [headI, show L[i].getD 0 0 = L[i][0] by simp [hp]]
  exact List.getElem_mem _

abbrev walkV (A : Option Addr) (n c : Nat) (A' : Option Addr) (n' c' : Nat) (base : Int) (Ar : Option Addr) (nr cr : Nat) : Value := .agg #[.slice A n c, .slice A' n' c', .int .i64 base, .slice Ar nr cr]

set_option maxRecDepth 20000 in
set_option maxHeartbeats 4000000 in
theorem slevel_any (A : Option Addr) (n c : Nat) (A' : Option Addr) (lv : List Int) (c' : Nat) (base : Int) (Ar : Option Addr) (L : List (List Int)) (cr : Nat) (i : Int) (w : World)
    (h' : Lies w w.heap.size A' (ints .i64 lv)) (hr : RunsR w Ar L) (hW : Within L lv.length) :
    Calls Try.prog 20 #[walkV A n c A' lv.length c' base Ar L.length cr, .int .i64 i] w fun ed w' => ed = .returned (.int .i64 (levW lv base L i)) ∧ Below w.heap.size w w' := by
  by_cases h0 : i < 0
  · rw [levW_out (.inl h0)]
    clear h' hr hW
    go_enter Try.func20, Try.ntmps20
    go_wp2_with fail
    go_ret
    exact ⟨rfl, below_alloc _ _⟩
  · by_cases h1 : (L.length : Int) ≤ i
    · rw [levW_out (.inr h1)]
      clear h' hr hW
      go_enter Try.func20, Try.ntmps20
      go_wp2_with fail
      go_ret
      exact ⟨rfl, below_alloc _ _⟩
    · obtain ⟨k, rfl⟩ : ∃ k : Nat, i = k := ⟨i.toNat, by omega⟩
      have hk : k < L.length := by omega
      obtain ⟨q, hq, hql⟩ := hW.head hk
      obtain ⟨p, b, off, rfl, hpb, hbb, hcell, hc0, _, _⟩ := hr.at' hk (hW _ (List.getElem_mem hk)).1
      obtain ⟨pv, rfl, hpvb, hcv⟩ := h'.int hql
      obtain ⟨x, hx⟩ : ∃ x, lv[q] = x := ⟨_, rfl⟩
      rw [levW_in hk, hq, Int.toNat_natCast, show lv.getD q 0 = x by simp [hql, hx]]
      obtain ⟨m, hm⟩ : ∃ m, L[k].length = m := ⟨_, rfl⟩
      have hm0 : 0 < m := by rw [← hm]; exact List.length_pos_iff.2 (hW _ (List.getElem_mem hk)).1
      rw [hm] at hcell
      rw [hq] at hc0
      rw [hx] at hcv
      have b0 : (0 : Int) ≤ (k : Int) := by omega
      have b1 : (k : Int) < (L.length : Int) := by omega
      have b2 : (0 : Int) ≤ (q : Int) := by omega
      have b3 : (q : Int) < (lv.length : Int) := by omega
      have b4 : (0 : Int) < (m : Int) := by omega
      have hs : Hid (∀ o : Obj, (w.alloc o).cell? (p.add k) = some (.slice (some ⟨b, off, none⟩) m m) ∧ (w.alloc o).cell? ⟨b, off, none⟩ = some (.int .i64 q) ∧ (w.alloc o).cell? (pv.add q) = some (.int .i64 x)) :=
        Lib.hid fun o => ⟨by rw [(below_alloc w o).cell (by rw [add_block]; exact hpb)]; exact hcell, by rw [(below_alloc w o).cell hbb]; exact hc0, by rw [(below_alloc w o).cell (by rw [add_block]; exact hpvb)]; exact hcv⟩
      clear h' hr hW hq hx hm hcell hc0 hcv h0 h1 hpb hbb hpvb
      go_enter Try.func20, Try.ntmps20
      go_wp2_with fail
      refine wp_region_E (S := fun w' => w'.cell? ⟨w.heap.size, 1, none⟩ = some (.slice (some pv) lv.length c') ∧ w'.cell? ⟨w.heap.size, 3, none⟩ = some (.slice (some p) L.length cr) ∧ w'.cell? (p.add k) = some (.slice (some ⟨b, off, none⟩) m m) ∧ w'.cell? ⟨b, off, none⟩ = some (.int .i64 q) ∧ w'.cell? (pv.add q) = some (.int .i64 x)) [] (by kernel_rfl) (⟨boxed (below_drawn (Below.refl _ _) 1) rfl, boxed (below_drawn (Below.refl _ _) 1) rfl, hs.out _⟩) (fun hHeld hClosed => ?_)
      refine' wpAnyE_take (i := 0) (v := _) rfl (by kernel_rfl) (by kernel_rfl) (by kernel_rfl) (by kernel_rfl) (fun _ _ _ h => h) (Or.inl ⟨by rfl, fun u hu => ?_⟩) hHeld hClosed (fun hNext => ?_)
      rotate_left
      · (try dsimp only at hu)
        go_simp
        try with_reducible rfl
      clear hClosed
      have hClosed := hNext
      clear hNext
      try simp only [Act.put, List.getElem_toArray, List.getElem_cons_zero, List.setIfInBounds_toArray, List.set_cons_zero, List.set_cons_succ]
      refine' wpAnyE_take (i := 1) (v := _) rfl (by kernel_rfl) (by kernel_rfl) (by kernel_rfl) (by kernel_rfl) (fun _ _ _ h => h) (Or.inl ⟨by rfl, fun u hu => ?_⟩) hHeld hClosed (fun hNext => ?_)
      rotate_left
      · (try dsimp only at hu)
        go_simp
        try with_reducible rfl
      clear hClosed
      have hClosed := hNext
      clear hNext
      try simp only [Act.put, List.getElem_toArray, List.getElem_cons_zero, List.getElem_cons_succ, List.setIfInBounds_toArray, List.set_cons_zero, List.set_cons_succ]
      refine' wpAnyE_take (i := 2) (v := _) rfl (by kernel_rfl) (by kernel_rfl) (by kernel_rfl) (by kernel_rfl) (fun _ _ _ h => h) (Or.inl ⟨by rfl, fun u hu => ?_⟩) hHeld hClosed (fun hNext => ?_)
      rotate_left
      · (try dsimp only at hu)
        go_simp
        try with_reducible rfl
      clear hClosed
      have hClosed := hNext
      clear hNext
      try simp only [Act.put, List.getElem_toArray, List.getElem_cons_zero, List.getElem_cons_succ, List.setIfInBounds_toArray, List.set_cons_zero, List.set_cons_succ]
      refine' wpAnyE_take (i := 3) (v := _) rfl (by kernel_rfl) (by kernel_rfl) (by kernel_rfl) (by kernel_rfl) (fun _ _ _ h => h) (Or.inl ⟨by rfl, fun u hu => ?_⟩) hHeld hClosed (fun hNext => ?_)
      rotate_left
      · (try dsimp only at hu)
        go_simp
        try with_reducible rfl
      clear hClosed
      have hClosed := hNext
      clear hNext
      try simp only [Act.put, List.getElem_toArray, List.getElem_cons_zero, List.getElem_cons_succ, List.setIfInBounds_toArray, List.set_cons_zero, List.set_cons_succ]
      refine' wpAnyE_take (i := 4) (v := _) rfl (by kernel_rfl) (by kernel_rfl) (by kernel_rfl) (by kernel_rfl) (fun _ _ _ h => h) (Or.inl ⟨by rfl, fun u hu => ?_⟩) hHeld hClosed (fun hNext => ?_)
      rotate_left
      · (try dsimp only at hu)
        go_simp
        try with_reducible rfl
      clear hClosed
      have hClosed := hNext
      clear hNext
      try simp only [Act.put, List.getElem_toArray, List.getElem_cons_zero, List.getElem_cons_succ, List.setIfInBounds_toArray, List.set_cons_zero, List.set_cons_succ]
      refine' wpAnyE_take (i := 5) (v := _) rfl (by kernel_rfl) (by kernel_rfl) (by kernel_rfl) (by kernel_rfl) (fun _ _ _ h => h) (Or.inl ⟨by rfl, fun u hu => ?_⟩) hHeld hClosed (fun hNext => ?_)
      rotate_left
      · (try dsimp only at hu)
        go_simp
        try with_reducible rfl
      clear hClosed
      have hClosed := hNext
      clear hNext
      try simp only [Act.put, List.getElem_toArray, List.getElem_cons_zero, List.getElem_cons_succ, List.setIfInBounds_toArray, List.set_cons_zero, List.set_cons_succ]
      refine' wpAnyE_take (i := 6) (v := _) rfl (by kernel_rfl) (by kernel_rfl) (by kernel_rfl) (by kernel_rfl) (fun _ _ _ h => h) (Or.inl ⟨by rfl, fun u hu => ?_⟩) hHeld hClosed (fun hNext => ?_)
      rotate_left
      · (try dsimp only at hu)
        go_simp
        try with_reducible rfl
      clear hClosed
      have hClosed := hNext
      clear hNext
      try simp only [Act.put, List.getElem_toArray, List.getElem_cons_zero, List.getElem_cons_succ, List.setIfInBounds_toArray, List.set_cons_zero, List.set_cons_succ]
      refine' wpAnyE_take (i := 7) (v := _) rfl (by kernel_rfl) (by kernel_rfl) (by kernel_rfl) (by kernel_rfl) (fun _ _ _ h => h) (Or.inl ⟨by rfl, fun u hu => ?_⟩) hHeld hClosed (fun hNext => ?_)
      rotate_left
      · (try dsimp only at hu)
        go_simp
        try with_reducible rfl
      clear hClosed
      have hClosed := hNext
      clear hNext
      try simp only [Act.put, List.getElem_toArray, List.getElem_cons_zero, List.getElem_cons_succ, List.setIfInBounds_toArray, List.set_cons_zero, List.set_cons_succ]
      refine' wpAnyE_take (i := 8) (v := _) rfl (by kernel_rfl) (by kernel_rfl) (by kernel_rfl) (by kernel_rfl) (fun _ _ _ h => h) (Or.inl ⟨by rfl, fun u hu => ?_⟩) hHeld hClosed (fun hNext => ?_)
      rotate_left
      · (try dsimp only at hu)
        go_simp
        try with_reducible rfl
      clear hClosed
      have hClosed := hNext
      clear hNext
      try simp only [Act.put, List.getElem_toArray, List.getElem_cons_zero, List.getElem_cons_succ, List.setIfInBounds_toArray, List.set_cons_zero, List.set_cons_succ]
      refine' wpAnyE_take (i := 9) (v := _) rfl (by kernel_rfl) (by kernel_rfl) (by kernel_rfl) (by kernel_rfl) (fun _ _ _ h => h) (Or.inl ⟨by rfl, fun u hu => ?_⟩) hHeld hClosed (fun hNext => ?_)
      rotate_left
      · (try dsimp only at hu)
        go_simp
        try with_reducible rfl
      clear hClosed
      have hClosed := hNext
      clear hNext
      try simp only [Act.put, List.getElem_toArray, List.getElem_cons_zero, List.getElem_cons_succ, List.setIfInBounds_toArray, List.set_cons_zero, List.set_cons_succ]
      refine' wpAnyE_take (i := 10) (v := _) rfl (by kernel_rfl) (by kernel_rfl) (by kernel_rfl) (by kernel_rfl) (fun _ _ _ h => h) (Or.inl ⟨by rfl, fun u hu => ?_⟩) hHeld hClosed (fun hNext => ?_)
      rotate_left
      · (try dsimp only at hu)
        go_simp
        try with_reducible rfl
      clear hClosed
      have hClosed := hNext
      clear hNext
      try simp only [Act.put, List.getElem_toArray, List.getElem_cons_zero, List.getElem_cons_succ, List.setIfInBounds_toArray, List.set_cons_zero, List.set_cons_succ]
      refine' wpAnyE_take (i := 11) (v := _) rfl (by kernel_rfl) (by kernel_rfl) (by kernel_rfl) (by kernel_rfl) (fun _ _ _ h => h) (Or.inl ⟨by rfl, fun u hu => ?_⟩) hHeld hClosed (fun hNext => ?_)
      rotate_left
      · (try dsimp only at hu)
        go_simp
        try with_reducible rfl
      clear hClosed
      have hClosed := hNext
      clear hNext
      try simp only [Act.put, List.getElem_toArray, List.getElem_cons_zero, List.getElem_cons_succ, List.setIfInBounds_toArray, List.set_cons_zero, List.set_cons_succ]
      refine wpAnyE_done (by kernel_rfl) ?_ _
      clear hClosed
      go_wp2_with fail
      go_ret
      exact ⟨rfl, by exact below_same (below_alloc w _) rfl rfl rfl rfl⟩

set_option maxRecDepth 20000 in
set_option maxHeartbeats 4000000 in
theorem ssos_any (A : Option Addr) (n c : Nat) (A' : Option Addr) (lv : List Int) (c' : Nat) (base : Int) (Ar : Option Addr) (L : List (List Int)) (cr : Nat) (k : Nat) (w : World)
    (h' : Lies w w.heap.size A' (ints .i64 lv)) (hr : RunsR w Ar L) (hW : Within L lv.length) (hk : k ≤ 1000000) :
    Calls Try.prog 21 #[walkV A n c A' lv.length c' base Ar L.length cr, .int .i64 (k : Int)] w fun ed w' => ed = .returned (.int .i64 (dirL (max (levW lv base L k) (levW lv base L ((k : Int) - 1))))) ∧ Below w.heap.size w w' := by
  have H' := Lib.hid h'
  have HR := Lib.hid hr
  have HW := Lib.hid hW
  obtain ⟨x, hx⟩ : ∃ x, levW lv base L k = x := ⟨_, rfl⟩
  obtain ⟨y, hy⟩ : ∃ x, levW lv base L ((k : Int) - 1) = x := ⟨_, rfl⟩
  rw [hx, hy]
  have hwk : IntKind.i64.wrap ((k : Int) - 1) = (k : Int) - 1 := by rw [IntWalk.i64_in _ (by omega)]
  have lev1 : Hid (∀ u, Below w.heap.size w u → Calls Try.prog 20 #[walkV A n c A' lv.length c' base Ar L.length cr, .int .i64 (k : Int)] u fun ed w' => ed = .returned (.int .i64 x) ∧ Below u.heap.size u w') :=
    Lib.hid fun u hu => hx ▸ slevel_any A n c A' lv c' base Ar L cr k u (H'.out.up hu) (HR.out.up hu) HW.out
  have lev2 : Hid (∀ u, Below w.heap.size w u → Calls Try.prog 20 #[walkV A n c A' lv.length c' base Ar L.length cr, .int .i64 ((k : Int) - 1)] u fun ed w' => ed = .returned (.int .i64 y) ∧ Below u.heap.size u w') :=
    Lib.hid fun u hu => hy ▸ slevel_any A n c A' lv c' base Ar L cr ((k : Int) - 1) u (H'.out.up hu) (HR.out.up hu) HW.out
  clear h' hr hW hx hy hk
  obtain ⟨z, hz⟩ : ∃ z, max x y = z := ⟨_, rfl⟩
  rw [hz]
  have SK : Hid (∀ w', Below (w.alloc (.cells #[.slice A n c, .slice A' lv.length c', .int .i64 base, .slice Ar L.length cr] 44)).heap.size (w.alloc (.cells #[.slice A n c, .slice A' lv.length c', .int .i64 base, .slice Ar L.length cr] 44)) w' →
      w'.cell? ⟨w.heap.size, 0, none⟩ = some (.slice A n c) ∧ w'.cell? ⟨w.heap.size, 1, none⟩ = some (.slice A' lv.length c') ∧ w'.cell? ⟨w.heap.size, 2, none⟩ = some (.int .i64 base) ∧ w'.cell? ⟨w.heap.size, 3, none⟩ = some (.slice Ar L.length cr)) :=
    Lib.hid fun w' h => ⟨boxed h rfl, boxed h rfl, boxed h rfl, boxed h rfl⟩
  obtain ⟨W, hW⟩ : ∃ W, w.alloc (.cells #[.slice A n c, .slice A' lv.length c', .int .i64 base, .slice Ar L.length cr] 44) = W := ⟨_, rfl⟩
  have BW : Hid (Below w.heap.size w W) := Lib.hid (hW ▸ below_alloc w _)
  rw [hW] at SK
  go_enter Try.func21, Try.ntmps21
  rcases Decidable.em (x < y) with hxy | hxy
  · have HZ : Hid (y = z) := Lib.hid (by rw [← hz]; omega)
    clear hz
    go_wp2_with fail
    clear hW
    refine wp_region_E (S := fun w' => w'.cell? ⟨w.heap.size, 0, none⟩ = some (.slice A n c) ∧ w'.cell? ⟨w.heap.size, 1, none⟩ = some (.slice A' lv.length c') ∧ w'.cell? ⟨w.heap.size, 2, none⟩ = some (.int .i64 base) ∧ w'.cell? ⟨w.heap.size, 3, none⟩ = some (.slice Ar L.length cr)) [] (by kernel_rfl) (SK.out _ (by exact below_same (Below.refl W.heap.size W) rfl rfl rfl rfl)) (fun hHeld hClosed => ?_)
    refine' wpAnyE_take (i := 0) (v := _) rfl (by kernel_rfl) (by kernel_rfl) (by kernel_rfl) (by kernel_rfl) (fun _ _ _ h => h) (Or.inl ⟨by rfl, fun u hu => ?_⟩) hHeld hClosed (fun hNext => ?_)
    rotate_left
    · (try dsimp only at hu)
      go_simp
      try with_reducible rfl
    clear hClosed
    have hClosed := hNext
    clear hNext
    try simp only [Act.put, List.getElem_toArray, List.getElem_cons_zero, List.setIfInBounds_toArray, List.set_cons_zero, List.set_cons_succ]
    refine' wpAnyE_take (i := 1) (v := _) rfl (by kernel_rfl) (by kernel_rfl) (by kernel_rfl) (by kernel_rfl) (fun _ _ _ h => h) (Or.inl ⟨by rfl, fun u hu => ?_⟩) hHeld hClosed (fun hNext => ?_)
    rotate_left
    · (try dsimp only at hu)
      go_simp
      try with_reducible rfl
    clear hClosed
    have hClosed := hNext
    clear hNext
    try simp only [Act.put, List.getElem_toArray, List.getElem_cons_zero, List.getElem_cons_succ, List.setIfInBounds_toArray, List.set_cons_zero, List.set_cons_succ]
    refine' wpAnyE_take (i := 3) (v := _) rfl (by kernel_rfl) (by kernel_rfl) (by kernel_rfl) (by kernel_rfl) (fun _ _ _ h => h) (Or.inl ⟨by rfl, fun u hu => ?_⟩) hHeld hClosed (fun hNext => ?_)
    rotate_left
    · (try dsimp only at hu)
      go_simp
      try with_reducible rfl
    clear hClosed
    have hClosed := hNext
    clear hNext
    try simp only [Act.put, List.getElem_toArray, List.getElem_cons_zero, List.getElem_cons_succ, List.setIfInBounds_toArray, List.set_cons_zero, List.set_cons_succ]
    refine' wpAnyE_take (i := 4) (v := _) rfl (by kernel_rfl) (by kernel_rfl) (by kernel_rfl) (by kernel_rfl) (fun _ _ _ h => h) (Or.inl ⟨by rfl, fun u hu => ?_⟩) hHeld hClosed (fun hNext => ?_)
    rotate_left
    · (try dsimp only at hu)
      go_simp
      try with_reducible rfl
    clear hClosed
    have hClosed := hNext
    clear hNext
    try simp only [Act.put, List.getElem_toArray, List.getElem_cons_zero, List.getElem_cons_succ, List.setIfInBounds_toArray, List.set_cons_zero, List.set_cons_succ]
    refine' wpAnyE_take (i := 5) (v := _) rfl (by kernel_rfl) (by kernel_rfl) (by kernel_rfl) (by kernel_rfl) (fun _ _ _ h => h) (Or.inl ⟨by rfl, fun u hu => ?_⟩) hHeld hClosed (fun hNext => ?_)
    rotate_left
    · (try dsimp only at hu)
      go_simp
      try with_reducible rfl
    clear hClosed
    have hClosed := hNext
    clear hNext
    try simp only [Act.put, List.getElem_toArray, List.getElem_cons_zero, List.getElem_cons_succ, List.setIfInBounds_toArray, List.set_cons_zero, List.set_cons_succ]
    refine wpAnyE_ready (rs := [2]) (by kernel_rfl) (by simp) ?_
    refine AllReadyE.cons rfl (fun K hK => ?_) AllReadyE.nil
    all_goals simp only [List.getElem_toArray, List.getElem_cons_zero, List.getElem_cons_succ]
    all_goals go_simp
    refine (lev1.out _ (by exact below_same BW.out rfl rfl rfl rfl)).mono ?_
    rintro e w2 ⟨rfl, b2⟩
    have B2 := Lib.hid (show Below W.heap.size W w2 from ⟨b2.os, b2.tape, b2.output, b2.size, b2.block⟩)
    clear b2
    refine hK.out _ _ (fun _ => SK.out _ B2.out) (fun hHeld => ?_) (fun hX => (by first | cases hX | simp at hX))
    replace hClosed := hClosed.step 2 (by kernel_rfl)
    clear hK K
    try simp only [Act.put, List.getElem_toArray, List.getElem_cons_zero, List.getElem_cons_succ, List.setIfInBounds_toArray, List.set_cons_zero, List.set_cons_succ]
    refine wpAnyE_ready (rs := [6]) (by kernel_rfl) (by simp) ?_
    refine AllReadyE.cons rfl (fun K hK => ?_) AllReadyE.nil
    all_goals simp only [List.getElem_toArray, List.getElem_cons_zero, List.getElem_cons_succ]
    all_goals go_simp
    refine (lev2.out _ (BW.out.trans (B2.out.mono BW.out.size))).mono ?_
    rintro e w3 ⟨rfl, b3⟩
    have B3 := Lib.hid (below_then B2.out b3)
    clear b3
    refine hK.out _ _ (fun _ => SK.out _ B3.out) (fun hHeld => ?_) (fun hX => (by first | cases hX | simp at hX))
    replace hClosed := hClosed.step 6 (by kernel_rfl)
    clear hK K
    try simp only [Act.put, List.getElem_toArray, List.getElem_cons_zero, List.getElem_cons_succ, List.setIfInBounds_toArray, List.set_cons_zero, List.set_cons_succ]
    refine' wpAnyE_take (i := 7) (v := _) rfl (by kernel_rfl) (by kernel_rfl) (by kernel_rfl) (by kernel_rfl) (fun _ _ _ h => h) (Or.inl ⟨by rfl, fun u hu => ?_⟩) hHeld hClosed (fun hNext => ?_)
    rotate_left
    · (try dsimp only at hu)
      go_simp
      try with_reducible rfl
    clear hClosed
    have hClosed := hNext
    clear hNext
    try simp only [Act.put, List.getElem_toArray, List.getElem_cons_zero, List.getElem_cons_succ, List.setIfInBounds_toArray, List.set_cons_zero, List.set_cons_succ]
    refine wpAnyE_ready (rs := [8]) (by kernel_rfl) (by simp) ?_
    refine AllReadyE.cons rfl (fun K hK => ?_) AllReadyE.nil
    all_goals simp only [List.getElem_toArray, List.getElem_cons_zero, List.getElem_cons_succ]
    all_goals go_simp
    refine (sdir_any _ _).mono ?_
    rintro e w4 ⟨rfl, b4⟩
    have B4 := Lib.hid (below_then B3.out b4)
    clear b4
    refine hK.out _ _ (fun _ => SK.out _ B4.out) (fun hHeld => ?_) (fun hX => (by first | cases hX | simp at hX))
    replace hClosed := hClosed.step 8 (by kernel_rfl)
    clear hK K
    try simp only [Act.put, List.getElem_toArray, List.getElem_cons_zero, List.getElem_cons_succ, List.setIfInBounds_toArray, List.set_cons_zero, List.set_cons_succ]
    refine' wpAnyE_take (i := 9) (v := _) rfl (by kernel_rfl) (by kernel_rfl) (by kernel_rfl) (by kernel_rfl) (fun _ _ _ h => h) (Or.inl ⟨by rfl, fun u hu => ?_⟩) hHeld hClosed (fun hNext => ?_)
    rotate_left
    · (try dsimp only at hu)
      go_simp
      try with_reducible rfl
    clear hClosed
    have hClosed := hNext
    clear hNext
    try simp only [Act.put, List.getElem_toArray, List.getElem_cons_zero, List.getElem_cons_succ, List.setIfInBounds_toArray, List.set_cons_zero, List.set_cons_succ]
    refine wpAnyE_done (by kernel_rfl) ?_ _
    clear hClosed
    go_wp2_with fail
    go_ret
    exact ⟨by rw [HZ.out]; rfl, by exact below_same (BW.out.trans (B4.out.mono BW.out.size)) rfl rfl rfl rfl⟩
  · have HZ : Hid (x = z) := Lib.hid (by rw [← hz]; omega)
    clear hz
    go_wp2_with fail
    clear hW
    refine wp_region_E (S := fun w' => w'.cell? ⟨w.heap.size, 0, none⟩ = some (.slice A n c) ∧ w'.cell? ⟨w.heap.size, 1, none⟩ = some (.slice A' lv.length c') ∧ w'.cell? ⟨w.heap.size, 2, none⟩ = some (.int .i64 base) ∧ w'.cell? ⟨w.heap.size, 3, none⟩ = some (.slice Ar L.length cr)) [] (by kernel_rfl) (SK.out _ (by exact below_same (Below.refl W.heap.size W) rfl rfl rfl rfl)) (fun hHeld hClosed => ?_)
    refine' wpAnyE_take (i := 0) (v := _) rfl (by kernel_rfl) (by kernel_rfl) (by kernel_rfl) (by kernel_rfl) (fun _ _ _ h => h) (Or.inl ⟨by rfl, fun u hu => ?_⟩) hHeld hClosed (fun hNext => ?_)
    rotate_left
    · (try dsimp only at hu)
      go_simp
      try with_reducible rfl
    clear hClosed
    have hClosed := hNext
    clear hNext
    try simp only [Act.put, List.getElem_toArray, List.getElem_cons_zero, List.setIfInBounds_toArray, List.set_cons_zero, List.set_cons_succ]
    refine' wpAnyE_take (i := 1) (v := _) rfl (by kernel_rfl) (by kernel_rfl) (by kernel_rfl) (by kernel_rfl) (fun _ _ _ h => h) (Or.inl ⟨by rfl, fun u hu => ?_⟩) hHeld hClosed (fun hNext => ?_)
    rotate_left
    · (try dsimp only at hu)
      go_simp
      try with_reducible rfl
    clear hClosed
    have hClosed := hNext
    clear hNext
    try simp only [Act.put, List.getElem_toArray, List.getElem_cons_zero, List.getElem_cons_succ, List.setIfInBounds_toArray, List.set_cons_zero, List.set_cons_succ]
    refine' wpAnyE_take (i := 3) (v := _) rfl (by kernel_rfl) (by kernel_rfl) (by kernel_rfl) (by kernel_rfl) (fun _ _ _ h => h) (Or.inl ⟨by rfl, fun u hu => ?_⟩) hHeld hClosed (fun hNext => ?_)
    rotate_left
    · (try dsimp only at hu)
      go_simp
      try with_reducible rfl
    clear hClosed
    have hClosed := hNext
    clear hNext
    try simp only [Act.put, List.getElem_toArray, List.getElem_cons_zero, List.getElem_cons_succ, List.setIfInBounds_toArray, List.set_cons_zero, List.set_cons_succ]
    refine' wpAnyE_take (i := 4) (v := _) rfl (by kernel_rfl) (by kernel_rfl) (by kernel_rfl) (by kernel_rfl) (fun _ _ _ h => h) (Or.inl ⟨by rfl, fun u hu => ?_⟩) hHeld hClosed (fun hNext => ?_)
    rotate_left
    · (try dsimp only at hu)
      go_simp
      try with_reducible rfl
    clear hClosed
    have hClosed := hNext
    clear hNext
    try simp only [Act.put, List.getElem_toArray, List.getElem_cons_zero, List.getElem_cons_succ, List.setIfInBounds_toArray, List.set_cons_zero, List.set_cons_succ]
    refine' wpAnyE_take (i := 5) (v := _) rfl (by kernel_rfl) (by kernel_rfl) (by kernel_rfl) (by kernel_rfl) (fun _ _ _ h => h) (Or.inl ⟨by rfl, fun u hu => ?_⟩) hHeld hClosed (fun hNext => ?_)
    rotate_left
    · (try dsimp only at hu)
      go_simp
      try with_reducible rfl
    clear hClosed
    have hClosed := hNext
    clear hNext
    try simp only [Act.put, List.getElem_toArray, List.getElem_cons_zero, List.getElem_cons_succ, List.setIfInBounds_toArray, List.set_cons_zero, List.set_cons_succ]
    refine wpAnyE_ready (rs := [2]) (by kernel_rfl) (by simp) ?_
    refine AllReadyE.cons rfl (fun K hK => ?_) AllReadyE.nil
    all_goals simp only [List.getElem_toArray, List.getElem_cons_zero, List.getElem_cons_succ]
    all_goals go_simp
    refine (lev1.out _ (by exact below_same BW.out rfl rfl rfl rfl)).mono ?_
    rintro e w2 ⟨rfl, b2⟩
    have B2 := Lib.hid (show Below W.heap.size W w2 from ⟨b2.os, b2.tape, b2.output, b2.size, b2.block⟩)
    clear b2
    refine hK.out _ _ (fun _ => SK.out _ B2.out) (fun hHeld => ?_) (fun hX => (by first | cases hX | simp at hX))
    replace hClosed := hClosed.step 2 (by kernel_rfl)
    clear hK K
    try simp only [Act.put, List.getElem_toArray, List.getElem_cons_zero, List.getElem_cons_succ, List.setIfInBounds_toArray, List.set_cons_zero, List.set_cons_succ]
    refine wpAnyE_ready (rs := [6]) (by kernel_rfl) (by simp) ?_
    refine AllReadyE.cons rfl (fun K hK => ?_) AllReadyE.nil
    all_goals simp only [List.getElem_toArray, List.getElem_cons_zero, List.getElem_cons_succ]
    all_goals go_simp
    refine (lev2.out _ (BW.out.trans (B2.out.mono BW.out.size))).mono ?_
    rintro e w3 ⟨rfl, b3⟩
    have B3 := Lib.hid (below_then B2.out b3)
    clear b3
    refine hK.out _ _ (fun _ => SK.out _ B3.out) (fun hHeld => ?_) (fun hX => (by first | cases hX | simp at hX))
    replace hClosed := hClosed.step 6 (by kernel_rfl)
    clear hK K
    try simp only [Act.put, List.getElem_toArray, List.getElem_cons_zero, List.getElem_cons_succ, List.setIfInBounds_toArray, List.set_cons_zero, List.set_cons_succ]
    refine' wpAnyE_take (i := 7) (v := _) rfl (by kernel_rfl) (by kernel_rfl) (by kernel_rfl) (by kernel_rfl) (fun _ _ _ h => h) (Or.inl ⟨by rfl, fun u hu => ?_⟩) hHeld hClosed (fun hNext => ?_)
    rotate_left
    · (try dsimp only at hu)
      go_simp
      try with_reducible rfl
    clear hClosed
    have hClosed := hNext
    clear hNext
    try simp only [Act.put, List.getElem_toArray, List.getElem_cons_zero, List.getElem_cons_succ, List.setIfInBounds_toArray, List.set_cons_zero, List.set_cons_succ]
    refine wpAnyE_ready (rs := [8]) (by kernel_rfl) (by simp) ?_
    refine AllReadyE.cons rfl (fun K hK => ?_) AllReadyE.nil
    all_goals simp only [List.getElem_toArray, List.getElem_cons_zero, List.getElem_cons_succ]
    all_goals go_simp
    refine (sdir_any _ _).mono ?_
    rintro e w4 ⟨rfl, b4⟩
    have B4 := Lib.hid (below_then B3.out b4)
    clear b4
    refine hK.out _ _ (fun _ => SK.out _ B4.out) (fun hHeld => ?_) (fun hX => (by first | cases hX | simp at hX))
    replace hClosed := hClosed.step 8 (by kernel_rfl)
    clear hK K
    try simp only [Act.put, List.getElem_toArray, List.getElem_cons_zero, List.getElem_cons_succ, List.setIfInBounds_toArray, List.set_cons_zero, List.set_cons_succ]
    refine' wpAnyE_take (i := 9) (v := _) rfl (by kernel_rfl) (by kernel_rfl) (by kernel_rfl) (by kernel_rfl) (fun _ _ _ h => h) (Or.inl ⟨by rfl, fun u hu => ?_⟩) hHeld hClosed (fun hNext => ?_)
    rotate_left
    · (try dsimp only at hu)
      go_simp
      try with_reducible rfl
    clear hClosed
    have hClosed := hNext
    clear hNext
    try simp only [Act.put, List.getElem_toArray, List.getElem_cons_zero, List.getElem_cons_succ, List.setIfInBounds_toArray, List.set_cons_zero, List.set_cons_succ]
    refine wpAnyE_done (by kernel_rfl) ?_ _
    clear hClosed
    go_wp2_with fail
    go_ret
    exact ⟨by rw [HZ.out]; rfl, by exact below_same (BW.out.trans (B4.out.mono BW.out.size)) rfl rfl rfl rfl⟩

/-- the level behind a run, for its last place's class k -/
def behW (lv : List Int) (base : Int) (L : List (List Int)) (i : Nat) (k : Int) : Int := if (k == 10 || isOpens k) then base else levW lv base L ((i : Int) + 1)
set_option maxRecDepth 20000 in
set_option maxHeartbeats 4000000 in
theorem seos_any (A : Option Addr) (cl : List Int) (c : Nat) (A' : Option Addr) (lv : List Int) (c' : Nat) (base : Int) (Ar : Option Addr) (L : List (List Int)) (cr : Nat) (i : Nat) (w : World)
    (h : Lies w w.heap.size A (ints .i64 cl)) (h' : Lies w w.heap.size A' (ints .i64 lv)) (hr : RunsR w Ar L) (he : cl.length = lv.length) (hW : Within L cl.length) (hi : i < L.length) (hL6 : L.length ≤ 1000000) (hl : cl.length ≤ 1000000) :
    Calls Try.prog 22 #[walkV A cl.length c A' lv.length c' base Ar L.length cr, .int .i64 (i : Int)] w fun ed w' => ed = .returned (.int .i64 (dirL (max (levW lv base L i) (behW lv base L i (cl.getD (lastI (L[i]'hi)).toNat 0))))) ∧ Below w.heap.size w w' := by
  obtain ⟨q, hq, hql⟩ := hW.last hi
  obtain ⟨p, b, off, rfl, hpb, hbb, hcell, _, hc1, _⟩ := hr.at' hi (hW _ (List.getElem_mem hi)).1
  obtain ⟨pc, rfl, hpcb, hcc⟩ := h.int hql
  obtain ⟨ky, hky⟩ : ∃ x, cl[q] = x := ⟨_, rfl⟩
  rw [hq, Int.toNat_natCast, show cl.getD q 0 = ky by simp [hql, hky]]
  obtain ⟨m, hm⟩ : ∃ m, L[i].length = m := ⟨_, rfl⟩
  have hm0 : 0 < m := by rw [← hm]; exact List.length_pos_iff.2 (hW _ (List.getElem_mem hi)).1
  have hm6 : m ≤ 1000000 := by rw [← hm]; exact Nat.le_trans (hW _ (List.getElem_mem hi)).2.1 hl
  obtain ⟨t, ht⟩ : ∃ t, m - 1 = t := ⟨_, rfl⟩
  have HMT : Hid (m = t + 1) := Lib.hid (by omega)
  rw [hm] at hcell
  rw [hm, ht, hq] at hc1
  rw [hky] at hcc
  obtain ⟨x, hx⟩ : ∃ x, levW lv base L i = x := ⟨_, rfl⟩
  obtain ⟨y, hy⟩ : ∃ x, levW lv base L ((i : Int) + 1) = x := ⟨_, rfl⟩
  obtain ⟨z, hz⟩ : ∃ x, behW lv base L i ky = x := ⟨_, rfl⟩
  have HZ : Hid (z = if (ky == 10 || isOpens ky) then base else y) := Lib.hid (by rw [← hz, behW, hy])
  rw [hx, hz]
  obtain ⟨v, hv⟩ : ∃ v, max x z = v := ⟨_, rfl⟩
  rw [hv]
  have HVV := Lib.hid hv
  clear hv
  have hwk : IntKind.i64.wrap ((i : Int) + 1) = (i : Int) + 1 := by rw [IntWalk.i64_in _ (by omega)]
  have b0 : (0 : Int) ≤ (i : Int) := by omega
  have b1 : (i : Int) < (L.length : Int) := by omega
  have b2 : (0 : Int) ≤ (q : Int) := by omega
  have b3 : (q : Int) < (cl.length : Int) := by omega
  have b4 : (0 : Int) < (m : Int) := by omega
  have H' := Lib.hid h'
  have HR := Lib.hid hr
  have HW := Lib.hid hW
  have lev1 : Hid (∀ u, Below w.heap.size w u → Calls Try.prog 20 #[walkV (some pc) cl.length c A' lv.length c' base (some p) L.length cr, .int .i64 (i : Int)] u fun ed w' => ed = .returned (.int .i64 x) ∧ Below u.heap.size u w') :=
    Lib.hid fun u hu => hx ▸ slevel_any (some pc) cl.length c A' lv c' base (some p) L cr i u (H'.out.up hu) (HR.out.up hu) (he ▸ HW.out)
  have lev2 : Hid (∀ u, Below w.heap.size w u → Calls Try.prog 20 #[walkV (some pc) cl.length c A' lv.length c' base (some p) L.length cr, .int .i64 ((i : Int) + 1)] u fun ed w' => ed = .returned (.int .i64 y) ∧ Below u.heap.size u w') :=
    Lib.hid fun u hu => hy ▸ slevel_any (some pc) cl.length c A' lv c' base (some p) L cr ((i : Int) + 1) u (H'.out.up hu) (HR.out.up hu) (he ▸ HW.out)
  have SC : Hid (∀ w', Below w.heap.size w w' → w'.cell? (p.add i) = some (.slice (some ⟨b, off, none⟩) m m) ∧ w'.cell? ⟨b, off + t, none⟩ = some (.int .i64 q) ∧ w'.cell? (pc.add q) = some (.int .i64 ky)) :=
    Lib.hid fun w' h => ⟨by rw [h.cell (by rw [add_block]; exact hpb)]; exact hcell, by rw [h.cell hbb]; exact hc1, by rw [h.cell (by rw [add_block]; exact hpcb)]; exact hcc⟩
  have SK : Hid (∀ w', Below (w.alloc (.cells #[.slice (some pc) cl.length c, .slice A' lv.length c', .int .i64 base, .slice (some p) L.length cr] 44)).heap.size (w.alloc (.cells #[.slice (some pc) cl.length c, .slice A' lv.length c', .int .i64 base, .slice (some p) L.length cr] 44)) w' →
      w'.cell? ⟨w.heap.size, 0, none⟩ = some (.slice (some pc) cl.length c) ∧ w'.cell? ⟨w.heap.size, 1, none⟩ = some (.slice A' lv.length c') ∧ w'.cell? ⟨w.heap.size, 2, none⟩ = some (.int .i64 base) ∧ w'.cell? ⟨w.heap.size, 3, none⟩ = some (.slice (some p) L.length cr)) :=
    Lib.hid fun w' h => ⟨boxed h rfl, boxed h rfl, boxed h rfl, boxed h rfl⟩
  obtain ⟨W, hW⟩ : ∃ W, w.alloc (.cells #[.slice (some pc) cl.length c, .slice A' lv.length c', .int .i64 base, .slice (some p) L.length cr] 44) = W := ⟨_, rfl⟩
  have BW : Hid (Below w.heap.size w W) := Lib.hid (hW ▸ below_alloc w _)
  rw [hW] at SK
  have HWE := Lib.hid hW
  have hk0 := SK.out W (Below.refl _ _)
  clear h h' hr hx hy hz hm ht hcell hc1 hcc hky hq hpb hbb hpcb he
  go_enter Try.func22, Try.ntmps22
  go_wp2_with fail
  clear hW hk0
  refine (lev2.out _ BW.out).mono ?_
  rintro e w2 ⟨rfl, b2'⟩
  have B2 := Lib.hid b2'
  clear b2'
  have SX : Hid (∀ w', Below W.heap.size W w' → w'.cell? ⟨w.heap.size, 0, none⟩ = some (.slice (some pc) cl.length c) ∧ w'.cell? ⟨w.heap.size, 3, none⟩ = some (.slice (some p) L.length cr) ∧ w'.cell? (p.add i) = some (.slice (some ⟨b, off, none⟩) m m) ∧ w'.cell? ⟨b, off + t, none⟩ = some (.int .i64 q) ∧ w'.cell? (pc.add q) = some (.int .i64 ky)) :=
    Lib.hid fun w' h => ⟨(SK.out w' h).1, (SK.out w' h).2.2.2, SC.out w' (BW.out.trans (h.mono BW.out.size))⟩
  go_wp2_with fail
  refine wp_region_E (S := fun w' => w'.cell? ⟨w.heap.size, 0, none⟩ = some (.slice (some pc) cl.length c) ∧ w'.cell? ⟨w.heap.size, 3, none⟩ = some (.slice (some p) L.length cr) ∧ w'.cell? (p.add i) = some (.slice (some ⟨b, off, none⟩) m m) ∧ w'.cell? ⟨b, off + t, none⟩ = some (.int .i64 q) ∧ w'.cell? (pc.add q) = some (.int .i64 ky)) [] (by kernel_rfl) (SX.out _ (by exact below_same B2.out rfl rfl rfl rfl)) (fun hHeld hClosed => ?_)
  refine' wpAnyE_take (i := 0) (v := _) rfl (by kernel_rfl) (by kernel_rfl) (by kernel_rfl) (by kernel_rfl) (fun _ _ _ h => h) (Or.inl ⟨by rfl, fun u hu => ?_⟩) hHeld hClosed (fun hNext => ?_)
  rotate_left
  · (try dsimp only at hu)
    go_simp
    try with_reducible rfl
  clear hClosed
  have hClosed := hNext
  clear hNext
  try simp only [Act.put, List.getElem_toArray, List.getElem_cons_zero, List.setIfInBounds_toArray, List.set_cons_zero, List.set_cons_succ]
  refine' wpAnyE_take (i := 1) (v := _) rfl (by kernel_rfl) (by kernel_rfl) (by kernel_rfl) (by kernel_rfl) (fun _ _ _ h => h) (Or.inl ⟨by rfl, fun u hu => ?_⟩) hHeld hClosed (fun hNext => ?_)
  rotate_left
  · (try dsimp only at hu)
    go_simp
    try with_reducible rfl
  clear hClosed
  have hClosed := hNext
  clear hNext
  try simp only [Act.put, List.getElem_toArray, List.getElem_cons_zero, List.getElem_cons_succ, List.setIfInBounds_toArray, List.set_cons_zero, List.set_cons_succ]
  refine' wpAnyE_take (i := 2) (v := _) rfl (by kernel_rfl) (by kernel_rfl) (by kernel_rfl) (by kernel_rfl) (fun _ _ _ h => h) (Or.inl ⟨by rfl, fun u hu => ?_⟩) hHeld hClosed (fun hNext => ?_)
  rotate_left
  · (try dsimp only at hu)
    go_simp
    try with_reducible rfl
  clear hClosed
  have hClosed := hNext
  clear hNext
  try simp only [Act.put, List.getElem_toArray, List.getElem_cons_zero, List.getElem_cons_succ, List.setIfInBounds_toArray, List.set_cons_zero, List.set_cons_succ]
  refine' wpAnyE_take (i := 3) (v := _) rfl (by kernel_rfl) (by kernel_rfl) (by kernel_rfl) (by kernel_rfl) (fun _ _ _ h => h) (Or.inl ⟨by rfl, fun u hu => ?_⟩) hHeld hClosed (fun hNext => ?_)
  rotate_left
  · (try dsimp only at hu)
    go_simp
    try with_reducible rfl
  clear hClosed
  have hClosed := hNext
  clear hNext
  try simp only [Act.put, List.getElem_toArray, List.getElem_cons_zero, List.getElem_cons_succ, List.setIfInBounds_toArray, List.set_cons_zero, List.set_cons_succ]
  refine' wpAnyE_take (i := 4) (v := _) rfl (by kernel_rfl) (by kernel_rfl) (by kernel_rfl) (by kernel_rfl) (fun _ _ _ h => h) (Or.inl ⟨by rfl, fun u hu => ?_⟩) hHeld hClosed (fun hNext => ?_)
  rotate_left
  · (try dsimp only at hu)
    go_simp
    try with_reducible rfl
  clear hClosed
  have hClosed := hNext
  clear hNext
  try simp only [Act.put, List.getElem_toArray, List.getElem_cons_zero, List.getElem_cons_succ, List.setIfInBounds_toArray, List.set_cons_zero, List.set_cons_succ]
  refine' wpAnyE_take (i := 5) (v := _) rfl (by kernel_rfl) (by kernel_rfl) (by kernel_rfl) (by kernel_rfl) (fun _ _ _ h => h) (Or.inl ⟨by rfl, fun u hu => ?_⟩) hHeld hClosed (fun hNext => ?_)
  rotate_left
  · (try dsimp only at hu)
    go_simp
    try with_reducible rfl
  clear hClosed
  have hClosed := hNext
  clear hNext
  try simp only [Act.put, List.getElem_toArray, List.getElem_cons_zero, List.getElem_cons_succ, List.setIfInBounds_toArray, List.set_cons_zero, List.set_cons_succ]
  refine' wpAnyE_take (i := 6) (v := _) rfl (by kernel_rfl) (by kernel_rfl) (by kernel_rfl) (by kernel_rfl) (fun _ _ _ h => h) (Or.inl ⟨by rfl, fun u hu => ?_⟩) hHeld hClosed (fun hNext => ?_)
  rotate_left
  · (try dsimp only at hu)
    go_simp
    try with_reducible rfl
  clear hClosed
  have hClosed := hNext
  clear hNext
  try simp only [Act.put, List.getElem_toArray, List.getElem_cons_zero, List.getElem_cons_succ, List.setIfInBounds_toArray, List.set_cons_zero, List.set_cons_succ]
  refine wpAnyE_ready (rs := [7]) (by kernel_rfl) (by simp) ?_
  refine AllReadyE.cons rfl (fun K hK => ?_) AllReadyE.nil
  all_goals simp only [List.getElem_toArray, List.getElem_cons_zero, List.getElem_cons_succ]
  all_goals go_simp
  refine (slast_any b off m t m q _ HMT.out hm6 hHeld.2.2.2.1).mono ?_
  rintro e wq ⟨rfl, rfl⟩
  refine hK.out _ _ (fun _ => hHeld) (fun hHeld => ?_) (fun hX => (by first | cases hX | simp at hX))
  replace hClosed := hClosed.step 7 (by kernel_rfl)
  clear hK K
  try simp only [Act.put, List.getElem_toArray, List.getElem_cons_zero, List.getElem_cons_succ, List.setIfInBounds_toArray, List.set_cons_zero, List.set_cons_succ]
  refine' wpAnyE_take (i := 8) (v := _) rfl (by kernel_rfl) (by kernel_rfl) (by kernel_rfl) (by kernel_rfl) (fun _ _ _ h => h) (Or.inl ⟨by rfl, fun u hu => ?_⟩) hHeld hClosed (fun hNext => ?_)
  rotate_left
  · (try dsimp only at hu)
    go_simp
    try with_reducible rfl
  clear hClosed
  have hClosed := hNext
  clear hNext
  try simp only [Act.put, List.getElem_toArray, List.getElem_cons_zero, List.getElem_cons_succ, List.setIfInBounds_toArray, List.set_cons_zero, List.set_cons_succ]
  refine' wpAnyE_take (i := 9) (v := _) rfl (by kernel_rfl) (by kernel_rfl) (by kernel_rfl) (by kernel_rfl) (fun _ _ _ h => h) (Or.inl ⟨by rfl, fun u hu => ?_⟩) hHeld hClosed (fun hNext => ?_)
  rotate_left
  · (try dsimp only at hu)
    go_simp
    try with_reducible rfl
  clear hClosed
  have hClosed := hNext
  clear hNext
  try simp only [Act.put, List.getElem_toArray, List.getElem_cons_zero, List.getElem_cons_succ, List.setIfInBounds_toArray, List.set_cons_zero, List.set_cons_succ]
  refine' wpAnyE_take (i := 10) (v := _) rfl (by kernel_rfl) (by kernel_rfl) (by kernel_rfl) (by kernel_rfl) (fun _ _ _ h => h) (Or.inl ⟨by rfl, fun u hu => ?_⟩) hHeld hClosed (fun hNext => ?_)
  rotate_left
  · (try dsimp only at hu)
    go_simp
    try with_reducible rfl
  clear hClosed
  have hClosed := hNext
  clear hNext
  try simp only [Act.put, List.getElem_toArray, List.getElem_cons_zero, List.getElem_cons_succ, List.setIfInBounds_toArray, List.set_cons_zero, List.set_cons_succ]
  refine wpAnyE_done (by kernel_rfl) ?_ _
  clear hClosed
  have SW3 := SK.out w2.drew (by exact below_same B2.out rfl rfl rfl rfl)
  have B3 : Hid (Below W.heap.size W w2.drew) := Lib.hid (by exact below_same B2.out rfl rfl rfl rfl)
  clear hHeld
  generalize w2.drew = w3 at *
  rcases h10 : (ky == 10) with _ | _
  · rcases hop : isOpens ky with _ | _
    · have zz : Hid (z = y) := Lib.hid (by rw [HZ.out, h10, hop]; rfl)
      clear HZ
      go_wp2_with fail
      refine (opens_any ky _).mono ?_
      rintro e w4 ⟨rfl, b4'⟩
      rw [hop]
      have B4 := Lib.hid (below_then B3.out b4')
      clear hop b4'
      clear SW3
      have SW4 := SK.out _ B4.out
      go_wp2_with fail
      clear SW4
      refine (lev1.out _ (BW.out.trans (B4.out.mono BW.out.size))).mono ?_
      rintro e w5 ⟨rfl, b5'⟩
      have B5 := Lib.hid (below_then B4.out b5')
      clear b5'
      rcases Decidable.em (x < y) with hxy | hxy
      · have HV : Hid (y = v) := Lib.hid (by rw [← HVV.out, zz.out]; omega)
        go_wp2_with fail
        refine (sdir_any _ _).mono ?_
        rintro e w6 ⟨rfl, b6'⟩
        have B6 := Lib.hid (below_then B5.out b6')
        clear b6'
        go_wp2_with fail
        go_ret
        exact ⟨by rw [HV.out]; rfl, BW.out.trans (B6.out.mono BW.out.size)⟩
      · have HV : Hid (x = v) := Lib.hid (by rw [← HVV.out, zz.out]; omega)
        go_wp2_with fail
        refine (sdir_any _ _).mono ?_
        rintro e w6 ⟨rfl, b6'⟩
        have B6 := Lib.hid (below_then B5.out b6')
        clear b6'
        go_wp2_with fail
        go_ret
        exact ⟨by rw [HV.out]; rfl, BW.out.trans (B6.out.mono BW.out.size)⟩
    · have zz : Hid (z = base) := Lib.hid (by rw [HZ.out, h10, hop]; rfl)
      clear HZ
      go_wp2_with fail
      refine (opens_any ky _).mono ?_
      rintro e w4 ⟨rfl, b4'⟩
      rw [hop]
      have B4 := Lib.hid (below_then B3.out b4')
      clear hop b4'
      clear SW3
      have SW4 := SK.out _ B4.out
      go_wp2_with fail
      clear SW4
      refine (lev1.out _ (BW.out.trans (B4.out.mono BW.out.size))).mono ?_
      rintro e w5 ⟨rfl, b5'⟩
      have B5 := Lib.hid (below_then B4.out b5')
      clear b5'
      rcases Decidable.em (x < base) with hxy | hxy
      · have HV : Hid (base = v) := Lib.hid (by rw [← HVV.out, zz.out]; omega)
        go_wp2_with fail
        refine (sdir_any _ _).mono ?_
        rintro e w6 ⟨rfl, b6'⟩
        have B6 := Lib.hid (below_then B5.out b6')
        clear b6'
        go_wp2_with fail
        go_ret
        exact ⟨by rw [HV.out]; rfl, BW.out.trans (B6.out.mono BW.out.size)⟩
      · have HV : Hid (x = v) := Lib.hid (by rw [← HVV.out, zz.out]; omega)
        go_wp2_with fail
        refine (sdir_any _ _).mono ?_
        rintro e w6 ⟨rfl, b6'⟩
        have B6 := Lib.hid (below_then B5.out b6')
        clear b6'
        go_wp2_with fail
        go_ret
        exact ⟨by rw [HV.out]; rfl, BW.out.trans (B6.out.mono BW.out.size)⟩
  · have zz : Hid (z = base) := Lib.hid (by rw [HZ.out, h10]; rfl)
    clear HZ
    clear SW3
    have SW4 := SK.out _ B3.out
    go_wp2_with fail
    clear SW4
    refine (lev1.out _ (BW.out.trans (B3.out.mono BW.out.size))).mono ?_
    rintro e w5 ⟨rfl, b5'⟩
    have B5 := Lib.hid (below_then B3.out b5')
    clear b5'
    rcases Decidable.em (x < base) with hxy | hxy
    · have HV : Hid (base = v) := Lib.hid (by rw [← HVV.out, zz.out]; omega)
      go_wp2_with fail
      refine (sdir_any _ _).mono ?_
      rintro e w6 ⟨rfl, b6'⟩
      have B6 := Lib.hid (below_then B5.out b6')
      clear b6'
      go_wp2_with fail
      go_ret
      exact ⟨by rw [HV.out]; rfl, BW.out.trans (B6.out.mono BW.out.size)⟩
    · have HV : Hid (x = v) := Lib.hid (by rw [← HVV.out, zz.out]; omega)
      go_wp2_with fail
      refine (sdir_any _ _).mono ?_
      rintro e w6 ⟨rfl, b6'⟩
      have B6 := Lib.hid (below_then B5.out b6')
      clear b6'
      go_wp2_with fail
      go_ret
      exact ⟨by rw [HV.out]; rfl, BW.out.trans (B6.out.mono BW.out.size)⟩
end Go.Proofs.Ytajgjloailliiaa
