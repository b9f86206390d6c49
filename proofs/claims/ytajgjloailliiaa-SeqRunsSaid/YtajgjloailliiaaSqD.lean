/- Layer 8: the document's Lists at any two, Runs, next. -/
import Derived.Test.YtajgjloailliiaaSqC
namespace Go.Proofs.Ytajgjloailliiaa
open Go.RowKit

theorem pairsT : SliceOfN Try.prog 28 39 (.agg #[.int .i64 0, .int .i64 0]) 2 16 := ⟨by kernel_rfl, by kernel_rfl, rfl, by decide⟩

theorem rlists_all (A : Option Addr) (cl : List Int) (c : Nat) (A' : Option Addr) (lv : List Int) (c' : Nat) (w : World) (h : Lies w w.heap.size A (ints .i64 cl)) (h' : Lies w w.heap.size A' (ints .i64 lv)) (hl : cl.length ≤ 1000000) :
    Calls Try.prog 24 #[.slice A cl.length c, .slice A' lv.length c'] w fun ed w' => ∃ v es, ed = .returned v ∧ Nest w' w.heap.size 22 3 v es ((listsI cl lv).map (ints .i64)) ∧ Below w.heap.size w w' := by
  by_cases he : cl.length = lv.length
  · have hL : listsI cl lv = listsN cl lv (seenI cl) (seenI cl).length := by rw [listsI, if_pos he]
    rw [hL]
    exact rlists_any A cl c A' lv c' w h h' hl he
  · have hL : listsI cl lv = [] := by rw [listsI, if_neg he]
    rw [hL]
    have hne : ((cl.length : Int) != (lv.length : Int)) = true := by simp; omega
    go_enter Try.func24, Try.ntmps24
    go_wp2_with fail
    go_ret
    exact ⟨_, [], rfl, Nest.empty _ _ _ _, Below.refl _ _⟩

/-- no list is empty -/
theorem addLast_ne {L : List (List Int)} {p : Int} (h : ∀ j (hj : j < L.length), j + 1 < L.length → L[j] ≠ []) : ∀ l ∈ addLast L p, l ≠ [] := by
  intro l hl
  unfold addLast at hl
  obtain ⟨i, hi, rfl⟩ := List.mem_iff_getElem.1 hl
  rw [List.length_set] at hi
  by_cases he : L.length - 1 = i
  · subst he
    rw [List.getElem_set_self]; simp
  · rw [List.getElem_set_ne he]
    exact h i hi (by omega)
theorem listsN_ne (cl lv s : List Int) : ∀ k, ∀ l ∈ listsN cl lv s k, l ≠ [] := by
  intro k
  induction k with
  | zero => intro l hl; simp [listsN] at hl
  | succ k ih =>
    rw [listsN]
    refine addLast_ne ?_
    split
    · intro j hj hj2
      rw [List.length_append, List.length_singleton] at hj2
      rw [List.getElem_append_left (by omega)]
      exact ih _ (List.getElem_mem _)
    · intro j hj _
      exact ih _ (List.getElem_mem _)
theorem listsI_ne (cl lv : List Int) : ∀ l ∈ listsI cl lv, l ≠ [] := by
  unfold listsI
  split
  · exact listsN_ne _ _ _ _
  · intro l hl; simp at hl
theorem listsI_le (cl lv : List Int) : (listsI cl lv).length ≤ cl.length ∧ ∀ l ∈ listsI cl lv, l.length ≤ cl.length := by
  have h1 := seenN_le cl cl.length
  unfold listsI
  split
  · have h2 := (listsN_le cl lv (seenI cl) (seenI cl).length).1
    have h3 := listsN_mem cl lv (seenI cl) (seenI cl).length
    unfold seenI at *
    exact ⟨by omega, fun l hl => Nat.le_trans (h3 l hl) h1⟩
  · simp

/-- the first and the last of a list -/
def headI (r : List Int) : Int := r.getD 0 0
def lastI (r : List Int) : Int := r.getD (r.length - 1) 0
def pairsOf (L : List (List Int)) : List Value := L.flatMap fun r => [.int .i64 (headI r), .int .i64 (lastI r)]
theorem pairsOf_append (a b : List (List Int)) : pairsOf (a ++ b) = pairsOf a ++ pairsOf b := by simp [pairsOf]
theorem pairsOf_one (L : List (List Int)) : ∀ u ∈ pairsOf L, u.oneCell' = true := by
  intro u hu
  unfold pairsOf at hu
  obtain ⟨r, _, hu⟩ := List.mem_flatMap.1 hu
  simp at hu
  rcases hu with rfl | rfl <;> rfl

/-- what a list of lists that is read shows at a place: the slice, its first and its last -/
structure Shown (w : World) (B : Nat) (p : Addr) (k : Nat) (r : List Int) where
  b : Nat
  off : Nat
  c : Nat
  lt : b < B
  outer : p.block < B
  cell : w.cell? (p.add k) = some (.slice (some ⟨b, off, none⟩) r.length c)
  cells : ∀ i (hi : i < r.length), w.cell? ⟨b, off + i, none⟩ = some (.int .i64 r[i])
theorem Nest.shown {w w1 : World} {B : Nat} {eo ei : TypeId} {A : Option Addr} {n c : Nat} {es : List Value} {L : List (List Int)} (h : Nest w B eo ei (.slice A n c) es (L.map (ints .i64))) (hb : Below w.heap.size w w1) {k : Nat} (hk : k < L.length) (hne : L[k] ≠ []) :
    ∃ p, A = some p ∧ Nonempty (Shown w1 w.heap.size p k L[k]) := by
  obtain ⟨A1, c1, hv, hl, _, _⟩ := h.outer.form
  injection hv with hA _ _
  subst hA
  have hlen := h.len
  rw [List.length_map] at hlen
  obtain ⟨p, rfl, hpb, hcell⟩ := (hl.below hb).cellAt (i := k) (by omega)
  have hin := h.inner k (by omega) (by rw [List.length_map]; exact hk)
  rw [List.getElem_map] at hin
  obtain ⟨Ai, ci, hev, hli, _, _⟩ := hin.form
  obtain ⟨b, off, rfl, hbb, hcs⟩ := (hli.below hb).plainInts (List.length_pos_iff.2 hne)
  rw [hev, List.length_map] at hcell
  exact ⟨p, rfl, ⟨⟨b, off, ci, hbb, hpb, hcell, hcs⟩⟩⟩

set_option maxHeartbeats 4000000 in
theorem rruns_any (A : Option Addr) (cl : List Int) (c : Nat) (A' : Option Addr) (lv : List Int) (c' : Nat) (w : World) (h : Lies w w.heap.size A (ints .i64 cl)) (h' : Lies w w.heap.size A' (ints .i64 lv)) (hl : cl.length ≤ 1000000) :
    Calls Try.prog 12 #[.slice A cl.length c, .slice A' lv.length c'] w fun ed w' => ∃ v, ed = .returned v ∧ OwnN w' w.heap.size 39 2 v (listsI cl lv).length (pairsOf (listsI cl lv)) ∧ Below w.heap.size w w' := by
  have H := Lib.hid h
  have H' := Lib.hid h'
  obtain ⟨L, hL⟩ : ∃ L, listsI cl lv = L := ⟨_, rfl⟩
  have HL := Lib.hid hL
  have HNE : Hid (∀ j (hj : j < L.length), L[j] ≠ []) := Lib.hid (fun j hj => listsI_ne cl lv _ (by rw [hL]; exact List.getElem_mem hj))
  have HLE : Hid (∀ j (hj : j < L.length), L[j].length ≤ 1000000) := Lib.hid (fun j hj => Nat.le_trans ((listsI_le cl lv).2 _ (by rw [hL]; exact List.getElem_mem hj)) hl)
  have hL6 : L.length ≤ 1000000 := by have := (listsI_le cl lv).1; rw [hL] at this; omega
  rw [hL]
  clear h h' hL
  go_enter Try.func12, Try.ntmps12
  go_wp2_with fail
  refine (rlists_all A cl c A' lv c' w H.out H'.out hl).mono ?_
  rintro e w1 ⟨v1, es, rfl, n1, b1⟩
  rw [HL.out] at n1
  have hlen := n1.len
  rw [List.length_map] at hlen
  obtain ⟨A1, c1, rfl, _, _, _⟩ := n1.outer.form
  rw [hlen] at n1 ⊢
  have N1 := Lib.hid n1
  have B1 := Lib.hid b1
  clear n1 b1 hlen
  go_wp2_with fail
  go_loopw [7, 6] (fun iv ov wr => ∃ (k : Nat), k ≤ L.length ∧ iv = .int .i64 k ∧ OwnN wr w1.heap.size 39 2 ov k (pairsOf (L.take k)) ∧ Below w1.heap.size w1 wr) (fun iv _ _ => L.length - (intOf iv).toNat)
  case atStart => exact ⟨0, by omega, rfl, OwnN.empty _ _ _ _, Below.refl _ _⟩
  case round =>
    obtain ⟨k, hk, rfl, ho, hb⟩ := hrel
    have HO := Lib.hid ho
    have HB := Lib.hid hb
    clear ho hb
    by_cases hlt : k < L.length
    · obtain ⟨p, rfl, ⟨S⟩⟩ := N1.out.shown HB.out hlt (HNE.out k hlt)
      obtain ⟨b, off, ci, hbb, hpb, hcell, hcs⟩ := S
      obtain ⟨r, hr⟩ : ∃ r, L[k] = r := ⟨_, rfl⟩
      rw [hr] at hcell
      obtain ⟨m, hm⟩ : ∃ m, r.length = m := ⟨_, rfl⟩
      have hm0 : 0 < m := by rw [← hm, ← hr]; exact List.length_pos_iff.2 (HNE.out k hlt)
      have hm6 : m ≤ 1000000 := by rw [← hm, ← hr]; exact HLE.out k hlt
      have hc0 := hcs 0 (by rw [hr]; omega)
      have hc1 := hcs (m - 1) (by rw [hr]; omega)
      rw [hm] at hcell
      obtain ⟨t, ht⟩ : ∃ t, m - 1 = t := ⟨_, rfl⟩
      obtain ⟨x, hx⟩ : ∃ x, L[k][0]'(by rw [hr]; omega) = x := ⟨_, rfl⟩
      obtain ⟨y, hy⟩ : ∃ y, L[k][m - 1]'(by rw [hr]; omega) = y := ⟨_, rfl⟩
      have HX : Hid (headI L[k] = x ∧ lastI L[k] = y) := Lib.hid ⟨by rw [← hx]; simp [headI, hr, show 0 < r.length by omega], by rw [← hy]; simp [lastI, hr, hm, List.getElem?_eq_getElem (show m - 1 < r.length by omega)]⟩
      rw [hx] at hc0
      rw [hy, ht] at hc1
      simp only [Nat.add_zero] at hc0
      have b0 : (0 : Int) ≤ (k : Int) := by omega
      have b1 : (k : Int) < (L.length : Int) := by omega
      have b2 : (0 : Int) ≤ (t : Int) := by omega
      have b3 : (t : Int) < (m : Int) := by omega
      have b4 : (0 : Int) < (m : Int) := by omega
      have hw1 : IntKind.i64.wrap ((m : Int) - 1) = (t : Int) := by rw [IntWalk.i64_in _ (by omega)]; omega
      have SK : Hid (∀ w', Below w1.heap.size wr w' → w'.cell? (p.add k) = some (.slice (some ⟨b, off, none⟩) m ci) ∧ w'.cell? ⟨b, off, none⟩ = some (.int .i64 x) ∧ w'.cell? ⟨b, off + t, none⟩ = some (.int .i64 y)) :=
        Lib.hid fun w' h => ⟨by rw [h.cell (by rw [add_block]; exact hpb)]; exact hcell, by rw [h.cell hbb]; exact hc0, by rw [h.cell hbb]; exact hc1⟩
      have hk0 := SK.out wr.drew (by exact below_same (Below.refl _ _) rfl rfl rfl rfl)
      have HM := Lib.hid hm0
      clear hr hm hcs hx hy ht hc0 hc1 hcell
      go_wp2_with fail
      refine wp_region_E (S := fun w' => w'.cell? (p.add k) = some (.slice (some ⟨b, off, none⟩) m ci) ∧ w'.cell? ⟨b, off, none⟩ = some (.int .i64 x) ∧ w'.cell? ⟨b, off + t, none⟩ = some (.int .i64 y)) [] (by kernel_rfl) (hk0) (fun hHeld hClosed => ?_)
      refine' wpAnyE_take (i := 0) (v := _) rfl (by kernel_rfl) (by kernel_rfl) (by kernel_rfl) (by kernel_rfl) (fun _ _ _ h => h) (Or.inl ⟨by rfl, fun u hu => ?_⟩) hHeld hClosed (fun hNext => ?_)
      rotate_left
      · (try dsimp only at hu)
        go_simp
        try with_reducible rfl
      clear hClosed
      have hClosed := hNext
      clear hNext
      try simp only [Act.put, List.getElem_toArray, List.getElem_cons_zero, List.setIfInBounds_toArray, List.set_cons_zero, List.set_cons_succ]
      refine' wpAnyE_take (i := 1) (v := _) rfl (by kernel_rfl) (by kernel_rfl) (by kernel_rfl) (by kernel_rfl) (fun _ _ _ h => h) (Or.inl ⟨by rfl, fun u hu => ?_⟩) hHeld hClosed (fun hNext => ?_)
      rotate_left
      · (try dsimp only at hu)
        go_simp
        try with_reducible rfl
      clear hClosed
      have hClosed := hNext
      clear hNext
      try simp only [Act.put, List.getElem_toArray, List.getElem_cons_zero, List.getElem_cons_succ, List.setIfInBounds_toArray, List.set_cons_zero, List.set_cons_succ]
      refine' wpAnyE_take (i := 2) (v := _) rfl (by kernel_rfl) (by kernel_rfl) (by kernel_rfl) (by kernel_rfl) (fun _ _ _ h => h) (Or.inl ⟨by rfl, fun u hu => ?_⟩) hHeld hClosed (fun hNext => ?_)
      rotate_left
      · (try dsimp only at hu)
        go_simp
        try with_reducible rfl
      clear hClosed
      have hClosed := hNext
      clear hNext
      try simp only [Act.put, List.getElem_toArray, List.getElem_cons_zero, List.getElem_cons_succ, List.setIfInBounds_toArray, List.set_cons_zero, List.set_cons_succ]
      refine' wpAnyE_take (i := 3) (v := _) rfl (by kernel_rfl) (by kernel_rfl) (by kernel_rfl) (by kernel_rfl) (fun _ _ _ h => h) (Or.inl ⟨by rfl, fun u hu => ?_⟩) hHeld hClosed (fun hNext => ?_)
      rotate_left
      · (try dsimp only at hu)
        go_simp
        try with_reducible rfl
      clear hClosed
      have hClosed := hNext
      clear hNext
      try simp only [Act.put, List.getElem_toArray, List.getElem_cons_zero, List.getElem_cons_succ, List.setIfInBounds_toArray, List.set_cons_zero, List.set_cons_succ]
      refine' wpAnyE_take (i := 4) (v := _) rfl (by kernel_rfl) (by kernel_rfl) (by kernel_rfl) (by kernel_rfl) (fun _ _ _ h => h) (Or.inl ⟨by rfl, fun u hu => ?_⟩) hHeld hClosed (fun hNext => ?_)
      rotate_left
      · (try dsimp only at hu)
        go_simp
        try with_reducible rfl
      clear hClosed
      have hClosed := hNext
      clear hNext
      try simp only [Act.put, List.getElem_toArray, List.getElem_cons_zero, List.getElem_cons_succ, List.setIfInBounds_toArray, List.set_cons_zero, List.set_cons_succ]
      refine' wpAnyE_take (i := 5) (v := _) rfl (by kernel_rfl) (by kernel_rfl) (by kernel_rfl) (by kernel_rfl) (fun _ _ _ h => h) (Or.inl ⟨by rfl, fun u hu => ?_⟩) hHeld hClosed (fun hNext => ?_)
      rotate_left
      · (try dsimp only at hu)
        go_simp
        try with_reducible rfl
      clear hClosed
      have hClosed := hNext
      clear hNext
      try simp only [Act.put, List.getElem_toArray, List.getElem_cons_zero, List.getElem_cons_succ, List.setIfInBounds_toArray, List.set_cons_zero, List.set_cons_succ]
      refine' wpAnyE_take (i := 6) (v := _) rfl (by kernel_rfl) (by kernel_rfl) (by kernel_rfl) (by kernel_rfl) (fun _ _ _ h => h) (Or.inl ⟨by rfl, fun u hu => ?_⟩) hHeld hClosed (fun hNext => ?_)
      rotate_left
      · (try dsimp only at hu)
        go_simp
        try with_reducible rfl
      clear hClosed
      have hClosed := hNext
      clear hNext
      try simp only [Act.put, List.getElem_toArray, List.getElem_cons_zero, List.getElem_cons_succ, List.setIfInBounds_toArray, List.set_cons_zero, List.set_cons_succ]
      refine' wpAnyE_take (i := 7) (v := _) rfl (by kernel_rfl) (by kernel_rfl) (by kernel_rfl) (by kernel_rfl) (fun _ _ _ h => h) (Or.inl ⟨by rfl, fun u hu => ?_⟩) hHeld hClosed (fun hNext => ?_)
      rotate_left
      · (try dsimp only at hu)
        go_simp
        try with_reducible rfl
      clear hClosed
      have hClosed := hNext
      clear hNext
      try simp only [Act.put, List.getElem_toArray, List.getElem_cons_zero, List.getElem_cons_succ, List.setIfInBounds_toArray, List.set_cons_zero, List.set_cons_succ]
      refine' wpAnyE_take (i := 8) (v := _) rfl (by kernel_rfl) (by kernel_rfl) (by kernel_rfl) (by kernel_rfl) (fun _ _ _ h => h) (Or.inl ⟨by rfl, fun u hu => ?_⟩) hHeld hClosed (fun hNext => ?_)
      rotate_left
      · (try dsimp only at hu)
        go_simp
        try with_reducible rfl
      clear hClosed
      have hClosed := hNext
      clear hNext
      try simp only [Act.put, List.getElem_toArray, List.getElem_cons_zero, List.getElem_cons_succ, List.setIfInBounds_toArray, List.set_cons_zero, List.set_cons_succ]
      refine' wpAnyE_take (i := 9) (v := _) rfl (by kernel_rfl) (by kernel_rfl) (by kernel_rfl) (by kernel_rfl) (fun _ _ _ h => h) (Or.inl ⟨by rfl, fun u hu => ?_⟩) hHeld hClosed (fun hNext => ?_)
      rotate_left
      · (try dsimp only at hu)
        go_simp
        try with_reducible rfl
      clear hClosed
      have hClosed := hNext
      clear hNext
      try simp only [Act.put, List.getElem_toArray, List.getElem_cons_zero, List.getElem_cons_succ, List.setIfInBounds_toArray, List.set_cons_zero, List.set_cons_succ]
      refine' wpAnyE_take (i := 10) (v := _) rfl (by kernel_rfl) (by kernel_rfl) (by kernel_rfl) (by kernel_rfl) (fun _ _ _ h => h) (Or.inl ⟨by rfl, fun u hu => ?_⟩) hHeld hClosed (fun hNext => ?_)
      rotate_left
      · (try dsimp only at hu)
        go_simp
        try with_reducible rfl
      clear hClosed
      have hClosed := hNext
      clear hNext
      try simp only [Act.put, List.getElem_toArray, List.getElem_cons_zero, List.getElem_cons_succ, List.setIfInBounds_toArray, List.set_cons_zero, List.set_cons_succ]
      refine' wpAnyE_take (i := 11) (v := _) rfl (by kernel_rfl) (by kernel_rfl) (by kernel_rfl) (by kernel_rfl) (fun _ _ _ h => h) (Or.inl ⟨by rfl, fun u hu => ?_⟩) hHeld hClosed (fun hNext => ?_)
      rotate_left
      · (try dsimp only at hu)
        go_simp
        try with_reducible rfl
      clear hClosed
      have hClosed := hNext
      clear hNext
      try simp only [Act.put, List.getElem_toArray, List.getElem_cons_zero, List.getElem_cons_succ, List.setIfInBounds_toArray, List.set_cons_zero, List.set_cons_succ]
      refine' wpAnyE_take (i := 12) (v := _) rfl (by kernel_rfl) (by kernel_rfl) (by kernel_rfl) (by kernel_rfl) (fun _ _ _ h => h) (Or.inl ⟨by rfl, fun u hu => ?_⟩) hHeld hClosed (fun hNext => ?_)
      rotate_left
      · (try dsimp only at hu)
        go_simp
        try with_reducible rfl
      clear hClosed
      have hClosed := hNext
      clear hNext
      try simp only [Act.put, List.getElem_toArray, List.getElem_cons_zero, List.getElem_cons_succ, List.setIfInBounds_toArray, List.set_cons_zero, List.set_cons_succ]
      refine' wpAnyE_take (i := 13) (v := _) rfl (by kernel_rfl) (by kernel_rfl) (by kernel_rfl) (by kernel_rfl) (fun _ _ _ h => h) (Or.inl ⟨by rfl, fun u hu => ?_⟩) hHeld hClosed (fun hNext => ?_)
      rotate_left
      · (try dsimp only at hu)
        go_simp
        try with_reducible rfl
      clear hClosed
      have hClosed := hNext
      clear hNext
      try simp only [Act.put, List.getElem_toArray, List.getElem_cons_zero, List.getElem_cons_succ, List.setIfInBounds_toArray, List.set_cons_zero, List.set_cons_succ]
      refine' wpAnyE_take (i := 14) (v := _) rfl (by kernel_rfl) (by kernel_rfl) (by kernel_rfl) (by kernel_rfl) (fun _ _ _ h => h) (Or.inl ⟨by rfl, fun u hu => ?_⟩) hHeld hClosed (fun hNext => ?_)
      rotate_left
      · (try dsimp only at hu)
        go_simp
        try with_reducible rfl
      clear hClosed
      have hClosed := hNext
      clear hNext
      try simp only [Act.put, List.getElem_toArray, List.getElem_cons_zero, List.getElem_cons_succ, List.setIfInBounds_toArray, List.set_cons_zero, List.set_cons_succ]
      refine' wpAnyE_take (i := 15) (v := _) rfl (by kernel_rfl) (by kernel_rfl) (by kernel_rfl) (by kernel_rfl) (fun _ _ _ h => h) (Or.inl ⟨by rfl, fun u hu => ?_⟩) hHeld hClosed (fun hNext => ?_)
      rotate_left
      · (try dsimp only at hu)
        go_simp
        try with_reducible rfl
      clear hClosed
      have hClosed := hNext
      clear hNext
      try simp only [Act.put, List.getElem_toArray, List.getElem_cons_zero, List.getElem_cons_succ, List.setIfInBounds_toArray, List.set_cons_zero, List.set_cons_succ]
      refine' wpAnyE_take (i := 16) (v := _) rfl (by kernel_rfl) (by kernel_rfl) (by kernel_rfl) (by kernel_rfl) (fun _ _ _ h => h) (Or.inl ⟨by rfl, fun u hu => ?_⟩) hHeld hClosed (fun hNext => ?_)
      rotate_left
      · (try dsimp only at hu)
        go_simp
        try with_reducible rfl
      clear hClosed
      have hClosed := hNext
      clear hNext
      try simp only [Act.put, List.getElem_toArray, List.getElem_cons_zero, List.getElem_cons_succ, List.setIfInBounds_toArray, List.set_cons_zero, List.set_cons_succ]
      refine' wpAnyE_take (i := 17) (v := _) rfl (by kernel_rfl) (by kernel_rfl) (by kernel_rfl) (by kernel_rfl) (fun _ _ _ h => h) (Or.inl ⟨by rfl, fun u hu => ?_⟩) hHeld hClosed (fun hNext => ?_)
      rotate_left
      · (try dsimp only at hu)
        go_simp
        try with_reducible rfl
      clear hClosed
      have hClosed := hNext
      clear hNext
      try simp only [Act.put, List.getElem_toArray, List.getElem_cons_zero, List.getElem_cons_succ, List.setIfInBounds_toArray, List.set_cons_zero, List.set_cons_succ]
      refine' wpAnyE_take (i := 18) (v := _) rfl (by kernel_rfl) (by kernel_rfl) (by kernel_rfl) (by kernel_rfl) (fun _ _ _ h => h) (Or.inl ⟨by rfl, fun u hu => ?_⟩) hHeld hClosed (fun hNext => ?_)
      rotate_left
      · (try dsimp only at hu)
        go_simp
        try with_reducible rfl
      clear hClosed
      have hClosed := hNext
      clear hNext
      try simp only [Act.put, List.getElem_toArray, List.getElem_cons_zero, List.getElem_cons_succ, List.setIfInBounds_toArray, List.set_cons_zero, List.set_cons_succ]
      refine' wpAnyE_take (i := 19) (v := _) rfl (by kernel_rfl) (by kernel_rfl) (by kernel_rfl) (by kernel_rfl) (fun _ _ _ h => h) (Or.inl ⟨by rfl, fun u hu => ?_⟩) hHeld hClosed (fun hNext => ?_)
      rotate_left
      · (try dsimp only at hu)
        go_simp
        try with_reducible rfl
      clear hClosed
      have hClosed := hNext
      clear hNext
      try simp only [Act.put, List.getElem_toArray, List.getElem_cons_zero, List.getElem_cons_succ, List.setIfInBounds_toArray, List.set_cons_zero, List.set_cons_succ]
      refine wpAnyE_ready (rs := [20]) (by kernel_rfl) (by simp) ?_
      refine AllReadyE.cons rfl (fun K hK => ?_) AllReadyE.nil
      all_goals simp only [List.getElem_toArray, List.getElem_cons_zero, List.getElem_cons_succ]
      all_goals go_simp
      refine hK.out _ _ (fun _ => SK.out _ (by exact below_same ((below_alloc wr _).mono HB.out.size) rfl rfl rfl rfl)) (fun hHeld => ?_) (fun hX => (by first | cases hX | simp at hX))
      replace hClosed := hClosed.step 20 (by kernel_rfl)
      clear hK K
      try simp only [Act.put, List.getElem_toArray, List.getElem_cons_zero, List.getElem_cons_succ, List.setIfInBounds_toArray, List.set_cons_zero, List.set_cons_succ]
      refine wpAnyE_ready (rs := [21]) (by kernel_rfl) (by simp) ?_
      refine AllReadyE.cons rfl (fun K hK => ?_) AllReadyE.nil
      refine step_appN pairsT wr _ w1.heap.size _ (.tmp 17) (.tmp 37) _ k 1 (pairsOf (L.take k)) [.int .i64 x, .int .i64 y] _ _ rfl rfl rfl rfl (OwnN.same (OwnN.alloc HO.out (.cells #[.int .i64 x, .int .i64 y] 39)) rfl) (Lies.sameHeap (Lies.lit (w := wr.drew) (e := 39) #[.int .i64 x, .int .i64 y]) rfl) rfl (by simp [Value.oneCell']) (by exact below_same ((below_alloc wr _).mono HB.out.size) rfl rfl rfl rfl) (by have := HB.out.size; simp; omega) (by unfold maxLen; omega) (by omega) ?_
      intro v2 w2 o2 b2 g2 e2
      have O2 := Lib.hid o2
      have B2 := Lib.hid b2
      clear o2 b2 g2 e2
      refine hK.out _ _ (fun _ => SK.out _ B2.out) (fun hHeld => ?_) (fun hX => (by first | cases hX | simp at hX))
      replace hClosed := hClosed.step 21 (by kernel_rfl)
      clear hK K
      try simp only [Act.put, List.getElem_toArray, List.getElem_cons_zero, List.getElem_cons_succ, List.setIfInBounds_toArray, List.set_cons_zero, List.set_cons_succ]
      refine' wpAnyE_take (i := 22) (v := _) rfl (by kernel_rfl) (by kernel_rfl) (by kernel_rfl) (by kernel_rfl) (fun _ _ _ h => h) (Or.inl ⟨by rfl, fun u hu => ?_⟩) hHeld hClosed (fun hNext => ?_)
      rotate_left
      · (try dsimp only at hu)
        go_simp
        try with_reducible rfl
      clear hClosed
      have hClosed := hNext
      clear hNext
      try simp only [Act.put, List.getElem_toArray, List.getElem_cons_zero, List.getElem_cons_succ, List.setIfInBounds_toArray, List.set_cons_zero, List.set_cons_succ]
      refine wpAnyE_done (by kernel_rfl) ?_ _
      clear hClosed
      go_wp2_with fail
      go_roundw
      case rel =>
        refine ⟨k + 1, by omega, by go_num, ?_, HB.out.trans B2.out⟩
        rw [List.take_succ_eq_append_getElem hlt, pairsOf_append, show pairsOf [L[k]] = [.int .i64 x, .int .i64 y] by rw [pairsOf, List.flatMap_cons, List.flatMap_nil, HX.out.1, HX.out.2]; rfl]
        exact O2.out
      case measure => simp [intOf]; omega
    · obtain rfl : k = L.length := by omega
      go_wp2
      go_ret
      exact ⟨_, rfl, by have := HO.out; rw [List.take_length] at this; exact this.weaken B1.out.size, B1.out.trans (HB.out.mono B1.out.size)⟩
end Go.Proofs.Ytajgjloailliiaa
