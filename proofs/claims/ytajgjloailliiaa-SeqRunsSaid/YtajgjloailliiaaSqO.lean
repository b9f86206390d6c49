/- Layer 8: the program's kept, last, ends, split: each run's places, cut out of one row. -/
import Derived.Test.YtajgjloailliiaaSqI
namespace Go.Proofs.Ytajgjloailliiaa
open Go.RowKit

theorem sdir_any (k : Int) (w : World) : Calls Try.prog 13 #[.int .i64 k] w fun ed w' => ed = .returned (.int .i64 (dirL k)) ∧ Below w.heap.size w w' := by
  rcases h : (Int.tmod k 2 != 0) with _ | _
  · have hz : dirL k = 0 := by rw [dirL, if_pos ((tmod_dir k).1 (by simpa using h))]
    rw [hz]
    go_enter Try.func13, Try.ntmps13
    go_wp2
    go_ret
    exact ⟨rfl, Below.refl _ _⟩
  · have hz : dirL k = 1 := by rw [dirL, if_neg (fun e => by rw [(tmod_dir k).2 e] at h; simp at h)]
    rw [hz]
    go_enter Try.func13, Try.ntmps13
    go_wp2
    go_ret
    exact ⟨rfl, Below.refl _ _⟩

/-- a run's last place -/
theorem slast_any (b off m : Nat) (t c : Nat) (y : Int) (w : World) (hm : m = t + 1) (hm6 : m ≤ 1000000) (hy : w.cell? ⟨b, off + t, none⟩ = some (.int .i64 y)) :
    Calls Try.prog 23 #[.slice (some ⟨b, off, none⟩) m c] w fun e w' => e = .returned (.int .i64 y) ∧ w = w' := by
  have b2 : (0 : Int) ≤ (t : Int) := by omega
  have b3 : (t : Int) < (m : Int) := by omega
  have hw1 : IntKind.i64.wrap ((m : Int) - 1) = (t : Int) := by rw [IntWalk.i64_in _ (by omega)]; omega
  clear hm hm6
  go_enter Try.func23, Try.ntmps23
  go_wp2
  go_ret
  exact ⟨rfl, rfl⟩

set_option maxHeartbeats 2000000 in
theorem skept_any (A : Option Addr) (l : List Int) (c : Nat) (w : World) (h : Lies w w.heap.size A (ints .i64 l)) (hl : l.length ≤ 1000000) :
    Calls Try.prog 30 #[.slice A l.length c] w fun ed w' => Rowed w w.heap.size 3 (ints .i64 (seenI l)) ed w' := by
  have H := Lib.hid h
  clear h
  go_enter Try.func30, Try.ntmps30
  go_wp2
  go_loopw [8, 3] (fun iv ov wr => ∃ k : Nat, k ≤ l.length ∧ iv = .int .i64 k ∧ Own wr w.heap.size 3 ov (ints .i64 (seenN l k)) ∧ Below w.heap.size w wr) (fun iv _ _ => l.length - (intOf iv).toNat)
  case atStart => exact ⟨0, by omega, rfl, Own.empty _ _ _, Below.refl _ _⟩
  case round =>
    obtain ⟨k, hk, rfl, ho, hb⟩ := hrel
    have HO := Lib.hid ho
    have HB := Lib.hid hb
    clear ho hb
    by_cases hlt : k < l.length
    · obtain ⟨p, rfl, _, hcl⟩ := (H.out.below HB.out).int hlt
      obtain ⟨x, hx⟩ : ∃ x, l[k] = x := ⟨_, rfl⟩
      have HS := Lib.hid (seenN_succ l k hlt)
      rw [hx] at hcl HS
      have hle := seenN_le l k
      have b0 : (0 : Int) ≤ (k : Int) := by omega
      have b1 : (k : Int) < (l.length : Int) := by omega
      clear hx
      rcases hoc : isOut x with _ | _
      · have HOC := Lib.hid hoc
        clear hoc
        go_wp2_with fail
        refine (out_any x _).mono ?_
        rintro e w1 ⟨rfl, b1⟩
        rw [HOC.out]
        have B1 := Lib.hid (HB.out.trans (b1.mono HB.out.size))
        have D1 := Lib.hid b1
        clear b1
        have HO1 := Lib.hid (HO.out.below D1.out (Nat.le_refl _))
        go_wp2_with (first
          | (at_builtin; refine app_lit intsT w w1 w.heap.size _ _ #[.int .i64 (k : Int)] 1 _ _ rfl rfl rfl rfl HO1.out (by simp [Value.oneCell']) B1.out B1.out.size (by unfold maxLen; simp; omega) (by simp; omega) ?_; intro v2 w2 o2 b2 _ _; have O2 := Lib.hid o2; have B2 := Lib.hid b2; clear o2 b2)
          | fail)
        go_roundw
        case rel => exact ⟨k + 1, by omega, by go_num, by rw [HS.out, HOC.out, if_neg (by simp)]; simpa [ints] using O2.out, B2.out⟩
        case measure => simp [intOf]; omega
      · have HOC := Lib.hid hoc
        clear hoc
        go_wp2_with fail
        refine (out_any x _).mono ?_
        rintro e w1 ⟨rfl, b1⟩
        rw [HOC.out]
        have B1 := Lib.hid (HB.out.trans (b1.mono HB.out.size))
        have D1 := Lib.hid b1
        clear b1
        have HO1 := Lib.hid (HO.out.below D1.out (Nat.le_refl _))
        go_wp2_with fail
        go_roundw
        case rel => exact ⟨k + 1, by omega, by go_num, by rw [HS.out, HOC.out, if_pos rfl]; exact HO1.out, B1.out⟩
        case measure => simp [intOf]; omega
    · obtain rfl : k = l.length := by omega
      go_wp2
      go_ret
      exact ⟨_, rfl, HO.out, HB.out⟩

set_option maxHeartbeats 2000000 in
theorem sends_any (A : Option Addr) (cl : List Int) (c : Nat) (A' : Option Addr) (lv : List Int) (c' : Nat) (q q' : Nat) (w : World) (h : Lies w w.heap.size A (ints .i64 cl)) (h' : Lies w w.heap.size A' (ints .i64 lv)) (hq : q < cl.length) (hqv : q < lv.length) (hqv' : q' < lv.length) :
    Calls Try.prog 31 #[.slice A cl.length c, .slice A' lv.length c', .int .i64 (q : Int), .int .i64 (q' : Int)] w fun ed w' => ed = .returned (.bool (cl.getD q 0 == 10 || lv.getD q 0 != lv.getD q' 0)) ∧ Below w.heap.size w w' := by
  obtain ⟨pc, rfl, _, hcc⟩ := h.int hq
  obtain ⟨pv, rfl, _, hcv⟩ := h'.int hqv
  obtain ⟨pv', hpv', _, hcv'⟩ := h'.int hqv'
  injection hpv' with hpv'
  subst hpv'
  obtain ⟨z, hz⟩ : ∃ z, cl[q] = z := ⟨_, rfl⟩
  obtain ⟨x, hx⟩ : ∃ z, lv[q] = z := ⟨_, rfl⟩
  obtain ⟨y, hy⟩ : ∃ z, lv[q'] = z := ⟨_, rfl⟩
  rw [show cl.getD q 0 = z by simp [hq, hz], show lv.getD q 0 = x by simp [hqv, hx], show lv.getD q' 0 = y by simp [hqv', hy]]
  rw [hz] at hcc
  rw [hx] at hcv
  rw [hy] at hcv'
  have c0 : (0 : Int) ≤ (q : Int) := by omega
  have c1 : (0 : Int) ≤ (q' : Int) := by omega
  have c2 : (q : Int) < (cl.length : Int) := by omega
  have c3 : (q : Int) < (lv.length : Int) := by omega
  have c4 : (q' : Int) < (lv.length : Int) := by omega
  have hcr : w.drew.cell? (pc.add q) = some (.int .i64 z) ∧ w.drew.cell? (pv.add q) = some (.int .i64 x) ∧ w.drew.cell? (pv.add q') = some (.int .i64 y) := ⟨hcc, hcv, hcv'⟩
  clear h h' hz hx hy hq hqv hqv' hcc hcv hcv'
  rcases hz10 : (z == 10) with _ | _
  · go_enter Try.func31, Try.ntmps31
    go_wp2_with fail
    refine wp_region_held_drew (S := fun w' => w'.cell? (pc.add q) = some (.int .i64 z) ∧ w'.cell? (pv.add q) = some (.int .i64 x) ∧ w'.cell? (pv.add q') = some (.int .i64 y)) (by kernel_rfl) (hcr) (fun hHeld => ?_)
    refine' wpAnyH_take (i := 0) (v := _) rfl (by kernel_rfl) (by kernel_rfl) (by kernel_rfl) (fun _ _ _ h => h) (Or.inl ⟨by rfl, fun u hu => ?_⟩) (by assumption) ?_
    rotate_left
    · (try dsimp only at hu)
      go_simp
      try with_reducible rfl
    try simp only [Act.put, List.getElem_toArray, List.getElem_cons_zero, List.setIfInBounds_toArray, List.set_cons_zero, List.set_cons_succ]
    refine' wpAnyH_take (i := 1) (v := _) rfl (by kernel_rfl) (by kernel_rfl) (by kernel_rfl) (fun _ _ _ h => h) (Or.inl ⟨by rfl, fun u hu => ?_⟩) (by assumption) ?_
    rotate_left
    · (try dsimp only at hu)
      go_simp
      try with_reducible rfl
    try simp only [Act.put, List.getElem_toArray, List.getElem_cons_zero, List.getElem_cons_succ, List.setIfInBounds_toArray, List.set_cons_zero, List.set_cons_succ]
    refine' wpAnyH_take (i := 2) (v := _) rfl (by kernel_rfl) (by kernel_rfl) (by kernel_rfl) (fun _ _ _ h => h) (Or.inl ⟨by rfl, fun u hu => ?_⟩) (by assumption) ?_
    rotate_left
    · (try dsimp only at hu)
      go_simp
      try with_reducible rfl
    try simp only [Act.put, List.getElem_toArray, List.getElem_cons_zero, List.getElem_cons_succ, List.setIfInBounds_toArray, List.set_cons_zero, List.set_cons_succ]
    refine' wpAnyH_take (i := 3) (v := _) rfl (by kernel_rfl) (by kernel_rfl) (by kernel_rfl) (fun _ _ _ h => h) (Or.inl ⟨by rfl, fun u hu => ?_⟩) (by assumption) ?_
    rotate_left
    · (try dsimp only at hu)
      go_simp
      try with_reducible rfl
    try simp only [Act.put, List.getElem_toArray, List.getElem_cons_zero, List.getElem_cons_succ, List.setIfInBounds_toArray, List.set_cons_zero, List.set_cons_succ]
    refine' wpAnyH_take (i := 4) (v := _) rfl (by kernel_rfl) (by kernel_rfl) (by kernel_rfl) (fun _ _ _ h => h) (Or.inl ⟨by rfl, fun u hu => ?_⟩) (by assumption) ?_
    rotate_left
    · (try dsimp only at hu)
      go_simp
      try with_reducible rfl
    try simp only [Act.put, List.getElem_toArray, List.getElem_cons_zero, List.getElem_cons_succ, List.setIfInBounds_toArray, List.set_cons_zero, List.set_cons_succ]
    refine' wpAnyH_take (i := 5) (v := _) rfl (by kernel_rfl) (by kernel_rfl) (by kernel_rfl) (fun _ _ _ h => h) (Or.inl ⟨by rfl, fun u hu => ?_⟩) (by assumption) ?_
    rotate_left
    · (try dsimp only at hu)
      go_simp
      try with_reducible rfl
    try simp only [Act.put, List.getElem_toArray, List.getElem_cons_zero, List.getElem_cons_succ, List.setIfInBounds_toArray, List.set_cons_zero, List.set_cons_succ]
    refine' wpAnyH_take (i := 6) (v := _) rfl (by kernel_rfl) (by kernel_rfl) (by kernel_rfl) (fun _ _ _ h => h) (Or.inl ⟨by rfl, fun u hu => ?_⟩) (by assumption) ?_
    rotate_left
    · (try dsimp only at hu)
      go_simp
      try with_reducible rfl
    try simp only [Act.put, List.getElem_toArray, List.getElem_cons_zero, List.getElem_cons_succ, List.setIfInBounds_toArray, List.set_cons_zero, List.set_cons_succ]
    refine' wpAnyH_take (i := 7) (v := _) rfl (by kernel_rfl) (by kernel_rfl) (by kernel_rfl) (fun _ _ _ h => h) (Or.inl ⟨by rfl, fun u hu => ?_⟩) (by assumption) ?_
    rotate_left
    · (try dsimp only at hu)
      go_simp
      try with_reducible rfl
    try simp only [Act.put, List.getElem_toArray, List.getElem_cons_zero, List.getElem_cons_succ, List.setIfInBounds_toArray, List.set_cons_zero, List.set_cons_succ]
    refine' wpAnyH_take (i := 8) (v := _) rfl (by kernel_rfl) (by kernel_rfl) (by kernel_rfl) (fun _ _ _ h => h) (Or.inl ⟨by rfl, fun u hu => ?_⟩) (by assumption) ?_
    rotate_left
    · (try dsimp only at hu)
      go_simp
      try with_reducible rfl
    try simp only [Act.put, List.getElem_toArray, List.getElem_cons_zero, List.getElem_cons_succ, List.setIfInBounds_toArray, List.set_cons_zero, List.set_cons_succ]
    refine' wpAnyH_take (i := 9) (v := _) rfl (by kernel_rfl) (by kernel_rfl) (by kernel_rfl) (fun _ _ _ h => h) (Or.inl ⟨by rfl, fun u hu => ?_⟩) (by assumption) ?_
    rotate_left
    · (try dsimp only at hu)
      go_simp
      try with_reducible rfl
    try simp only [Act.put, List.getElem_toArray, List.getElem_cons_zero, List.getElem_cons_succ, List.setIfInBounds_toArray, List.set_cons_zero, List.set_cons_succ]
    refine' wpAnyH_take (i := 10) (v := _) rfl (by kernel_rfl) (by kernel_rfl) (by kernel_rfl) (fun _ _ _ h => h) (Or.inl ⟨by rfl, fun u hu => ?_⟩) (by assumption) ?_
    rotate_left
    · (try dsimp only at hu)
      go_simp
      try with_reducible rfl
    try simp only [Act.put, List.getElem_toArray, List.getElem_cons_zero, List.getElem_cons_succ, List.setIfInBounds_toArray, List.set_cons_zero, List.set_cons_succ]
    refine' wpAnyH_take (i := 11) (v := _) rfl (by kernel_rfl) (by kernel_rfl) (by kernel_rfl) (fun _ _ _ h => h) (Or.inl ⟨by rfl, fun u hu => ?_⟩) (by assumption) ?_
    rotate_left
    · (try dsimp only at hu)
      go_simp
      try with_reducible rfl
    try simp only [Act.put, List.getElem_toArray, List.getElem_cons_zero, List.getElem_cons_succ, List.setIfInBounds_toArray, List.set_cons_zero, List.set_cons_succ]
    refine' wpAnyH_take (i := 12) (v := _) rfl (by kernel_rfl) (by kernel_rfl) (by kernel_rfl) (fun _ _ _ h => h) (Or.inl ⟨by rfl, fun u hu => ?_⟩) (by assumption) ?_
    rotate_left
    · (try dsimp only at hu)
      go_simp
      try with_reducible rfl
    try simp only [Act.put, List.getElem_toArray, List.getElem_cons_zero, List.getElem_cons_succ, List.setIfInBounds_toArray, List.set_cons_zero, List.set_cons_succ]
    refine' wpAnyH_take (i := 13) (v := _) rfl (by kernel_rfl) (by kernel_rfl) (by kernel_rfl) (fun _ _ _ h => h) (Or.inl ⟨by rfl, fun u hu => ?_⟩) (by assumption) ?_
    rotate_left
    · (try dsimp only at hu)
      go_simp
      try with_reducible rfl
    try simp only [Act.put, List.getElem_toArray, List.getElem_cons_zero, List.getElem_cons_succ, List.setIfInBounds_toArray, List.set_cons_zero, List.set_cons_succ]
    refine' wpAnyH_take (i := 14) (v := _) rfl (by kernel_rfl) (by kernel_rfl) (by kernel_rfl) (fun _ _ _ h => h) (Or.inl ⟨by rfl, fun u hu => ?_⟩) (by assumption) ?_
    rotate_left
    · (try dsimp only at hu)
      go_simp
      try with_reducible rfl
    try simp only [Act.put, List.getElem_toArray, List.getElem_cons_zero, List.getElem_cons_succ, List.setIfInBounds_toArray, List.set_cons_zero, List.set_cons_succ]
    refine' wpAnyH_take (i := 15) (v := _) rfl (by kernel_rfl) (by kernel_rfl) (by kernel_rfl) (fun _ _ _ h => h) (Or.inl ⟨by rfl, fun u hu => ?_⟩) (by assumption) ?_
    rotate_left
    · (try dsimp only at hu)
      go_simp
      try with_reducible rfl
    try simp only [Act.put, List.getElem_toArray, List.getElem_cons_zero, List.getElem_cons_succ, List.setIfInBounds_toArray, List.set_cons_zero, List.set_cons_succ]
    refine' wpAnyH_take (i := 16) (v := _) rfl (by kernel_rfl) (by kernel_rfl) (by kernel_rfl) (fun _ _ _ h => h) (Or.inl ⟨by rfl, fun u hu => ?_⟩) (by assumption) ?_
    rotate_left
    · (try dsimp only at hu)
      go_simp
      try with_reducible rfl
    try simp only [Act.put, List.getElem_toArray, List.getElem_cons_zero, List.getElem_cons_succ, List.setIfInBounds_toArray, List.set_cons_zero, List.set_cons_succ]
    refine wpAnyH_done (by kernel_rfl) ?_ _
    go_wp2_with fail
    go_ret
    exact ⟨rfl, by exact below_same (Below.refl _ _) rfl rfl rfl rfl⟩
  · go_enter Try.func31, Try.ntmps31
    go_wp2_with fail
    refine wp_region_held_drew (S := fun w' => w'.cell? (pc.add q) = some (.int .i64 z) ∧ w'.cell? (pv.add q) = some (.int .i64 x) ∧ w'.cell? (pv.add q') = some (.int .i64 y)) (by kernel_rfl) (hcr) (fun hHeld => ?_)
    refine' wpAnyH_take (i := 0) (v := _) rfl (by kernel_rfl) (by kernel_rfl) (by kernel_rfl) (fun _ _ _ h => h) (Or.inl ⟨by rfl, fun u hu => ?_⟩) (by assumption) ?_
    rotate_left
    · (try dsimp only at hu)
      go_simp
      try with_reducible rfl
    try simp only [Act.put, List.getElem_toArray, List.getElem_cons_zero, List.setIfInBounds_toArray, List.set_cons_zero, List.set_cons_succ]
    refine' wpAnyH_take (i := 1) (v := _) rfl (by kernel_rfl) (by kernel_rfl) (by kernel_rfl) (fun _ _ _ h => h) (Or.inl ⟨by rfl, fun u hu => ?_⟩) (by assumption) ?_
    rotate_left
    · (try dsimp only at hu)
      go_simp
      try with_reducible rfl
    try simp only [Act.put, List.getElem_toArray, List.getElem_cons_zero, List.getElem_cons_succ, List.setIfInBounds_toArray, List.set_cons_zero, List.set_cons_succ]
    refine' wpAnyH_take (i := 2) (v := _) rfl (by kernel_rfl) (by kernel_rfl) (by kernel_rfl) (fun _ _ _ h => h) (Or.inl ⟨by rfl, fun u hu => ?_⟩) (by assumption) ?_
    rotate_left
    · (try dsimp only at hu)
      go_simp
      try with_reducible rfl
    try simp only [Act.put, List.getElem_toArray, List.getElem_cons_zero, List.getElem_cons_succ, List.setIfInBounds_toArray, List.set_cons_zero, List.set_cons_succ]
    refine' wpAnyH_take (i := 3) (v := _) rfl (by kernel_rfl) (by kernel_rfl) (by kernel_rfl) (fun _ _ _ h => h) (Or.inl ⟨by rfl, fun u hu => ?_⟩) (by assumption) ?_
    rotate_left
    · (try dsimp only at hu)
      go_simp
      try with_reducible rfl
    try simp only [Act.put, List.getElem_toArray, List.getElem_cons_zero, List.getElem_cons_succ, List.setIfInBounds_toArray, List.set_cons_zero, List.set_cons_succ]
    refine' wpAnyH_take (i := 4) (v := _) rfl (by kernel_rfl) (by kernel_rfl) (by kernel_rfl) (fun _ _ _ h => h) (Or.inl ⟨by rfl, fun u hu => ?_⟩) (by assumption) ?_
    rotate_left
    · (try dsimp only at hu)
      go_simp
      try with_reducible rfl
    try simp only [Act.put, List.getElem_toArray, List.getElem_cons_zero, List.getElem_cons_succ, List.setIfInBounds_toArray, List.set_cons_zero, List.set_cons_succ]
    refine' wpAnyH_take (i := 5) (v := _) rfl (by kernel_rfl) (by kernel_rfl) (by kernel_rfl) (fun _ _ _ h => h) (Or.inl ⟨by rfl, fun u hu => ?_⟩) (by assumption) ?_
    rotate_left
    · (try dsimp only at hu)
      go_simp
      try with_reducible rfl
    try simp only [Act.put, List.getElem_toArray, List.getElem_cons_zero, List.getElem_cons_succ, List.setIfInBounds_toArray, List.set_cons_zero, List.set_cons_succ]
    refine' wpAnyH_take (i := 6) (v := _) rfl (by kernel_rfl) (by kernel_rfl) (by kernel_rfl) (fun _ _ _ h => h) (Or.inr ⟨by rfl, rfl⟩) (by assumption) ?_
    try simp only [Act.put, List.getElem_toArray, List.getElem_cons_zero, List.getElem_cons_succ, List.setIfInBounds_toArray, List.set_cons_zero, List.set_cons_succ]
    refine' wpAnyH_take (i := 7) (v := _) rfl (by kernel_rfl) (by kernel_rfl) (by kernel_rfl) (fun _ _ _ h => h) (Or.inr ⟨by rfl, rfl⟩) (by assumption) ?_
    try simp only [Act.put, List.getElem_toArray, List.getElem_cons_zero, List.getElem_cons_succ, List.setIfInBounds_toArray, List.set_cons_zero, List.set_cons_succ]
    refine' wpAnyH_take (i := 8) (v := _) rfl (by kernel_rfl) (by kernel_rfl) (by kernel_rfl) (fun _ _ _ h => h) (Or.inr ⟨by rfl, rfl⟩) (by assumption) ?_
    try simp only [Act.put, List.getElem_toArray, List.getElem_cons_zero, List.getElem_cons_succ, List.setIfInBounds_toArray, List.set_cons_zero, List.set_cons_succ]
    refine' wpAnyH_take (i := 9) (v := _) rfl (by kernel_rfl) (by kernel_rfl) (by kernel_rfl) (fun _ _ _ h => h) (Or.inr ⟨by rfl, rfl⟩) (by assumption) ?_
    try simp only [Act.put, List.getElem_toArray, List.getElem_cons_zero, List.getElem_cons_succ, List.setIfInBounds_toArray, List.set_cons_zero, List.set_cons_succ]
    refine' wpAnyH_take (i := 10) (v := _) rfl (by kernel_rfl) (by kernel_rfl) (by kernel_rfl) (fun _ _ _ h => h) (Or.inr ⟨by rfl, rfl⟩) (by assumption) ?_
    try simp only [Act.put, List.getElem_toArray, List.getElem_cons_zero, List.getElem_cons_succ, List.setIfInBounds_toArray, List.set_cons_zero, List.set_cons_succ]
    refine' wpAnyH_take (i := 11) (v := _) rfl (by kernel_rfl) (by kernel_rfl) (by kernel_rfl) (fun _ _ _ h => h) (Or.inr ⟨by rfl, rfl⟩) (by assumption) ?_
    try simp only [Act.put, List.getElem_toArray, List.getElem_cons_zero, List.getElem_cons_succ, List.setIfInBounds_toArray, List.set_cons_zero, List.set_cons_succ]
    refine' wpAnyH_take (i := 12) (v := _) rfl (by kernel_rfl) (by kernel_rfl) (by kernel_rfl) (fun _ _ _ h => h) (Or.inr ⟨by rfl, rfl⟩) (by assumption) ?_
    try simp only [Act.put, List.getElem_toArray, List.getElem_cons_zero, List.getElem_cons_succ, List.setIfInBounds_toArray, List.set_cons_zero, List.set_cons_succ]
    refine' wpAnyH_take (i := 13) (v := _) rfl (by kernel_rfl) (by kernel_rfl) (by kernel_rfl) (fun _ _ _ h => h) (Or.inr ⟨by rfl, rfl⟩) (by assumption) ?_
    try simp only [Act.put, List.getElem_toArray, List.getElem_cons_zero, List.getElem_cons_succ, List.setIfInBounds_toArray, List.set_cons_zero, List.set_cons_succ]
    refine' wpAnyH_take (i := 14) (v := _) rfl (by kernel_rfl) (by kernel_rfl) (by kernel_rfl) (fun _ _ _ h => h) (Or.inr ⟨by rfl, rfl⟩) (by assumption) ?_
    try simp only [Act.put, List.getElem_toArray, List.getElem_cons_zero, List.getElem_cons_succ, List.setIfInBounds_toArray, List.set_cons_zero, List.set_cons_succ]
    refine' wpAnyH_take (i := 15) (v := _) rfl (by kernel_rfl) (by kernel_rfl) (by kernel_rfl) (fun _ _ _ h => h) (Or.inl ⟨by rfl, fun u hu => ?_⟩) (by assumption) ?_
    rotate_left
    · (try dsimp only at hu)
      go_simp
      try with_reducible rfl
    try simp only [Act.put, List.getElem_toArray, List.getElem_cons_zero, List.getElem_cons_succ, List.setIfInBounds_toArray, List.set_cons_zero, List.set_cons_succ]
    refine' wpAnyH_take (i := 16) (v := _) rfl (by kernel_rfl) (by kernel_rfl) (by kernel_rfl) (fun _ _ _ h => h) (Or.inl ⟨by rfl, fun u hu => ?_⟩) (by assumption) ?_
    rotate_left
    · (try dsimp only at hu)
      go_simp
      try with_reducible rfl
    try simp only [Act.put, List.getElem_toArray, List.getElem_cons_zero, List.getElem_cons_succ, List.setIfInBounds_toArray, List.set_cons_zero, List.set_cons_succ]
    refine wpAnyH_done (by kernel_rfl) ?_ _
    go_wp2_with fail
    go_ret
    exact ⟨rfl, by exact below_same (Below.refl _ _) rfl rfl rfl rfl⟩

section
variable {P : Program} {ops : Array Oper} {rest : List Oper} {o : Oper} {a : Act} {Q : Exit → Act → World → Prop}
/-- l[i:j:j] of a row that begins its block -/
theorem cut_plain {t e : TypeId} {z : Value} {bytes : Nat} (T : SliceOf P t e z bytes) (W : World) (x y1 y2 y3 : Operand) (i j g n c : Nat)
    (hgd : Region.wanted o (yielded ops a.tmps) = true) (ho : o.op = .slice t x (some y1) (some y2) (some y3)) (hx : a.eval x = .slice (some ⟨g, 0, none⟩) n c) (h1 : a.eval y1 = .int .i64 (i : Int)) (h2 : a.eval y2 = .int .i64 (j : Int)) (h3 : a.eval y3 = .int .i64 (j : Int)) (hij : i < j) (hj : j ≤ c)
    (h : wpList P ops Q rest (a.put o.dst (.slice (some ⟨g, i, none⟩) (j - i) (j - i))) W) :
    wpList P ops Q (o :: rest) a W := by
  obtain ⟨f, hi, hz0, hz1, hz2⟩ := info_parts T.elem
  have he : P.elem t = e := by simp [Program.elem, T.slice]
  have hrun := run_slice_lhm (P := P) (w := W) t (some ⟨g, 0, none⟩) n c (by rw [T.slice, he]) .i64 .i64 .i64 (i : Int) (j : Int) (j : Int) (by omega) (by omega) (by omega) (by omega)
  refine wpList_step fun K' hK' => ?_
  rw [if_pos hgd]
  unfold Oper.wp
  simp [execOp, ho, hx, h1, h2, h3, run_sliceAt_slice, T.slice, he, hrun, Result.andThen, sizeOf, typeInfo, hi, hz1, sliced]
  refine hK' _ _ ?_
  rw [if_neg (by omega), show ((⟨g, 0, none⟩ : Addr).add i) = ⟨g, i, none⟩ by rw [add_plain]; simp]
  exact h
end

/-- slices that are cut out of the row s in block g, each full: what they hold -/
structure Cuts (g : Nat) (s : List Int) (es : List Value) (L : List (List Int)) : Prop where
  len : es.length = L.length
  cut : ∀ (j : Nat) (h1 : j < es.length) (h2 : j < L.length), ∃ o, es[j] = .slice (some ⟨g, o, none⟩) L[j].length L[j].length ∧ o + L[j].length ≤ s.length ∧ ∀ t (ht : t < L[j].length), s[o + t]? = some L[j][t]
theorem Cuts.nil (g : Nat) (s : List Int) : Cuts g s [] [] := ⟨rfl, fun j h1 => by simp at h1⟩
theorem Cuts.push {g : Nat} {s : List Int} {es : List Value} {L : List (List Int)} (h : Cuts g s es L) {i j : Nat} (hij : i < j) (hj : j ≤ s.length) :
    Cuts g s (es ++ [.slice (some ⟨g, i, none⟩) (j - i) (j - i)]) (L ++ [(s.take j).drop i]) := by
  have hl := h.len
  refine ⟨by simp [hl], fun k h1 h2 => ?_⟩
  by_cases hk : k < es.length
  · simp only [List.getElem_append_left hk, List.getElem_append_left (show k < L.length by omega)]
    exact h.cut k hk (by omega)
  · have he : k = L.length := by rw [List.length_append, List.length_singleton] at h2; omega
    subst he
    simp only [List.getElem_append_right (show es.length ≤ L.length by omega), List.getElem_append_right (Nat.le_refl L.length), Nat.sub_self, show L.length - es.length = 0 by omega, List.getElem_cons_zero]
    have e : ((s.take j).drop i).length = j - i := by rw [List.length_drop, List.length_take]; omega
    refine ⟨i, by rw [e], by omega, fun t ht => ?_⟩
    rw [List.getElem_drop, List.getElem_take, List.getElem?_eq_getElem]

/-- runs that are read: each slice is full -/
structure RunsE (w : World) (A : Option Addr) (L : List (List Int)) (es : List Value) : Prop where
  len : es.length = L.length
  outer : Lies w w.heap.size A es
  inner : ∀ (j : Nat) (h1 : j < es.length) (h2 : j < L.length), ∃ Aj, es[j] = .slice Aj L[j].length L[j].length ∧ Lies w w.heap.size Aj (ints .i64 L[j])
def RunsR (w : World) (A : Option Addr) (L : List (List Int)) : Prop := ∃ es, RunsE w A L es
theorem RunsR.up {w w' : World} {A : Option Addr} {L : List (List Int)} (h : RunsR w A L) (hb : Below w.heap.size w w') : RunsR w' A L := by
  obtain ⟨es, h1, h2, h3⟩ := h
  refine ⟨es, h1, h2.up hb, fun j a b => ?_⟩
  obtain ⟨Aj, e, hl⟩ := h3 j a b
  exact ⟨Aj, e, hl.up hb⟩
theorem Cuts.read {g : Nat} {s : List Int} {es : List Value} {L : List (List Int)} {w : World} {A : Option Addr} {c n : Nat} {B : Nat} (h : Cuts g s es L) (hs : Own w B 3 (.slice (some ⟨g, 0, none⟩) n c) (ints .i64 s)) (ho : Lies w w.heap.size A es) : RunsR w A L := by
  refine ⟨es, h.len, ho, fun j h1 h2 => ?_⟩
  obtain ⟨o, e, h3, h4⟩ := h.cut j h1 h2
  refine ⟨_, e, fun hne => ⟨_, rfl, (Own.inside hs g rfl).2, fun i u hu => ?_⟩⟩
  rw [ints, List.getElem?_map] at hu
  obtain ⟨x, hx, rfl⟩ := Option.map_eq_some_iff.1 hu
  obtain ⟨hlt, rfl⟩ := List.getElem?_eq_some_iff.1 hx
  obtain ⟨A1, c1, hv, hl, _, _⟩ := hs.form
  injection hv with hA _ _
  subst hA
  have hs0 : ints .i64 s ≠ [] := fun e => by
    have e2 := congrArg List.length e
    simp only [ints, List.length_map, List.length_nil] at e2
    omega
  obtain ⟨p, hp, _, hc⟩ := hl hs0
  injection hp with hp
  subst hp
  have := hc (o + i) (.int .i64 L[j][i]) (by rw [ints, List.getElem?_map, h4 i hlt]; rfl)
  rw [add_plain] at this ⊢
  simpa using this
/-- run j's slice, its first and last places -/
theorem RunsR.at' {w : World} {A : Option Addr} {L : List (List Int)} (h : RunsR w A L) {j : Nat} (hj : j < L.length) (hne : L[j] ≠ []) :
    ∃ p b off, A = some p ∧ p.block < w.heap.size ∧ b < w.heap.size ∧ w.cell? (p.add j) = some (.slice (some ⟨b, off, none⟩) L[j].length L[j].length) ∧ w.cell? ⟨b, off, none⟩ = some (.int .i64 (headI L[j])) ∧ w.cell? ⟨b, off + (L[j].length - 1), none⟩ = some (.int .i64 (lastI L[j])) ∧ Lies w w.heap.size (some ⟨b, off, none⟩) (ints .i64 L[j]) := by
  obtain ⟨es, h1, h2, h3⟩ := h
  obtain ⟨p, hA, hp, hc⟩ := h2.cellAt (i := j) (by omega)
  obtain ⟨Aj, e, hl⟩ := h3 j (by omega) hj
  have hpos := List.length_pos_iff.2 hne
  obtain ⟨b, off, hAj, hb, hcs⟩ := hl.plainInts hpos
  subst hAj
  refine ⟨p, b, off, hA, hp, hb, by rw [hc, e], ?_, ?_, hl⟩
  · have := hcs 0 hpos
    rw [show L[j][0] = headI L[j] by simp [headI, hpos]] at this
    simpa using this
  · have := hcs (L[j].length - 1) (by omega)
    rw [this]
    simp [lastI, List.getElem?_eq_getElem (show L[j].length - 1 < L[j].length by omega)]
/-- .. behind what leaves it as it lies -/
theorem RunsR.later {w w' : World} {A : Option Addr} {L : List (List Int)} (h : RunsR w A L) (hw : Below w.heap.size w w') {j : Nat} (hj : j < L.length) (hne : L[j] ≠ []) :
    ∃ p b off, A = some p ∧ p.block < w.heap.size ∧ b < w.heap.size ∧ w'.cell? (p.add j) = some (.slice (some ⟨b, off, none⟩) L[j].length L[j].length) ∧ w'.cell? ⟨b, off, none⟩ = some (.int .i64 (headI L[j])) ∧ w'.cell? ⟨b, off + (L[j].length - 1), none⟩ = some (.int .i64 (lastI L[j])) ∧ Lies w' w.heap.size (some ⟨b, off, none⟩) (ints .i64 L[j]) := by
  obtain ⟨p, b, off, hA, hp, hb, h1, h2, h3, h4⟩ := h.at' hj hne
  exact ⟨p, b, off, hA, hp, hb, by rw [hw.cell (by rw [add_block]; exact hp)]; exact h1, by rw [hw.cell hb]; exact h2, by rw [hw.cell hb]; exact h3, h4.below hw⟩
theorem listsI_six {cl lv : List Int} (hl : cl.length ≤ 1000000) : (listsI cl lv).length ≤ 1000000 ∧ (∀ j (hj : j < (listsI cl lv).length), (listsI cl lv)[j] ≠ []) ∧ ∀ j (hj : j < (listsI cl lv).length), (listsI cl lv)[j].length ≤ 1000000 :=
  ⟨Nat.le_trans (listsI_le cl lv).1 hl, fun _ _ => listsI_ne cl lv _ (List.getElem_mem _), fun _ _ => Nat.le_trans ((listsI_le cl lv).2 _ (List.getElem_mem _)) hl⟩
end Go.Proofs.Ytajgjloailliiaa
