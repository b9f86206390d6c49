/- BrackSides: for every list of numbers and every two places of sixteen bits, the sides of two parts are the whole's, and a class has one side at most. Conditions: none. -/
import Derived.Test.YtoiolgpbecgfkaaBrV
import Derived.Test.YtoiolgpbecgfkaaLaw
import Derived.Deep.DeepCutAuto
import Derived.Test.YtoiolgpbecgfkaaRows
namespace Go.Proofs.Ytoiolgpbecgfkaa.lawSides
open Go.ChangeShapes Go.WideShapes Go.ChangeAt Go.RowKit

theorem hasS_split (s : Int) (l : List Int) (k : Nat) : hasS s l 0 l.length = (hasS s l 0 k || hasS s l k l.length) := by
  unfold hasS
  rw [List.take_length, List.drop_zero, List.drop_zero, ← List.any_append, List.take_append_drop]
theorem part1 (s : Int) (l : List Int) {k : Nat} (hk : k ≤ l.length) : hasS s l (lowB 0) (highB l (k : Int)) = hasS s l 0 k := by
  have h1 : highB l (k : Int) = k := by unfold highB; omega
  rw [h1]; rfl
theorem part2 (s : Int) (l : List Int) {k : Nat} (hk : k ≤ l.length) : hasS s l (lowB (k : Int)) (highB l (l.length : Int)) = hasS s l k l.length := by
  have h1 : highB l (l.length : Int) = l.length := by unfold highB; omega
  have h2 : lowB (k : Int) = k := by unfold lowB; omega
  rw [h1, h2]
theorem whole (s : Int) (l : List Int) : hasS s l (lowB (-5)) (highB l ((l.length : Int) + 5)) = hasS s l 0 l.length := by
  have h1 : highB l ((l.length : Int) + 5) = l.length := by unfold highB; omega
  rw [h1]; rfl
theorem one (s : Int) (l : List Int) {i : Nat} (hi : i < l.length) : hasS s l (lowB (i : Int)) (highB l ((i : Int) + 1)) = (sdB l[i] == s) := by
  have h1 : highB l ((i : Int) + 1) = i + 1 := by unfold highB; omega
  have h2 : lowB (i : Int) = i := by unfold lowB; omega
  rw [h1, h2, hasS_next s l i i (Nat.le_refl _) hi, hasS_begin, Bool.false_or]

set_option maxRecDepth 20000 in
set_option maxHeartbeats 8000000 in
theorem walk_ok (w : World) (A : Option Addr) (l : List Int) (c : Nat) (hl : l.length ≤ 300) (h : Lies w w.heap.size A (ints .i64 l)) (z1 z2 : Nat) (hz1 : z1 ≤ 65535) (hz2 : z2 ≤ 65535) :
    Calls Try.prog 7 #[.slice A l.length c, .agg #[.int .u16 (z1 : Int), .int .u16 (z2 : Int)]] w fun e w' => e = .returned (.bool true) ∧ Below w.heap.size w w' := by
  have hl' : l.length ≤ 1000 := by omega
  obtain ⟨w0, hw0⟩ : ∃ u, w.alloc (.cells #[.int .u16 (z1 : Int), .int .u16 (z2 : Int)] 44) = u := ⟨_, rfl⟩
  obtain ⟨q, hq⟩ : ∃ q, w.heap.size = q := ⟨_, rfl⟩
  have B0 : Hid (Below w.heap.size w w0) := Lib.hid (hw0 ▸ below_alloc w _)
  have BX : Hid (∀ u, Below w0.heap.size w0 u → u.cell? ⟨q, 0, none⟩ = some (.int .u16 z1) ∧ u.cell? ⟨q, 1, none⟩ = some (.int .u16 z2)) := by
    subst hw0 hq
    exact Lib.hid fun u hu => ⟨boxed hu rfl, boxed hu rfl⟩
  have H := Lib.hid (h.up B0.out)
  obtain ⟨a, ha⟩ : ∃ k, z1 % (l.length + 1) = k := ⟨_, rfl⟩
  obtain ⟨b, hb⟩ : ∃ k, z2 % (l.length + 1) = k := ⟨_, rfl⟩
  have hal : a ≤ l.length := by have := Nat.mod_lt z1 (show 0 < l.length + 1 by omega); omega
  have hbl : b ≤ l.length := by have := Nat.mod_lt z2 (show 0 < l.length + 1 by omega); omega
  have hw01 : IntKind.i64.wrap (z1 : Int) = (z1 : Int) := IntWalk.i64_in _ (by omega)
  have hw02 : IntKind.i64.wrap (z2 : Int) = (z2 : Int) := IntWalk.i64_in _ (by omega)
  have hw1 : IntKind.i64.wrap ((l.length : Int) + 1) = (l.length : Int) + 1 := IntWalk.i64_in _ (by omega)
  have hw5 : IntKind.i64.wrap ((l.length : Int) + 5) = (l.length : Int) + 5 := IntWalk.i64_in _ (by omega)
  have hrem1 : (z1 : Int) % ((l.length : Int) + 1) = (a : Int) := by rw [← ha]; simp
  have hrem2 : (z2 : Int) % ((l.length : Int) + 1) = (b : Int) := by rw [← hb]; simp
  have hnz : ¬ ((l.length : Int) + 1) = 0 := by omega
  have hnz2 : ((l.length : Int) + 1 == 0) = false := by simp; omega
  obtain ⟨k, hk⟩ : ∃ k, min a b = k := ⟨_, rfl⟩
  have hkl : k ≤ l.length := by omega
  have HK := Lib.hid hk
  have ONE : Hid (∀ (i : Nat) (hi : i < l.length), hasL l (i : Int) ((i : Int) + 1) = (sdB l[i] == 0) ∧ hasR l (i : Int) ((i : Int) + 1) = (sdB l[i] == 1)) := Lib.hid fun i hi => ⟨one 0 l hi, one 1 l hi⟩
  obtain ⟨p, hp⟩ : ∃ x, hasS 0 l 0 k = x := ⟨_, rfl⟩
  obtain ⟨p', hp'⟩ : ∃ x, hasS 1 l 0 k = x := ⟨_, rfl⟩
  obtain ⟨r, hr⟩ : ∃ x, hasS 0 l k l.length = x := ⟨_, rfl⟩
  obtain ⟨r', hr'⟩ : ∃ x, hasS 1 l k l.length = x := ⟨_, rfl⟩
  have S1 : Hid (hasL l 0 (k : Int) = p ∧ hasR l 0 (k : Int) = p') := Lib.hid ⟨(part1 0 l hkl).trans hp, (part1 1 l hkl).trans hp'⟩
  have S2 : Hid (hasL l (k : Int) (l.length : Int) = r ∧ hasR l (k : Int) (l.length : Int) = r') := Lib.hid ⟨(part2 0 l hkl).trans hr, (part2 1 l hkl).trans hr'⟩
  have S3 : Hid (hasL l (-5) ((l.length : Int) + 5) = (p || r) ∧ hasR l (-5) ((l.length : Int) + 5) = (p' || r')) := Lib.hid ⟨(whole 0 l).trans (by rw [hasS_split 0 l k, hp, hr]), (whole 1 l).trans (by rw [hasS_split 1 l k, hp', hr'])⟩
  clear h ha hb hp hp' hr hr' hk
  go_enter Try.func7, Try.ntmps7
  go_wp2_with fail
  clear hw0 hq
  refine (balive_any w0).mono ?_
  rintro e w1 ⟨rfl, b1⟩
  have B1 := Lib.hid b1
  have H1 := Lib.hid (H.out.up b1)
  clear b1
  go_wp2_with fail
  refine wp_region_E (S := fun w' => w'.cell? ⟨q, 0, none⟩ = some (.int .u16 z1) ∧ w'.cell? ⟨q, 1, none⟩ = some (.int .u16 z2)) [] (by kernel_rfl) (BX.out w1.drew (by exact below_same B1.out rfl rfl rfl rfl)) (fun hHeld hClosed => ?_)
  refine' wpAnyE_take (i := 0) (v := _) rfl (by kernel_rfl) (by kernel_rfl) (by kernel_rfl) (by kernel_rfl) (fun _ _ _ h => h) (Or.inl ⟨by rfl, fun u hu => ?_⟩) hHeld hClosed (fun hNext => ?_)
  rotate_left
  · (try dsimp only at hu)
    go_simp
    try with_reducible rfl
  clear hClosed
  have hClosed := hNext
  clear hNext
  try simp only [Act.put, List.getElem_toArray, List.getElem_cons_zero, List.setIfInBounds_toArray, List.set_cons_zero, List.set_cons_succ]
  refine' wpAnyE_take (i := 1) (v := _) rfl (by kernel_rfl) (by kernel_rfl) (by kernel_rfl) (by kernel_rfl) (fun _ _ _ h => h) (Or.inl ⟨by rfl, fun u hu => ?_⟩) hHeld hClosed (fun hNext => ?_)
  rotate_left
  · (try dsimp only at hu)
    go_simp
    try with_reducible rfl
  clear hClosed
  have hClosed := hNext
  clear hNext
  try simp only [Act.put, List.getElem_toArray, List.getElem_cons_zero, List.getElem_cons_succ, List.setIfInBounds_toArray, List.set_cons_zero, List.set_cons_succ]
  refine' wpAnyE_take (i := 2) (v := _) rfl (by kernel_rfl) (by kernel_rfl) (by kernel_rfl) (by kernel_rfl) (fun _ _ _ h => h) (Or.inl ⟨by rfl, fun u hu => ?_⟩) hHeld hClosed (fun hNext => ?_)
  rotate_left
  · (try dsimp only at hu)
    go_simp
    try with_reducible rfl
  clear hClosed
  have hClosed := hNext
  clear hNext
  try simp only [Act.put, List.getElem_toArray, List.getElem_cons_zero, List.getElem_cons_succ, List.setIfInBounds_toArray, List.set_cons_zero, List.set_cons_succ]
  refine' wpAnyE_take (i := 3) (v := _) rfl (by kernel_rfl) (by kernel_rfl) (by kernel_rfl) (by kernel_rfl) (fun _ _ _ h => h) (Or.inl ⟨by rfl, fun u hu => ?_⟩) hHeld hClosed (fun hNext => ?_)
  rotate_left
  · (try dsimp only at hu)
    go_simp
    try with_reducible rfl
  clear hClosed
  have hClosed := hNext
  clear hNext
  try simp only [Act.put, List.getElem_toArray, List.getElem_cons_zero, List.getElem_cons_succ, List.setIfInBounds_toArray, List.set_cons_zero, List.set_cons_succ]
  refine' wpAnyE_take (i := 4) (v := _) rfl (by kernel_rfl) (by kernel_rfl) (by kernel_rfl) (by kernel_rfl) (fun _ _ _ h => h) (Or.inl ⟨by rfl, fun u hu => ?_⟩) hHeld hClosed (fun hNext => ?_)
  rotate_left
  · (try dsimp only at hu)
    go_simp
    try with_reducible rfl
  clear hClosed
  have hClosed := hNext
  clear hNext
  try simp only [Act.put, List.getElem_toArray, List.getElem_cons_zero, List.getElem_cons_succ, List.setIfInBounds_toArray, List.set_cons_zero, List.set_cons_succ]
  refine' wpAnyE_take (i := 5) (v := _) rfl (by kernel_rfl) (by kernel_rfl) (by kernel_rfl) (by kernel_rfl) (fun _ _ _ h => h) (Or.inl ⟨by rfl, fun u hu => ?_⟩) hHeld hClosed (fun hNext => ?_)
  rotate_left
  · (try dsimp only at hu)
    go_simp
    try with_reducible rfl
  clear hClosed
  have hClosed := hNext
  clear hNext
  try simp only [Act.put, List.getElem_toArray, List.getElem_cons_zero, List.getElem_cons_succ, List.setIfInBounds_toArray, List.set_cons_zero, List.set_cons_succ]
  refine' wpAnyE_take (i := 6) (v := _) rfl (by kernel_rfl) (by kernel_rfl) (by kernel_rfl) (by kernel_rfl) (fun _ _ _ h => h) (Or.inl ⟨by rfl, fun u hu => ?_⟩) hHeld hClosed (fun hNext => ?_)
  rotate_left
  · (try dsimp only at hu)
    go_simp
    try with_reducible rfl
  clear hClosed
  have hClosed := hNext
  clear hNext
  try simp only [Act.put, List.getElem_toArray, List.getElem_cons_zero, List.getElem_cons_succ, List.setIfInBounds_toArray, List.set_cons_zero, List.set_cons_succ]
  refine' wpAnyE_take (i := 7) (v := _) rfl (by kernel_rfl) (by kernel_rfl) (by kernel_rfl) (by kernel_rfl) (fun _ _ _ h => h) (Or.inl ⟨by rfl, fun u hu => ?_⟩) hHeld hClosed (fun hNext => ?_)
  rotate_left
  · (try dsimp only at hu)
    go_simp
    try with_reducible rfl
  clear hClosed
  have hClosed := hNext
  clear hNext
  try simp only [Act.put, List.getElem_toArray, List.getElem_cons_zero, List.getElem_cons_succ, List.setIfInBounds_toArray, List.set_cons_zero, List.set_cons_succ]
  refine' wpAnyE_take (i := 8) (v := _) rfl (by kernel_rfl) (by kernel_rfl) (by kernel_rfl) (by kernel_rfl) (fun _ _ _ h => h) (Or.inl ⟨by rfl, fun u hu => ?_⟩) hHeld hClosed (fun hNext => ?_)
  rotate_left
  · (try dsimp only at hu)
    go_simp
    try with_reducible rfl
  clear hClosed
  have hClosed := hNext
  clear hNext
  try simp only [Act.put, List.getElem_toArray, List.getElem_cons_zero, List.getElem_cons_succ, List.setIfInBounds_toArray, List.set_cons_zero, List.set_cons_succ]
  refine' wpAnyE_take (i := 9) (v := _) rfl (by kernel_rfl) (by kernel_rfl) (by kernel_rfl) (by kernel_rfl) (fun _ _ _ h => h) (Or.inl ⟨by rfl, fun u hu => ?_⟩) hHeld hClosed (fun hNext => ?_)
  rotate_left
  · (try dsimp only at hu)
    go_simp
    try with_reducible rfl
  clear hClosed
  have hClosed := hNext
  clear hNext
  try simp only [Act.put, List.getElem_toArray, List.getElem_cons_zero, List.getElem_cons_succ, List.setIfInBounds_toArray, List.set_cons_zero, List.set_cons_succ]
  refine' wpAnyE_take (i := 10) (v := _) rfl (by kernel_rfl) (by kernel_rfl) (by kernel_rfl) (by kernel_rfl) (fun _ _ _ h => h) (Or.inl ⟨by rfl, fun u hu => ?_⟩) hHeld hClosed (fun hNext => ?_)
  rotate_left
  · (try dsimp only at hu)
    go_simp
    try with_reducible rfl
  clear hClosed
  have hClosed := hNext
  clear hNext
  try simp only [Act.put, List.getElem_toArray, List.getElem_cons_zero, List.getElem_cons_succ, List.setIfInBounds_toArray, List.set_cons_zero, List.set_cons_succ]
  refine' wpAnyE_take (i := 11) (v := _) rfl (by kernel_rfl) (by kernel_rfl) (by kernel_rfl) (by kernel_rfl) (fun _ _ _ h => h) (Or.inl ⟨by rfl, fun u hu => ?_⟩) hHeld hClosed (fun hNext => ?_)
  rotate_left
  · (try dsimp only at hu)
    go_simp
    try with_reducible rfl
  clear hClosed
  have hClosed := hNext
  clear hNext
  try simp only [Act.put, List.getElem_toArray, List.getElem_cons_zero, List.getElem_cons_succ, List.setIfInBounds_toArray, List.set_cons_zero, List.set_cons_succ]
  refine' wpAnyE_take (i := 12) (v := _) rfl (by kernel_rfl) (by kernel_rfl) (by kernel_rfl) (by kernel_rfl) (fun _ _ _ h => h) (Or.inl ⟨by rfl, fun u hu => ?_⟩) hHeld hClosed (fun hNext => ?_)
  rotate_left
  · (try dsimp only at hu)
    go_simp
    try with_reducible rfl
  clear hClosed
  have hClosed := hNext
  clear hNext
  try simp only [Act.put, List.getElem_toArray, List.getElem_cons_zero, List.getElem_cons_succ, List.setIfInBounds_toArray, List.set_cons_zero, List.set_cons_succ]
  refine' wpAnyE_take (i := 13) (v := _) rfl (by kernel_rfl) (by kernel_rfl) (by kernel_rfl) (by kernel_rfl) (fun _ _ _ h => h) (Or.inl ⟨by rfl, fun u hu => ?_⟩) hHeld hClosed (fun hNext => ?_)
  rotate_left
  · (try dsimp only at hu)
    go_simp
    try with_reducible rfl
  clear hClosed
  have hClosed := hNext
  clear hNext
  try simp only [Act.put, List.getElem_toArray, List.getElem_cons_zero, List.getElem_cons_succ, List.setIfInBounds_toArray, List.set_cons_zero, List.set_cons_succ]
  refine' wpAnyE_take (i := 14) (v := _) rfl (by kernel_rfl) (by kernel_rfl) (by kernel_rfl) (by kernel_rfl) (fun _ _ _ h => h) (Or.inl ⟨by rfl, fun u hu => ?_⟩) hHeld hClosed (fun hNext => ?_)
  rotate_left
  · (try dsimp only at hu)
    go_simp
    try with_reducible rfl
  clear hClosed
  have hClosed := hNext
  clear hNext
  try simp only [Act.put, List.getElem_toArray, List.getElem_cons_zero, List.getElem_cons_succ, List.setIfInBounds_toArray, List.set_cons_zero, List.set_cons_succ]
  refine' wpAnyE_take (i := 15) (v := _) rfl (by kernel_rfl) (by kernel_rfl) (by kernel_rfl) (by kernel_rfl) (fun _ _ _ h => h) (Or.inl ⟨by rfl, fun u hu => ?_⟩) hHeld hClosed (fun hNext => ?_)
  rotate_left
  · (try dsimp only at hu)
    go_simp
    try with_reducible rfl
  clear hClosed
  have hClosed := hNext
  clear hNext
  try simp only [Act.put, List.getElem_toArray, List.getElem_cons_zero, List.getElem_cons_succ, List.setIfInBounds_toArray, List.set_cons_zero, List.set_cons_succ]
  refine wpAnyE_done (by kernel_rfl) ?_ _
  clear hClosed
  have HR1 := Lib.hid hrem1
  have HR2 := Lib.hid hrem2
  clear hHeld hw01 hw02 hnz hnz2
  have BD : Hid (Below w0.heap.size w0 w1.drew) := Lib.hid (by exact below_same B1.out rfl rfl rfl rfl)
  have HD := Lib.hid (Lies.up H1.out (show Below w1.heap.size w1 w1.drew by exact below_same (Below.refl _ _) rfl rfl rfl rfl))
  obtain ⟨wd, hwd⟩ : ∃ u, w1.drew = u := ⟨_, rfl⟩
  rw [hwd] at BD HD ⊢
  clear hwd
  go_upto_region 6 with fail
  go_cut [7] (fun v wx => v = .int .i64 (k : Int) ∧ wd = wx)
  case first =>
    go_wp2_with fail
    all_goals
      go_meet
      refine ⟨?_, rfl⟩
      have := HK.out
      congr 1
      omega
  case rest =>
    obtain ⟨rfl, rfl⟩ := hcut
    clear hrem1 hrem2
    go_wp2_with fail
    refine (bsides_any A l c 0 (k : Int) wd HD.out hl' (by decide) (by omega)).mono ?_
    rintro e w2 ⟨rfl, b2⟩
    rw [S1.out.1, S1.out.2]
    have H2 := Lib.hid (HD.out.up b2)
    have B2 := Lib.hid (below_then BD.out b2)
    clear b2
    go_wp2_with fail
    refine (bsides_any A l c (k : Int) (l.length : Int) w2 H2.out hl' (by omega) (by omega)).mono ?_
    rintro e w3 ⟨rfl, b3⟩
    rw [S2.out.1, S2.out.2]
    have H3 := Lib.hid (H2.out.up b3)
    have B3 := Lib.hid (below_then B2.out b3)
    clear b3
    go_wp2_with fail
    refine (bsides_any A l c (-5) ((l.length : Int) + 5) w3 H3.out hl' (by decide) (by omega)).mono ?_
    rintro e w4 ⟨rfl, b4⟩
    rw [S3.out.1, S3.out.2]
    have H4 := Lib.hid (H3.out.up b4)
    have B4 := Lib.hid (below_then B3.out b4)
    clear b4 hw1 hw5
    go_wp2_with fail
    go_loopw [14] (fun iv wr => ∃ i : Nat, i ≤ l.length ∧ iv = .int .i64 i ∧ Below w4.heap.size w4 wr) (fun iv _ => l.length - (intOf iv).toNat)
    case atStart => exact ⟨0, by omega, rfl, Below.refl _ _⟩
    case round =>
      obtain ⟨i, hi, rfl, hb⟩ := hrel
      have HB := Lib.hid hb
      clear hb
      by_cases hlt : i < l.length
      · obtain ⟨pp, hpp, _, hcx⟩ := (H4.out.up HB.out).int hlt
        subst hpp
        obtain ⟨x, hx⟩ : ∃ x, l[i] = x := ⟨_, rfl⟩
        rw [hx] at hcx
        have HO := Lib.hid (ONE.out i hlt)
        obtain ⟨sx, hsx⟩ : ∃ z, sdB x = z := ⟨_, rfl⟩
        rw [hx, hsx] at HO
        have HSX := Lib.hid hsx
        have hrg := sdB_range x
        rw [hsx] at hrg
        have hwi : IntKind.i64.wrap ((i : Int) + 1) = (i : Int) + 1 := IntWalk.i64_in _ (by omega)
        have c0 : (0 : Int) ≤ (i : Int) := by omega
        have c1 : (i : Int) < (l.length : Int) := by omega
        have HCX : Hid (∀ u, Below wr.heap.size wr u → u.cell? (pp.add i) = some (.int .i64 x)) := Lib.hid fun u hu => by rw [hu.cell (World.block_lt_of_cell? wr _ hcx)]; exact hcx
        clear hx hsx hcx
        go_wp2_with fail
        refine (bsides_any _ l c (i : Int) ((i : Int) + 1) wr (H4.out.up HB.out) hl' (by omega) (by omega)).mono ?_
        rintro e w5 ⟨rfl, b5⟩
        rw [HO.out.1, HO.out.2]
        have D5 := Lib.hid b5
        have hcx5 := HCX.out w5 b5
        clear b5
        go_wp2_with fail
        clear hcx5
        refine (bside_any x w5).mono ?_
        rintro e w6 ⟨rfl, b6⟩
        rw [HSX.out]
        have B6 := Lib.hid (below_then HB.out (below_then D5.out b6))
        clear b6
        rcases hrg with rfl | rfl | rfl
        · go_wp2_with fail
          go_roundw
          case rel => exact ⟨i + 1, by omega, by go_num, B6.out⟩
          case measure => simp [intOf]; omega
        · go_wp2_with fail
          go_roundw
          case rel => exact ⟨i + 1, by omega, by go_num, B6.out⟩
          case measure => simp [intOf]; omega
        · go_wp2_with fail
          go_roundw
          case rel => exact ⟨i + 1, by omega, by go_num, B6.out⟩
          case measure => simp [intOf]; omega
      · obtain rfl : i = l.length := by omega
        rcases p with _ | _ <;> rcases p' with _ | _ <;> rcases r with _ | _ <;> rcases r' with _ | _
        all_goals
          go_wp2_with fail
          go_ret
          exact ⟨rfl, B0.out.trans ((below_then B4.out HB.out).mono B0.out.size)⟩

set_option maxHeartbeats 1000000 in
theorem walk_long (w : World) (A : Option Addr) (l : List Int) (c : Nat) (hl : l.length ≤ 9223372036854775807) (hh : 300 < l.length) (x y : Int) :
    Calls Try.prog 7 #[.slice A l.length c, .agg #[.int .u16 x, .int .u16 y]] w fun e w' => e = .returned (.bool true) ∧ Below w.heap.size w w' := by
  have B0 : Hid (Below w.heap.size w (w.alloc (.cells #[.int .u16 x, .int .u16 y] 44))) := Lib.hid (below_alloc w _)
  go_enter Try.func7, Try.ntmps7
  go_wp2_with fail
  refine (balive_any _).mono ?_
  rintro e w1 ⟨rfl, b1⟩
  have B1 := Lib.hid b1
  have D1 := Lib.hid b1
  clear b1
  go_wp2
  go_ret
  exact ⟨rfl, below_then B0.out B1.out⟩

theorem walk (w : World) (A : Option Addr) (l : List Int) (c : Nat) (hc : l.length ≤ c) (hm : c ≤ maxLen) (h : Lies w w.heap.size A (ints .i64 l)) (_ : ∀ n ∈ l, (Lit.int .i64 n).wf = true)
    (x y : Int) (hx : (Lit.int .u16 x).wf = true) (hy : (Lit.int .u16 y).wf = true) :
    Calls Try.prog 7 #[.slice A l.length c, .agg #[.int .u16 x, .int .u16 y]] w fun e w' => e = .returned (.bool true) ∧ Below w.heap.size w w' := by
  unfold maxLen at hm
  have hbx := bounds_u16 hx
  have hby := bounds_u16 hy
  obtain ⟨z1, rfl⟩ : ∃ z : Nat, x = z := ⟨x.toNat, by omega⟩
  obtain ⟨z2, rfl⟩ : ∃ z : Nat, y = z := ⟨y.toNat, by omega⟩
  by_cases hh : 300 < l.length
  · exact walk_long w A l c (by omega) hh _ _
  · exact walk_ok w A l c (by omega) h z1 z2 (by omega) (by omega)
-- WRAP
theorem spec : LawSpec Rows.brackSidesSpec 2 := ⟨rfl, fun H ds h => by
  match ds, h with
  | [d0, d1], _ => rfl⟩
theorem params_ok : ∀ t ∈ Try.f7.params.toList, Try.prog.readableRec t = true ∧ t < Try.prog.types.size := by
  rw [Try.params7]
  intro t ht
  simp only [List.mem_cons, List.mem_nil_iff, or_false] at ht
  rcases ht with rfl | rfl
  all_goals exact ⟨by kernel_rfl, of_decide_eq_true (by kernel_rfl)⟩

theorem contract (H : Type) (enc : TypeId × Value → H) (W : World) (base : Nat) (args : Array Value) (ds gs : List (DataW H)) (before : List MemPlace)
    (hval : ∀ (j : Nat) t v, Try.f7.params[j]? = some t → args[j]? = some v → Value.okWide Try.prog W .any base t v)
    (hW : DataW.Whole enc Try.prog Try.f7.params.toList Rows.brackSidesSpec.vars false W args.toList ds gs before) :
    Calls Try.prog 7 args W fun e W' => ∃ v, e = .returned v ∧ Rows.brackSidesSpec.post enc Try.prog Try.f7 false true false false W args v W' := by
  have hW' := hW
  obtain ⟨p, q, hA0, hV, rfl, hfz, hnd⟩ := hW
  have hA : DataW.TrodAll enc Try.prog W 0 (fun _ => true) true Try.f7.params.toList args.toList ds p := hA0
  rw [Try.params7] at hA hval
  obtain ⟨v0, vs0, d0, ds0, p0, q0, hargs, rfl, rfl, h0, r0⟩ := trodAll_cons hA
  obtain ⟨v1, vs1, d1, ds1, p1, q1, rfl, rfl, rfl, h1, r1⟩ := trodAll_cons r0
  obtain ⟨rfl, rfl, rfl⟩ := trodAll_nil r1
  obtain rfl : args = #[v0, v1] := by cases args; simp_all
  obtain ⟨A0, l0, c0, rfl, hc0, hm0, hl0, wf0⟩ := open_list Try.underlying22 Try.underlying3 (by kernel_rfl) (hval 0 22 v0 rfl rfl) h0
  obtain ⟨n1, rfl, hn1, wf1⟩ := open_nums Try.underlying44 Try.underlying43 (by kernel_rfl) (by kernel_rfl) (hval 1 44 v1 rfl rfl) h1
  rcases n1 with _ | ⟨x1_0, n1⟩
  · simp at hn1
  rcases n1 with _ | ⟨x1_1, n1⟩
  · simp at hn1
  obtain rfl : n1 = [] := List.eq_nil_of_length_eq_zero (by simpa using hn1)
  exact (walk W A0 l0 c0 hc0 hm0 hl0 wf0 x1_0 x1_1 (wf1 _ (by simp)) (wf1 _ (by simp))).mono fun e W' ⟨he, hg⟩ => ⟨_, he, law_post spec (by rw [Try.params7]; rfl) (by kernel_rfl) params_ok (by kernel_rfl) Try.underlying4 hW' hg⟩

theorem own : ownKnob Try.prog.godebug = none := by kernel_rfl
set_option maxRecDepth 100000 in
theorem lifted (os : Os) (started : os.Started) (H : Type) (enc : TypeId × Value → H) :
    ReturnsInHanded {} Try.checked os 7 .any (Rows.brackSidesSpec.pre6 enc Try.prog Try.f7 Rows.brackSidesRow.domain false) (Rows.brackSidesSpec.post enc Try.prog Try.f7 false true false false) := by
  refine returnsInHanded_of_change (C := Try.checked) own started (by kernel_rfl) Try.func7
    (ChangeSpec.witness6 (enc := enc) (C := Try.checked) false ⟨#[], #[.slice none 0 0, .agg #[.int .u16 0, .int .u16 0]], []⟩ 8 (by kernel_rfl) (by kernel_rfl) (by kernel_rfl) (by kernel_rfl)) ?_
  intro W base args ds gs before hval hW _ _
  exact contract H enc W base args ds gs before hval hW
theorem said : Rows.BrackSidesSaid :=
  OpenClaim.holds_of_wide 7 Try.f7 rfl rfl rfl rfl rfl rfl rfl ⟨rfl, rfl, rfl, rfl, rfl⟩ rfl rfl rfl rfl rfl (by kernel_rfl) Try.func7 (by kernel_rfl)
    (of_decide_eq_true (by kernel_rfl)) (by unfold Func.isWrapper; first | (rw [if_pos (by decide +kernel)]; kernel_rfl) | (rw [if_neg (by decide +kernel)]; exact ⟨rfl, rfl⟩))
    (fun os started H enc _ => lifted os started H enc)
end Go.Proofs.Ytoiolgpbecgfkaa.lawSides
