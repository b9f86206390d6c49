/- BrackPairs: for every two lists of numbers, pairs are brackets that belong together, within one another, or apart. Conditions: none. -/
import Derived.Test.YtoiolgpbecgfkaaBrV
import Derived.Test.YtoiolgpbecgfkaaLaw
import Derived.Deep.DeepCutAuto
import Derived.Test.YtoiolgpbecgfkaaRows
namespace Go.Proofs.Ytoiolgpbecgfkaa.lawPairs
open Go.ChangeShapes Go.WideShapes Go.ChangeAt Go.RowKit

set_option maxRecDepth 20000 in
set_option maxHeartbeats 8000000 in
theorem walk_ok (w : World) (A : Option Addr) (chars : List Int) (c : Nat) (hl : chars.length ≤ 300) (h : Lies w w.heap.size A (ints .i64 chars)) (A' : Option Addr) (classes : List Int) (c' : Nat) (hl' : classes.length ≤ 300) (h' : Lies w w.heap.size A' (ints .i64 classes)) :
    Calls Try.prog 5 #[.slice A chars.length c, .slice A' classes.length c'] w fun e w' => e = .returned (.bool true) ∧ Below w.heap.size w w' := by
  have H := Lib.hid h
  have H' := Lib.hid h'
  obtain ⟨P, hP⟩ : ∃ P, pairsI chars classes = P := ⟨_, rfl⟩
  have HPV : Hid (∀ p ∈ P, chars.length = classes.length ∧ ∃ a b : Nat, p = ((a : Int), (b : Int)) ∧ a < b ∧ b < chars.length ∧ cAt classes a = 13 ∧ cAt classes b = 13 ∧ (oth (cAt chars a)).2.1 = true ∧ (oth (cAt chars a)).2.2 = true ∧ sameB (oth (cAt chars a)).1 (cAt chars b) = true) := Lib.hid (fun p hp => by
    by_cases he : chars.length = classes.length
    · rw [← hP, pairsI, if_pos he] at hp
      exact ⟨he, (pinv chars classes chars.length).each p hp⟩
    · rw [← hP, pairsI, if_neg he] at hp; cases hp)
  have HPO : Hid (P.Pairwise Beside) := Lib.hid (by
    by_cases he : chars.length = classes.length
    · rw [← hP, pairsI, if_pos he]; exact (pinv chars classes chars.length).order
    · rw [← hP, pairsI, if_neg he]; exact List.Pairwise.nil)
  have HPL : Hid (P.length ≤ 300) := Lib.hid (by
    rw [← hP, pairsI]
    split
    · exact Nat.le_trans (pairs_le chars classes chars.length).1 hl
    · simp)
  have HP := Lib.hid hP
  have hP3 : P.length ≤ 300 := HPL.out
  clear h h' hP HPL
  go_enter Try.func5, Try.ntmps5
  go_wp2_with fail
  refine (balive_any w).mono ?_
  rintro e w1 ⟨rfl, b1⟩
  have B1 := Lib.hid b1
  have D1 := Lib.hid b1
  clear b1
  have H1 := Lib.hid (H.out.up B1.out)
  have H1' := Lib.hid (H'.out.up B1.out)
  go_wp2_with fail
  refine (bpairs_any A chars c A' classes c' w1 H1.out H1'.out (by omega) (by omega)).mono ?_
  rintro e w2 ⟨A2, c2, rfl, l2, b2⟩
  rw [HP.out] at l2 ⊢
  have B2 := Lib.hid (below_then B1.out b2)
  have L2 := Lib.hid l2
  have H2 := Lib.hid (H1.out.up b2)
  have H2' := Lib.hid (H1'.out.up b2)
  clear l2 b2
  go_wp2_with fail
  go_loopw [6] (fun iv wr => ∃ i : Nat, i ≤ P.length ∧ iv = .int .i64 i ∧ Below w2.heap.size w2 wr) (fun iv _ => P.length - (intOf iv).toNat)
  case atStart => exact ⟨0, by omega, rfl, Below.refl _ _⟩
  case round =>
    obtain ⟨i, hi, rfl, hb⟩ := hrel
    have HB := Lib.hid hb
    clear hb
    by_cases hlt : i < P.length
    · obtain ⟨hcc, a, b, hab, ha, hbc, k1, k2, o1, o2, o3⟩ := HPV.out _ (List.getElem_mem hlt)
      obtain ⟨g, off, hA2, hg, p0, p1⟩ := prC_at (L2.out.up HB.out) hlt
      have hA2r := hA2
      subst hA2
      rw [hab] at p0 p1
      have hk1 : wr.drew.cell? ⟨g, off + i * 2, none⟩ = some (.int .i64 a) ∧ wr.drew.cell? ⟨g, off + i * 2 + 1, none⟩ = some (.int .i64 b) := ⟨p0, p1⟩
      have n0 : (0 : Int) ≤ (i : Int) := by omega
      have n1 : (i : Int) < (P.length : Int) := by omega
      have HAB := Lib.hid hab
      have HAL := Lib.hid ha
      clear p0 p1 hA2r hab
      go_wp2_with fail
      refine wp_region_E (S := fun w' => w'.cell? ⟨g, off + i * 2, none⟩ = some (.int .i64 a) ∧ w'.cell? ⟨g, off + i * 2 + 1, none⟩ = some (.int .i64 b)) [] (by kernel_rfl) (hk1) (fun hHeld hClosed => ?_)
      refine' wpAnyE_take (i := 0) (v := _) rfl (by kernel_rfl) (by kernel_rfl) (by kernel_rfl) (by kernel_rfl) (fun _ _ _ h => h) (Or.inl ⟨by rfl, fun u hu => ?_⟩) hHeld hClosed (fun hNext => ?_)
      rotate_left
      · (try dsimp only at hu)
        go_simp
        try with_reducible rfl
      clear hClosed
      have hClosed := hNext
      clear hNext
      try simp only [Act.put, List.getElem_toArray, List.getElem_cons_zero, List.setIfInBounds_toArray, List.set_cons_zero, List.set_cons_succ]
      refine' wpAnyE_take (i := 1) (v := _) rfl (by kernel_rfl) (by kernel_rfl) (by kernel_rfl) (by kernel_rfl) (fun _ _ _ h => h) (Or.inl ⟨by rfl, fun u hu => ?_⟩) hHeld hClosed (fun hNext => ?_)
      rotate_left
      · (try dsimp only at hu)
        go_simp
        try with_reducible rfl
      clear hClosed
      have hClosed := hNext
      clear hNext
      try simp only [Act.put, List.getElem_toArray, List.getElem_cons_zero, List.getElem_cons_succ, List.setIfInBounds_toArray, List.set_cons_zero, List.set_cons_succ]
      refine' wpAnyE_take (i := 2) (v := _) rfl (by kernel_rfl) (by kernel_rfl) (by kernel_rfl) (by kernel_rfl) (fun _ _ _ h => h) (Or.inl ⟨by rfl, fun u hu => ?_⟩) hHeld hClosed (fun hNext => ?_)
      rotate_left
      · (try dsimp only at hu)
        go_simp
        try with_reducible rfl
      clear hClosed
      have hClosed := hNext
      clear hNext
      try simp only [Act.put, List.getElem_toArray, List.getElem_cons_zero, List.getElem_cons_succ, List.setIfInBounds_toArray, List.set_cons_zero, List.set_cons_succ]
      refine' wpAnyE_take (i := 3) (v := _) rfl (by kernel_rfl) (by kernel_rfl) (by kernel_rfl) (by kernel_rfl) (fun _ _ _ h => h) (Or.inl ⟨by rfl, fun u hu => ?_⟩) hHeld hClosed (fun hNext => ?_)
      rotate_left
      · (try dsimp only at hu)
        go_simp
        try with_reducible rfl
      clear hClosed
      have hClosed := hNext
      clear hNext
      try simp only [Act.put, List.getElem_toArray, List.getElem_cons_zero, List.getElem_cons_succ, List.setIfInBounds_toArray, List.set_cons_zero, List.set_cons_succ]
      refine' wpAnyE_take (i := 4) (v := _) rfl (by kernel_rfl) (by kernel_rfl) (by kernel_rfl) (by kernel_rfl) (fun _ _ _ h => h) (Or.inl ⟨by rfl, fun u hu => ?_⟩) hHeld hClosed (fun hNext => ?_)
      rotate_left
      · (try dsimp only at hu)
        go_simp
        try with_reducible rfl
      clear hClosed
      have hClosed := hNext
      clear hNext
      try simp only [Act.put, List.getElem_toArray, List.getElem_cons_zero, List.getElem_cons_succ, List.setIfInBounds_toArray, List.set_cons_zero, List.set_cons_succ]
      refine' wpAnyE_take (i := 5) (v := _) rfl (by kernel_rfl) (by kernel_rfl) (by kernel_rfl) (by kernel_rfl) (fun _ _ _ h => h) (Or.inl ⟨by rfl, fun u hu => ?_⟩) hHeld hClosed (fun hNext => ?_)
      rotate_left
      · (try dsimp only at hu)
        go_simp
        try with_reducible rfl
      clear hClosed
      have hClosed := hNext
      clear hNext
      try simp only [Act.put, List.getElem_toArray, List.getElem_cons_zero, List.getElem_cons_succ, List.setIfInBounds_toArray, List.set_cons_zero, List.set_cons_succ]
      refine' wpAnyE_take (i := 6) (v := _) rfl (by kernel_rfl) (by kernel_rfl) (by kernel_rfl) (by kernel_rfl) (fun _ _ _ h => h) (Or.inl ⟨by rfl, fun u hu => ?_⟩) hHeld hClosed (fun hNext => ?_)
      rotate_left
      · (try dsimp only at hu)
        go_simp
        try with_reducible rfl
      clear hClosed
      have hClosed := hNext
      clear hNext
      try simp only [Act.put, List.getElem_toArray, List.getElem_cons_zero, List.getElem_cons_succ, List.setIfInBounds_toArray, List.set_cons_zero, List.set_cons_succ]
      refine' wpAnyE_take (i := 7) (v := _) rfl (by kernel_rfl) (by kernel_rfl) (by kernel_rfl) (by kernel_rfl) (fun _ _ _ h => h) (Or.inl ⟨by rfl, fun u hu => ?_⟩) hHeld hClosed (fun hNext => ?_)
      rotate_left
      · (try dsimp only at hu)
        go_simp
        try with_reducible rfl
      clear hClosed
      have hClosed := hNext
      clear hNext
      try simp only [Act.put, List.getElem_toArray, List.getElem_cons_zero, List.getElem_cons_succ, List.setIfInBounds_toArray, List.set_cons_zero, List.set_cons_succ]
      refine' wpAnyE_take (i := 8) (v := _) rfl (by kernel_rfl) (by kernel_rfl) (by kernel_rfl) (by kernel_rfl) (fun _ _ _ h => h) (Or.inl ⟨by rfl, fun u hu => ?_⟩) hHeld hClosed (fun hNext => ?_)
      rotate_left
      · (try dsimp only at hu)
        go_simp
        try with_reducible rfl
      clear hClosed
      have hClosed := hNext
      clear hNext
      try simp only [Act.put, List.getElem_toArray, List.getElem_cons_zero, List.getElem_cons_succ, List.setIfInBounds_toArray, List.set_cons_zero, List.set_cons_succ]
      refine' wpAnyE_take (i := 9) (v := _) rfl (by kernel_rfl) (by kernel_rfl) (by kernel_rfl) (by kernel_rfl) (fun _ _ _ h => h) (Or.inl ⟨by rfl, fun u hu => ?_⟩) hHeld hClosed (fun hNext => ?_)
      rotate_left
      · (try dsimp only at hu)
        go_simp
        try with_reducible rfl
      clear hClosed
      have hClosed := hNext
      clear hNext
      try simp only [Act.put, List.getElem_toArray, List.getElem_cons_zero, List.getElem_cons_succ, List.setIfInBounds_toArray, List.set_cons_zero, List.set_cons_succ]
      refine' wpAnyE_take (i := 10) (v := _) rfl (by kernel_rfl) (by kernel_rfl) (by kernel_rfl) (by kernel_rfl) (fun _ _ _ h => h) (Or.inl ⟨by rfl, fun u hu => ?_⟩) hHeld hClosed (fun hNext => ?_)
      rotate_left
      · (try dsimp only at hu)
        go_simp
        try with_reducible rfl
      clear hClosed
      have hClosed := hNext
      clear hNext
      try simp only [Act.put, List.getElem_toArray, List.getElem_cons_zero, List.getElem_cons_succ, List.setIfInBounds_toArray, List.set_cons_zero, List.set_cons_succ]
      refine' wpAnyE_take (i := 11) (v := _) rfl (by kernel_rfl) (by kernel_rfl) (by kernel_rfl) (by kernel_rfl) (fun _ _ _ h => h) (Or.inl ⟨by rfl, fun u hu => ?_⟩) hHeld hClosed (fun hNext => ?_)
      rotate_left
      · (try dsimp only at hu)
        go_simp
        try with_reducible rfl
      clear hClosed
      have hClosed := hNext
      clear hNext
      try simp only [Act.put, List.getElem_toArray, List.getElem_cons_zero, List.getElem_cons_succ, List.setIfInBounds_toArray, List.set_cons_zero, List.set_cons_succ]
      refine wpAnyE_done (by kernel_rfl) ?_ _
      clear hClosed
      clear hk1 hHeld
      have BD : Hid (Below w2.heap.size w2 wr.drew) := Lib.hid (by exact below_same HB.out rfl rfl rfl rfl)
      obtain ⟨wd, hwd⟩ : ∃ u, wr.drew = u := ⟨_, rfl⟩
      rw [hwd] at BD ⊢
      clear hwd
      obtain ⟨pc, hpc, _, hca⟩ := (H2.out.up BD.out).int (show a < chars.length by omega)
      obtain ⟨pc', hpc', _, hcb⟩ := (H2.out.up BD.out).int hbc
      injection hpc'.symm.trans hpc with hpe
      subst hpc
      subst hpe
      clear hpc'
      obtain ⟨pk, hpk, _, hka⟩ := (H2'.out.up BD.out).int (show a < classes.length by omega)
      obtain ⟨pk', hpk', _, hkb⟩ := (H2'.out.up BD.out).int (show b < classes.length by omega)
      injection hpk'.symm.trans hpk with hpe
      subst hpk
      subst hpe
      clear hpk'
      obtain ⟨x, hx⟩ : ∃ x, chars[a]'(by omega) = x := ⟨_, rfl⟩
      obtain ⟨y, hy⟩ : ∃ x, chars[b] = x := ⟨_, rfl⟩
      rw [show cAt chars a = x by simp [cAt, show a < chars.length by omega, hx]] at o1 o2 o3
      rw [show cAt chars b = y by simp [cAt, hbc, hy]] at o3
      rw [hx] at hca
      rw [hy] at hcb
      rw [show classes[a]'(by omega) = 13 by simpa [cAt, show a < classes.length by omega] using k1] at hka
      rw [show classes[b]'(by omega) = 13 by simpa [cAt, show b < classes.length by omega] using k2] at hkb
      have m0 : decide ((a : Int) < 0) = false := by simp
      have m1 : decide ((b : Int) ≤ (a : Int)) = false := by simp; omega
      have m1' : decide (b ≤ a) = false := by simp; omega
      have m2 : decide ((chars.length : Int) ≤ (b : Int)) = false := by simp; omega
      have m2' : decide (chars.length ≤ b) = false := by simp; omega
      have m3 : decide ((classes.length : Int) ≤ (b : Int)) = false := by simp; omega
      have m3' : decide (classes.length ≤ b) = false := by simp; omega
      have q0 : (0 : Int) ≤ (a : Int) := by omega
      have q1 : (a : Int) < (classes.length : Int) := by omega
      have q2 : (0 : Int) ≤ (b : Int) := by omega
      have q3 : (b : Int) < (classes.length : Int) := by omega
      have q4 : (a : Int) < (chars.length : Int) := by omega
      have q5 : (b : Int) < (chars.length : Int) := by omega
      have HCB : Hid (∀ u, Below wd.heap.size wd u → u.cell? (pc'.add b) = some (.int .i64 y)) := Lib.hid fun u hu => by
        rw [hu.cell (World.block_lt_of_cell? wd _ hcb)]; exact hcb
      have O1 := Lib.hid o1
      have O2 := Lib.hid o2
      have O3 := Lib.hid o3
      have HCC := Lib.hid hcc
      clear hx hy k1 k2 o1 o2 o3 hcc hcb
      go_wp2_with fail
      clear m0 m1 m1' m2 m2' m3 m3' hka hkb hca
      refine (rother_any x wd).mono ?_
      rintro e w3 ⟨rfl, b3⟩
      rw [O1.out, O2.out]
      have D3 := Lib.hid b3
      have hcb3 := HCB.out w3 b3
      obtain ⟨ox, hox⟩ : ∃ z, (oth x).1 = z := ⟨_, rfl⟩
      rw [hox] at O3 ⊢
      clear b3 hox
      go_wp2_with fail
      clear hcb3
      refine (rsame_any ox y w3).mono ?_
      rintro e w4 ⟨rfl, b4⟩
      rw [sameB_both, O3.out]
      have B4 := Lib.hid (BD.out.trans ((below_then D3.out b4).mono BD.out.size))
      clear b4
      go_wp2_with fail
      rename World => wz
      go_loopw [12] (fun kv wr => ∃ k : Nat, k ≤ i ∧ kv = .int .i64 k ∧ wz = wr) (fun kv _ => i - (intOf kv).toNat)
      case atStart => exact ⟨0, by omega, rfl, rfl⟩
      case round =>
        obtain ⟨k, hk, rfl, rfl⟩ := hrel
        by_cases hki : k < i
        · have hkP : k < P.length := by omega
          obtain ⟨g', off', hA3, _, z0, z1⟩ := prC_at (L2.out.up B4.out) hkP
          injection hA3 with hA3
          injection hA3 with e1 e2 _
          subst e1 e2
          have hbe := List.pairwise_iff_getElem.1 HPO.out k i hkP hlt hki
          rw [HAB.out] at hbe
          obtain ⟨u, v, huv⟩ : ∃ u v : Int, P[k] = (u, v) := ⟨_, _, rfl⟩
          rw [huv] at hbe z0 z1
          obtain ⟨f1, f2, f3, f4⟩ := hbe
          simp only at f1 f2 f3 f4 z0 z1
          have r0 : decide ((a : Int) ≤ u) = false := by simp; omega
          have r1 : (v == (a : Int)) = false := by simpa using f3
          have r2 : (v == (b : Int)) = false := by simpa using f4
          have t0 : (0 : Int) ≤ (k : Int) := by omega
          have t1 : (k : Int) < (P.length : Int) := by omega
          have t2 : (k : Int) < (i : Int) := by omega
          rcases hva : decide ((a : Int) < v) with _ | _
          · clear f1 f2 f3 f4 huv
            go_wp2_with fail
            go_roundw
            case rel => exact ⟨k + 1, by omega, by go_num, by first | rfl | trivial⟩
            case measure => simp [intOf]; omega
          · have r3 : decide (v < (b : Int)) = false := by
              have : (a : Int) < v := by simpa using hva
              simp; omega
            clear f1 f2 f3 f4 huv
            go_wp2_with fail
            go_roundw
            case rel => exact ⟨k + 1, by omega, by go_num, by first | rfl | trivial⟩
            case measure => simp [intOf]; omega
        · have hke : ¬ (k : Int) < (i : Int) := by omega
          go_wp2_with fail
          go_roundw
          case rel => exact ⟨i + 1, by omega, by go_num, B4.out⟩
          case measure => simp [intOf]; omega
    · obtain rfl : i = P.length := by omega
      go_wp2_with fail
      go_ret
      exact ⟨rfl, below_then B2.out HB.out⟩

set_option maxHeartbeats 1000000 in
theorem walk_long (w : World) (A : Option Addr) (n : Nat) (c : Nat) (A' : Option Addr) (m c' : Nat) (hl : n ≤ 9223372036854775807) (hl' : m ≤ 9223372036854775807) (hh : 300 < n ∨ 300 < m) :
    Calls Try.prog 5 #[.slice A n c, .slice A' m c'] w fun e w' => e = .returned (.bool true) ∧ Below w.heap.size w w' := by
  by_cases h1 : 300 < n
  · clear hh
    go_enter Try.func5, Try.ntmps5
    go_wp2_with fail
    refine (balive_any w).mono ?_
    rintro e w1 ⟨rfl, b1⟩
    have B1 := Lib.hid b1
    have D1 := Lib.hid b1
    clear b1
    go_wp2
    go_ret
    exact ⟨rfl, B1.out⟩
  · have h2 : 300 < m := by omega
    clear hh
    go_enter Try.func5, Try.ntmps5
    go_wp2_with fail
    refine (balive_any w).mono ?_
    rintro e w1 ⟨rfl, b1⟩
    have B1 := Lib.hid b1
    have D1 := Lib.hid b1
    clear b1
    go_wp2
    go_ret
    exact ⟨rfl, B1.out⟩

theorem walk (w : World) (A : Option Addr) (l : List Int) (c : Nat) (hc : l.length ≤ c) (hm : c ≤ maxLen) (h : Lies w w.heap.size A (ints .i64 l)) (_ : ∀ n ∈ l, (Lit.int .i64 n).wf = true)
    (A' : Option Addr) (m : List Int) (c' : Nat) (hc' : m.length ≤ c') (hm' : c' ≤ maxLen) (h' : Lies w w.heap.size A' (ints .i64 m)) (_ : ∀ n ∈ m, (Lit.int .i64 n).wf = true) :
    Calls Try.prog 5 #[.slice A l.length c, .slice A' m.length c'] w fun e w' => e = .returned (.bool true) ∧ Below w.heap.size w w' := by
  unfold maxLen at hm hm'
  by_cases hh : 300 < l.length ∨ 300 < m.length
  · exact walk_long w A _ c A' _ c' (by omega) (by omega) hh
  · exact walk_ok w A l c (by omega) h A' m c' (by omega) h'
-- WRAP
theorem spec : LawSpec Rows.brackPairsSpec 2 := ⟨rfl, fun H ds h => by
  match ds, h with
  | [d0, d1], _ => rfl⟩
theorem params_ok : ∀ t ∈ Try.f5.params.toList, Try.prog.readableRec t = true ∧ t < Try.prog.types.size := by
  rw [Try.params5]
  intro t ht
  simp only [List.mem_cons, List.mem_nil_iff, or_false] at ht
  rcases ht with rfl | rfl
  all_goals exact ⟨by kernel_rfl, of_decide_eq_true (by kernel_rfl)⟩

theorem contract (H : Type) (enc : TypeId × Value → H) (W : World) (base : Nat) (args : Array Value) (ds gs : List (DataW H)) (before : List MemPlace)
    (hval : ∀ (j : Nat) t v, Try.f5.params[j]? = some t → args[j]? = some v → Value.okWide Try.prog W .any base t v)
    (hW : DataW.Whole enc Try.prog Try.f5.params.toList Rows.brackPairsSpec.vars false W args.toList ds gs before) :
    Calls Try.prog 5 args W fun e W' => ∃ v, e = .returned v ∧ Rows.brackPairsSpec.post enc Try.prog Try.f5 false true false false W args v W' := by
  have hW' := hW
  obtain ⟨p, q, hA0, hV, rfl, hfz, hnd⟩ := hW
  have hA : DataW.TrodAll enc Try.prog W 0 (fun _ => true) true Try.f5.params.toList args.toList ds p := hA0
  rw [Try.params5] at hA hval
  obtain ⟨v0, vs0, d0, ds0, p0, q0, hargs, rfl, rfl, h0, r0⟩ := trodAll_cons hA
  obtain ⟨v1, vs1, d1, ds1, p1, q1, rfl, rfl, rfl, h1, r1⟩ := trodAll_cons r0
  obtain ⟨rfl, rfl, rfl⟩ := trodAll_nil r1
  obtain rfl : args = #[v0, v1] := by cases args; simp_all
  obtain ⟨A0, l0, c0, rfl, hc0, hm0, hl0, wf0⟩ := open_list Try.underlying22 Try.underlying3 (by kernel_rfl) (hval 0 22 v0 rfl rfl) h0
  obtain ⟨A1, l1, c1, rfl, hc1, hm1, hl1, wf1⟩ := open_list Try.underlying22 Try.underlying3 (by kernel_rfl) (hval 1 22 v1 rfl rfl) h1
  exact (walk W A0 l0 c0 hc0 hm0 hl0 wf0 A1 l1 c1 hc1 hm1 hl1 wf1).mono fun e W' ⟨he, hg⟩ => ⟨_, he, law_post spec (by rw [Try.params5]; rfl) (by kernel_rfl) params_ok (by kernel_rfl) Try.underlying4 hW' hg⟩

theorem own : ownKnob Try.prog.godebug = none := by kernel_rfl
set_option maxRecDepth 100000 in
theorem lifted (os : Os) (started : os.Started) (H : Type) (enc : TypeId × Value → H) :
    ReturnsInHanded {} Try.checked os 5 .any (Rows.brackPairsSpec.pre6 enc Try.prog Try.f5 Rows.brackPairsRow.domain false) (Rows.brackPairsSpec.post enc Try.prog Try.f5 false true false false) := by
  refine returnsInHanded_of_change (C := Try.checked) own started (by kernel_rfl) Try.func5
    (ChangeSpec.witness6 (enc := enc) (C := Try.checked) false ⟨#[], #[.slice none 0 0, .slice none 0 0], []⟩ 8 (by kernel_rfl) (by kernel_rfl) (by kernel_rfl) (by kernel_rfl)) ?_
  intro W base args ds gs before hval hW _ _
  exact contract H enc W base args ds gs before hval hW
theorem said : Rows.BrackPairsSaid :=
  OpenClaim.holds_of_wide 5 Try.f5 rfl rfl rfl rfl rfl rfl rfl ⟨rfl, rfl, rfl, rfl, rfl⟩ rfl rfl rfl rfl rfl (by kernel_rfl) Try.func5 (by kernel_rfl)
    (of_decide_eq_true (by kernel_rfl)) (by unfold Func.isWrapper; first | (rw [if_pos (by decide +kernel)]; kernel_rfl) | (rw [if_neg (by decide +kernel)]; exact ⟨rfl, rfl⟩))
    (fun os started H enc _ => lifted os started H enc)
end Go.Proofs.Ytoiolgpbecgfkaa.lawPairs
