/- Layer 14: Right and Back, the program's and the document's. -/
import Derived.Test.YtbaaaadjabjfbaaOrC
namespace Go.Proofs.Ytbaaaadjabjfbaa
open Go.RowKit

theorem boolsT : SliceOf Try.prog 23 4 (.bool false) 1 := ⟨by kernel_rfl, by kernel_rfl, rfl⟩
section
variable {P : Program} {ops : Array Oper} {rest : List Oper} {o : Oper} {a : Act} {Q : Exit → Act → World → Prop}
/-- a store of a truth value into a row of one's own -/
theorem store_bit {t e : TypeId} {z : Value} {bytes : Nat} (T : SliceOf P t e z bytes) (W : World) (B : Nat) (x y : Operand) (g j c : Nat) (b : Bool) (xs : List Value) (w0 : World)
    (hgd : o.guard = none) (hd : o.dst = none) (ho : o.op = .store e x y) (hx : a.eval x = .pointer (some ⟨g, j, none⟩)) (hy : a.eval y = .bool b) (hr : Row W B e g c xs) (hj : j < xs.length) (hb : Below B w0 W)
    (h : ∀ w', Row w' B e g c (xs.set j (.bool b)) → Below B w0 w' → W.grownBy w' (some g) → wpList P ops Q rest a w') :
    wpList P ops Q (o :: rest) a W := by
  have hcell := hr.cell hj
  have hfree := hr.free j
  refine wpList_plain hgd fun K' hK' => ?_
  unfold Oper.wp
  obtain ⟨i, hi, hz0, hz1, hz2⟩ := info_parts T.elem
  simp [execOp, ho, hx, hy, Instr.storeAt, Instr.sureAddr]
  go_simp
  simp only [sizeOf, typeInfo, Sem.run_bind, Sem.run_pure]
  go_simp
  obtain ⟨dst, op, ty, pos, after, guard⟩ := o
  obtain rfl : dst = none := hd
  exact hK' _ _ (h _ (hr.set j _) (Row.setB hb hr j _) (hr.setG j _))
end

set_option maxHeartbeats 2000000 in
theorem nright14_any (A : Option Addr) (l : List Int) (c : Nat) (w : World) (hL : Lies w w.heap.size A (ints .i64 l)) (hl : l.length ≤ 1000000) :
    Calls Try.prog 13 #[.slice A l.length c] w fun ed w' => ed = .returned (.bool (rightO l)) ∧ Below w.heap.size w w' := by
  have HL := Lib.hid hL
  obtain ⟨z, hz⟩ : ∃ z, rightO l = z := ⟨_, rfl⟩
  have HZ := Lib.hid hz
  rw [hz]
  obtain ⟨n, hnn⟩ : ∃ n, l.length = n := ⟨_, rfl⟩
  have HN := Lib.hid hnn
  have hn0 : n ≤ 1000000 := by omega
  rw [hnn]
  clear hL hz hl hnn
  go_enter Try.func13, Try.ntmps13
  go_wp2_with (first
    | (refine make_row boolsT w w w.heap.size _ _ .i64 .i64 n rfl rfl rfl rfl rfl (Below.refl _ _) (Nat.le_refl _) (by omega) (by unfold maxLen; omega) ?_; intro w1 r1 b1 _; have R1 : Hid (Row w1 w.heap.size 4 w.heap.size n (bits (metL l 0))) := Lib.hid (by rw [metL_zero, HN.out]; simpa [bits] using r1); have B1 := Lib.hid b1; clear r1 b1)
    | fail)
  go_loopw [11] (fun iv wr => ∃ k : Nat, k ≤ n ∧ iv = .int .i64 k ∧ Hid (goodK l k) ∧ Hid (Row wr w.heap.size 4 w.heap.size n (bits (metL l k))) ∧ Hid (Below w.heap.size w wr)) (fun iv _ => n - (intOf iv).toNat)
  case atStart => exact ⟨0, by omega, rfl, Lib.hid (goodK_zero l), R1, B1⟩
  case round =>
    obtain ⟨k, hk, rfl, HG, HR, HB⟩ := hrel
    by_cases hlt : k < n
    · have hkl : k < l.length := by rw [HN.out]; exact hlt
      obtain ⟨q, rfl, _, hcx⟩ := (HL.out.below HB.out).int hkl
      have HW1 := Lib.hid (wrong_low (l := l) hkl)
      have HW2 := Lib.hid (wrong_twice (l := l) hkl)
      have HMS := Lib.hid (metL_succ l hkl)
      have HGS := Lib.hid (fun h0 h1 hm => goodK_succ HG.out hkl h0 h1 hm)
      have HMA := Lib.hid (metL_at l k (x := l[k]))
      obtain ⟨x, hx⟩ : ∃ x, l[k] = x := ⟨_, rfl⟩
      rw [hx] at hcx HW1 HW2 HMS HGS HMA
      rw [HN.out] at HW1 HGS HMA
      have k0 : (0 : Int) ≤ (k : Int) := by omega
      have k1 : (k : Int) < (n : Int) := by omega
      clear hx hkl
      rcases hx0 : decide (x < 0) with _ | _
      · have hx0' : 0 ≤ x := by simpa using hx0
        rcases hx1 : decide (x ≥ (n : Int)) with _ | _
        · have hx1' : x < (n : Int) := by simpa using hx1
          have HMA1 := Lib.hid (HMA.out hx0' hx1')
          obtain ⟨y, rfl⟩ : ∃ y : Nat, x = y := ⟨x.toNat, by omega⟩
          rw [Int.toNat_natCast] at HMA1 HMS
          have y0 : (0 : Int) ≤ (y : Int) := by omega
          have hyn : y < n := by omega
          obtain ⟨h2, h3⟩ := List.getElem?_eq_some_iff.1 HMA1.out
          have hcm := HR.out.cell (j := y) (by simpa [bits] using h2)
          simp only [bits, List.getElem_map, h3] at hcm
          have hyl : y < (bits (metL l k)).length := by simpa [bits] using h2
          obtain ⟨b, hb⟩ : ∃ b, decide ((y : Int) ∈ l.take k) = b := ⟨_, rfl⟩
          rw [hb] at hcm
          have HBB := Lib.hid hb
          clear h2 h3 hb HMA1 HMA HW1
          cases b
          · have HG2 := Lib.hid (HGS.out hx0' hx1' (by simpa using HBB.out))
            go_wp2_with (first
              | (refine store_bit boolsT wr w.heap.size _ _ w.heap.size y n true _ w rfl rfl rfl rfl rfl HR.out hyl HB.out ?_; intro w5 r5 b5 _; rw [bits_set, ← HMS.out hx0'] at r5; have R5 := Lib.hid r5; have B5 := Lib.hid b5; clear r5 b5)
              | fail)
            go_roundw
            case rel => exact ⟨k + 1, by omega, by go_num, HG2, R5, B5⟩
            case measure => simp [intOf]; omega
          · have HF : Hid (false = z) := Lib.hid (by rw [← HZ.out]; exact (HW2.out (by simpa using HBB.out)).symm)
            go_wp2
            go_ret
            exact ⟨ret_bool HF.out, HB.out⟩
        · have HF : Hid (false = z) := Lib.hid (by rw [← HZ.out]; exact (HW1.out (.inr (by simpa using hx1))).symm)
          go_wp2
          go_ret
          exact ⟨ret_bool HF.out, HB.out⟩
      · have HF : Hid (false = z) := Lib.hid (by rw [← HZ.out]; exact (HW1.out (.inl (by simpa using hx0))).symm)
        go_wp2
        go_ret
        exact ⟨ret_bool HF.out, HB.out⟩
    · obtain rfl : k = n := by omega
      have HF : Hid (true = z) := Lib.hid (by
        have := HG.out
        rw [← HN.out] at this
        rw [← HZ.out, goodK_all this])
      go_wp2
      go_ret
      exact ⟨ret_bool HF.out, HB.out⟩

set_option maxHeartbeats 2000000 in
theorem rright14_any (A : Option Addr) (l : List Int) (c : Nat) (w : World) (hL : Lies w w.heap.size A (ints .i64 l)) (hl : l.length ≤ 1000000) :
    Calls Try.prog 14 #[.slice A l.length c] w fun ed w' => ed = .returned (.bool (rightO l)) ∧ Below w.heap.size w w' := by
  have HL := Lib.hid hL
  obtain ⟨z, hz⟩ : ∃ z, rightO l = z := ⟨_, rfl⟩
  have HZ := Lib.hid hz
  rw [hz]
  obtain ⟨n, hnn⟩ : ∃ n, l.length = n := ⟨_, rfl⟩
  have HN := Lib.hid hnn
  have hn0 : n ≤ 1000000 := by omega
  rw [hnn]
  clear hL hz hl hnn
  go_enter Try.func14, Try.ntmps14
  go_wp2_with (first
    | (refine make_row boolsT w w w.heap.size _ _ .i64 .i64 n rfl rfl rfl rfl rfl (Below.refl _ _) (Nat.le_refl _) (by omega) (by unfold maxLen; omega) ?_; intro w1 r1 b1 _; have R1 : Hid (Row w1 w.heap.size 4 w.heap.size n (bits (metL l 0))) := Lib.hid (by rw [metL_zero, HN.out]; simpa [bits] using r1); have B1 := Lib.hid b1; clear r1 b1)
    | fail)
  go_loopw [4] (fun iv wr => ∃ k : Nat, k ≤ n ∧ iv = .int .i64 k ∧ Hid (goodK l k) ∧ Hid (Row wr w.heap.size 4 w.heap.size n (bits (metL l k))) ∧ Hid (Below w.heap.size w wr)) (fun iv _ => n - (intOf iv).toNat)
  case atStart => exact ⟨0, by omega, rfl, Lib.hid (goodK_zero l), R1, B1⟩
  case round =>
    obtain ⟨k, hk, rfl, HG, HR, HB⟩ := hrel
    by_cases hlt : k < n
    · have hkl : k < l.length := by rw [HN.out]; exact hlt
      obtain ⟨q, rfl, _, hcx⟩ := (HL.out.below HB.out).int hkl
      have HW1 := Lib.hid (wrong_low (l := l) hkl)
      have HW2 := Lib.hid (wrong_twice (l := l) hkl)
      have HMS := Lib.hid (metL_succ l hkl)
      have HGS := Lib.hid (fun h0 h1 hm => goodK_succ HG.out hkl h0 h1 hm)
      have HMA := Lib.hid (metL_at l k (x := l[k]))
      obtain ⟨x, hx⟩ : ∃ x, l[k] = x := ⟨_, rfl⟩
      rw [hx] at hcx HW1 HW2 HMS HGS HMA
      rw [HN.out] at HW1 HGS HMA
      have k0 : (0 : Int) ≤ (k : Int) := by omega
      have k1 : (k : Int) < (n : Int) := by omega
      clear hx hkl
      rcases hx0 : decide (x < 0) with _ | _
      · have hx0' : 0 ≤ x := by simpa using hx0
        rcases hx1 : decide (x ≥ (n : Int)) with _ | _
        · have hx1' : x < (n : Int) := by simpa using hx1
          have HMA1 := Lib.hid (HMA.out hx0' hx1')
          obtain ⟨y, rfl⟩ : ∃ y : Nat, x = y := ⟨x.toNat, by omega⟩
          rw [Int.toNat_natCast] at HMA1 HMS
          have y0 : (0 : Int) ≤ (y : Int) := by omega
          have hyn : y < n := by omega
          obtain ⟨h2, h3⟩ := List.getElem?_eq_some_iff.1 HMA1.out
          have hcm := HR.out.cell (j := y) (by simpa [bits] using h2)
          simp only [bits, List.getElem_map, h3] at hcm
          have hyl : y < (bits (metL l k)).length := by simpa [bits] using h2
          obtain ⟨b, hb⟩ : ∃ b, decide ((y : Int) ∈ l.take k) = b := ⟨_, rfl⟩
          rw [hb] at hcm
          have HBB := Lib.hid hb
          clear h2 h3 hb HMA1 HMA HW1
          cases b
          · have HG2 := Lib.hid (HGS.out hx0' hx1' (by simpa using HBB.out))
            go_wp2_with (first
              | (refine store_bit boolsT wr w.heap.size _ _ w.heap.size y n true _ w rfl rfl rfl rfl rfl HR.out hyl HB.out ?_; intro w5 r5 b5 _; rw [bits_set, ← HMS.out hx0'] at r5; have R5 := Lib.hid r5; have B5 := Lib.hid b5; clear r5 b5)
              | fail)
            go_roundw
            case rel => exact ⟨k + 1, by omega, by go_num, HG2, R5, B5⟩
            case measure => simp [intOf]; omega
          · have HF : Hid (false = z) := Lib.hid (by rw [← HZ.out]; exact (HW2.out (by simpa using HBB.out)).symm)
            go_wp2
            go_ret
            exact ⟨ret_bool HF.out, HB.out⟩
        · have HF : Hid (false = z) := Lib.hid (by rw [← HZ.out]; exact (HW1.out (.inr (by simpa using hx1))).symm)
          go_wp2
          go_ret
          exact ⟨ret_bool HF.out, HB.out⟩
      · have HF : Hid (false = z) := Lib.hid (by rw [← HZ.out]; exact (HW1.out (.inl (by simpa using hx0))).symm)
        go_wp2
        go_ret
        exact ⟨ret_bool HF.out, HB.out⟩
    · obtain rfl : k = n := by omega
      have HF : Hid (true = z) := Lib.hid (by
        have := HG.out
        rw [← HN.out] at this
        rw [← HZ.out, goodK_all this])
      go_wp2
      go_ret
      exact ⟨ret_bool HF.out, HB.out⟩

/-- where places stand, and the error's number -/
def backE (l : List Int) : List Int := if rightO l then backO l else []
def backR (l : List Int) : Int := if rightO l then 0 else 1

set_option maxHeartbeats 2000000 in
theorem nback14_any (A : Option Addr) (l : List Int) (c : Nat) (w : World) (hL : Lies w w.heap.size A (ints .i64 l)) (hl : l.length ≤ 1000000) :
    Calls Try.prog 8 #[.slice A l.length c] w (Rowed2 w w.heap.size 3 (ints .i64 (backE l)) (backR l)) := by
  have HL := Lib.hid hL
  have HL0 := Lib.hid hl
  obtain ⟨z, hz⟩ : ∃ z, backE l = z := ⟨_, rfl⟩
  obtain ⟨e, he⟩ : ∃ e, backR l = e := ⟨_, rfl⟩
  have HZ := Lib.hid hz
  have HE := Lib.hid he
  rw [hz, he]
  obtain ⟨n, hnn⟩ : ∃ n, l.length = n := ⟨_, rfl⟩
  have HN := Lib.hid hnn
  have hn0 : n ≤ 1000000 := by omega
  have HRT := Lib.hid (nright14_any A l c w hL hl)
  rw [hnn] at HRT ⊢
  rcases hr : rightO l with _ | _
  · have HZ1 : Hid ([] = z) := Lib.hid (by rw [← hz, backE, hr]; rfl)
    have HE1 : Hid (1 = e) := Lib.hid (by rw [← he, backR, hr]; rfl)
    clear hL hz he hl hnn
    go_enter Try.func8, Try.ntmps8
    go_wp2_with fail
    refine (HRT.out).mono ?_
    rintro e' w1 ⟨rfl, b1⟩
    rw [hr]
    have B1 := Lib.hid b1
    clear b1
    go_wp2
    go_ret2
    exact ⟨_, by rw [HE1.out]; rfl, by rw [← HZ1.out]; exact Own.empty _ _ _, B1.out⟩
  · have HZ1 : Hid (backK l l.length = z) := Lib.hid (by rw [← hz, backE, hr, backK_end hr]; rfl)
    have HE1 : Hid (0 = e) := Lib.hid (by rw [← he, backR, hr]; rfl)
    have HRR := Lib.hid hr
    clear hL hz he hl hnn
    go_enter Try.func8, Try.ntmps8
    go_wp2_with fail
    refine (HRT.out).mono ?_
    rintro e' w0 ⟨rfl, b0⟩
    rw [hr]
    have B0 := Lib.hid b0
    have hw0 : w.heap.size ≤ w0.heap.size := b0.size
    clear b0
    obtain ⟨g, hg⟩ : ∃ g, w0.heap.size = g := ⟨_, rfl⟩
    have HGG := Lib.hid hg
    go_wp2_with (first
      | (refine make_row intsT w w0 w.heap.size _ _ .i64 .i64 n rfl rfl rfl rfl rfl B0.out hw0 (by omega) (by unfold maxLen; omega) ?_; intro w1 r1 b1 _; rw [hg] at r1 ⊢; have R1 : Hid (Row w1 w.heap.size 3 g n (ints .i64 (backK l 0))) := Lib.hid (by rw [backK_zero, HN.out]; simpa [ints] using r1); have B1 := Lib.hid b1; clear r1 b1)
      | fail)
    clear hg hw0
    go_loopw [15] (fun iv wr => ∃ k : Nat, k ≤ n ∧ iv = .int .i64 k ∧ Hid (Row wr w.heap.size 3 g n (ints .i64 (backK l k))) ∧ Hid (Below w.heap.size w wr)) (fun iv _ => n - (intOf iv).toNat)
    case atStart => exact ⟨0, by omega, rfl, R1, B1⟩
    case round =>
      obtain ⟨k, hk, rfl, HR, HB⟩ := hrel
      by_cases hlt : k < n
      · have hkl : k < l.length := by rw [HN.out]; exact hlt
        obtain ⟨q, rfl, _, hcx⟩ := (HL.out.below HB.out).int hkl
        have HMS := Lib.hid (backK_succ HRR.out hkl)
        have HXB := (right_all HRR.out).1 l[k] (List.getElem_mem _)
        obtain ⟨x, hx⟩ : ∃ x, l[k] = x := ⟨_, rfl⟩
        rw [hx] at hcx HMS HXB
        rw [HN.out] at HXB
        obtain ⟨y, rfl⟩ : ∃ y : Nat, x = y := ⟨x.toNat, by omega⟩
        rw [Int.toNat_natCast] at HMS
        have k0 : (0 : Int) ≤ (k : Int) := by omega
        have k1 : (k : Int) < (n : Int) := by omega
        have y0 : (0 : Int) ≤ (y : Int) := by omega
        have y1 : (y : Int) < (n : Int) := by omega
        have hyl : y < (ints .i64 (backK l k)).length := by simp only [ints, List.length_map, backK_length]; rw [HN.out]; omega
        clear hx hkl HXB
        go_wp2_with (first
          | (refine store_row intsT wr w.heap.size _ _ g y n .i64 (k : Int) _ w rfl rfl rfl rfl rfl HR.out hyl HB.out ?_; intro w5 r5 b5 _; rw [ints_set, ← HMS.out] at r5; have R5 := Lib.hid r5; have B5 := Lib.hid b5; clear r5 b5)
          | fail)
        go_roundw
        case rel => exact ⟨k + 1, by omega, by go_num, R5, B5⟩
        case measure => simp [intOf]; omega
      · obtain rfl : k = n := by omega
        have HRE : Hid (Row wr w.heap.size 3 g k (ints .i64 z)) := Lib.hid (by
          have := HR.out
          rw [← HN.out] at this
          rw [← HZ1.out, ← HN.out]
          exact this)
        have HLE : Hid (k = (ints .i64 z).length) := Lib.hid (by rw [← HZ1.out]; simp only [ints, List.length_map, backK_length]; rw [HN.out])
        go_wp2
        go_ret2
        exact ⟨_, by rw [HE1.out]; rfl, (HRE.out).own HLE.out, HB.out⟩

set_option maxHeartbeats 2000000 in
theorem rback14_any (A : Option Addr) (l : List Int) (c : Nat) (w : World) (hL : Lies w w.heap.size A (ints .i64 l)) (hl : l.length ≤ 1000000) :
    Calls Try.prog 9 #[.slice A l.length c] w (Rowed2 w w.heap.size 3 (ints .i64 (backE l)) (backR l)) := by
  have HL := Lib.hid hL
  have HL0 := Lib.hid hl
  obtain ⟨z, hz⟩ : ∃ z, backE l = z := ⟨_, rfl⟩
  obtain ⟨e, he⟩ : ∃ e, backR l = e := ⟨_, rfl⟩
  have HZ := Lib.hid hz
  have HE := Lib.hid he
  rw [hz, he]
  obtain ⟨n, hnn⟩ : ∃ n, l.length = n := ⟨_, rfl⟩
  have HN := Lib.hid hnn
  have hn0 : n ≤ 1000000 := by omega
  have HRT := Lib.hid (rright14_any A l c w hL hl)
  rw [hnn] at HRT ⊢
  rcases hr : rightO l with _ | _
  · have HZ1 : Hid ([] = z) := Lib.hid (by rw [← hz, backE, hr]; rfl)
    have HE1 : Hid (1 = e) := Lib.hid (by rw [← he, backR, hr]; rfl)
    clear hL hz he hl hnn
    go_enter Try.func9, Try.ntmps9
    go_wp2_with fail
    refine (HRT.out).mono ?_
    rintro e' w1 ⟨rfl, b1⟩
    rw [hr]
    have B1 := Lib.hid b1
    clear b1
    go_wp2
    go_ret2
    exact ⟨_, by rw [HE1.out]; rfl, by rw [← HZ1.out]; exact Own.empty _ _ _, B1.out⟩
  · have HZ1 : Hid (backK l l.length = z) := Lib.hid (by rw [← hz, backE, hr, backK_end hr]; rfl)
    have HE1 : Hid (0 = e) := Lib.hid (by rw [← he, backR, hr]; rfl)
    have HRR := Lib.hid hr
    clear hL hz he hl hnn
    go_enter Try.func9, Try.ntmps9
    go_wp2_with fail
    refine (HRT.out).mono ?_
    rintro e' w0 ⟨rfl, b0⟩
    rw [hr]
    have B0 := Lib.hid b0
    have hw0 : w.heap.size ≤ w0.heap.size := b0.size
    clear b0
    obtain ⟨g, hg⟩ : ∃ g, w0.heap.size = g := ⟨_, rfl⟩
    have HGG := Lib.hid hg
    go_wp2_with (first
      | (refine make_row intsT w w0 w.heap.size _ _ .i64 .i64 n rfl rfl rfl rfl rfl B0.out hw0 (by omega) (by unfold maxLen; omega) ?_; intro w1 r1 b1 _; rw [hg] at r1 ⊢; have R1 : Hid (Row w1 w.heap.size 3 g n (ints .i64 (backK l 0))) := Lib.hid (by rw [backK_zero, HN.out]; simpa [ints] using r1); have B1 := Lib.hid b1; clear r1 b1)
      | fail)
    clear hg hw0
    go_loopw [5] (fun iv wr => ∃ k : Nat, k ≤ n ∧ iv = .int .i64 k ∧ Hid (Row wr w.heap.size 3 g n (ints .i64 (backK l k))) ∧ Hid (Below w.heap.size w wr)) (fun iv _ => n - (intOf iv).toNat)
    case atStart => exact ⟨0, by omega, rfl, R1, B1⟩
    case round =>
      obtain ⟨k, hk, rfl, HR, HB⟩ := hrel
      by_cases hlt : k < n
      · have hkl : k < l.length := by rw [HN.out]; exact hlt
        obtain ⟨q, rfl, _, hcx⟩ := (HL.out.below HB.out).int hkl
        have HMS := Lib.hid (backK_succ HRR.out hkl)
        have HXB := (right_all HRR.out).1 l[k] (List.getElem_mem _)
        obtain ⟨x, hx⟩ : ∃ x, l[k] = x := ⟨_, rfl⟩
        rw [hx] at hcx HMS HXB
        rw [HN.out] at HXB
        obtain ⟨y, rfl⟩ : ∃ y : Nat, x = y := ⟨x.toNat, by omega⟩
        rw [Int.toNat_natCast] at HMS
        have k0 : (0 : Int) ≤ (k : Int) := by omega
        have k1 : (k : Int) < (n : Int) := by omega
        have y0 : (0 : Int) ≤ (y : Int) := by omega
        have y1 : (y : Int) < (n : Int) := by omega
        have hyl : y < (ints .i64 (backK l k)).length := by simp only [ints, List.length_map, backK_length]; rw [HN.out]; omega
        clear hx hkl HXB
        go_wp2_with (first
          | (refine store_row intsT wr w.heap.size _ _ g y n .i64 (k : Int) _ w rfl rfl rfl rfl rfl HR.out hyl HB.out ?_; intro w5 r5 b5 _; rw [ints_set, ← HMS.out] at r5; have R5 := Lib.hid r5; have B5 := Lib.hid b5; clear r5 b5)
          | fail)
        go_roundw
        case rel => exact ⟨k + 1, by omega, by go_num, R5, B5⟩
        case measure => simp [intOf]; omega
      · obtain rfl : k = n := by omega
        have HRE : Hid (Row wr w.heap.size 3 g k (ints .i64 z)) := Lib.hid (by
          have := HR.out
          rw [← HN.out] at this
          rw [← HZ1.out, ← HN.out]
          exact this)
        have HLE : Hid (k = (ints .i64 z).length) := Lib.hid (by rw [← HZ1.out]; simp only [ints, List.length_map, backK_length]; rw [HN.out])
        go_wp2
        go_ret2
        exact ⟨_, by rw [HE1.out]; rfl, (HRE.out).own HLE.out, HB.out⟩
end Go.Proofs.Ytbaaaadjabjfbaa
