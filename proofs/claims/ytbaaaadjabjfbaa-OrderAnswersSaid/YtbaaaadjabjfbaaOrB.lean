/- Layer 14: a line's order: the program's. -/
import Derived.Test.YtbaaaadjabjfbaaOrA
namespace Go.Proofs.Ytbaaaadjabjfbaa
open Go.RowKit

section
variable {P : Program} {ops : Array Oper} {rest : List Oper} {o : Oper} {a : Act} {Q : Exit → Act → World → Prop}
/-- l[i:j] of a row -/
theorem cut_row {t e : TypeId} {z : Value} {bytes : Nat} (T : SliceOf P t e z bytes) (W : World) (x y1 y2 : Operand) (i j g n c : Nat)
    (hgd : Region.wanted o (yielded ops a.tmps) = true) (ho : o.op = .slice t x (some y1) (some y2) none) (hx : a.eval x = .slice (some ⟨g, 0, none⟩) n c) (h1 : a.eval y1 = .int .i64 (i : Int)) (h2 : a.eval y2 = .int .i64 (j : Int)) (hij : i ≤ j) (hj : j ≤ c)
    (h : ∀ A', (0 < j - i → A' = some ⟨g, i, none⟩) → wpList P ops Q rest (a.put o.dst (.slice A' (j - i) (c - i))) W) :
    wpList P ops Q (o :: rest) a W := by
  obtain ⟨f, hi, hz0, hz1, hz2⟩ := info_parts T.elem
  have he : P.elem t = e := by simp [Program.elem, T.slice]
  have hrun := run_slice_lh (P := P) (w := W) t (some ⟨g, 0, none⟩) n c (by rw [T.slice, he]) .i64 .i64 (i : Int) (j : Int) (by omega) (by omega) (by omega)
  refine wpList_step fun K' hK' => ?_
  rw [if_pos hgd]
  unfold Oper.wp
  simp [execOp, ho, hx, h1, h2, run_sliceAt_slice, T.slice, he, hrun, Result.andThen, sizeOf, typeInfo, hi, hz1, sliced]
  refine hK' _ _ ?_
  refine h _ fun hlt => ?_
  rw [if_neg (by omega), show ((⟨g, 0, none⟩ : Addr).add i) = ⟨g, i, none⟩ by rw [add_plain]; simp]
/-- l[i:] of a row -/
theorem cut_rest {t e : TypeId} {z : Value} {bytes : Nat} (T : SliceOf P t e z bytes) (W : World) (x y1 : Operand) (i g n c : Nat)
    (hgd : Region.wanted o (yielded ops a.tmps) = true) (ho : o.op = .slice t x (some y1) none none) (hx : a.eval x = .slice (some ⟨g, 0, none⟩) n c) (h1 : a.eval y1 = .int .i64 (i : Int)) (hij : i ≤ n) (hj : n ≤ c)
    (h : ∀ A', (0 < n - i → A' = some ⟨g, i, none⟩) → wpList P ops Q rest (a.put o.dst (.slice A' (n - i) (c - i))) W) :
    wpList P ops Q (o :: rest) a W := by
  obtain ⟨f, hi, hz0, hz1, hz2⟩ := info_parts T.elem
  have he : P.elem t = e := by simp [Program.elem, T.slice]
  have hrun := run_slice_l (P := P) (w := W) t (some ⟨g, 0, none⟩) n c (by rw [T.slice, he]) .i64 (i : Int) (by omega) (by omega)
  refine wpList_step fun K' hK' => ?_
  rw [if_pos hgd]
  unfold Oper.wp
  simp [execOp, ho, hx, h1, run_sliceAt_slice, T.slice, he, hrun, Result.andThen, sizeOf, typeInfo, hi, hz1, sliced]
  refine hK' _ _ ?_
  refine h _ fun hlt => ?_
  rw [if_neg (by omega), show ((⟨g, 0, none⟩ : Addr).add i) = ⟨g, i, none⟩ by rw [add_plain]; simp]
end
theorem reverse_part (B g c cc n f : Nat) (pre l post : List Int) (A : Option Addr) (w : World) (hn : l.length = n) (hf : pre.length = f) (hA : 0 < n → A = some ⟨g, f, none⟩) (hlen : (pre ++ l ++ post).length ≤ 1000000) (hR : Row w B 3 g c (ints .i64 (pre ++ l ++ post))) :
    Calls Try.prog 24 #[.slice A n cc] w (Turned w B g c (pre ++ l.reverse ++ post)) := by
  subst hn hf
  exact reverse_any B g c cc pre l post A w hA hlen hR
/-- what lies in the row while rows are turned -/
theorem nums_parts (D o : List Nat) {f k : Nat} (hk : f ≤ k) : nums D ++ nums (o.drop f) = nums D ++ nums ((o.drop f).take (k - f)) ++ nums (o.drop k) := by
  conv => lhs; rw [← List.take_append_drop (k - f) (o.drop f)]
  rw [List.drop_drop, show f + (k - f) = k by omega, nums_append, List.append_assoc]

set_option maxHeartbeats 2000000 in
theorem nturnRows_any (B g c cl m : Nat) (A : Option Addr) (levels : List Int) (o : List Nat) (w : World) (hL : Lies w B A (ints .i64 levels)) (ho : Cols levels m o) (_ : m ≤ 127) (hn : levels.length ≤ 1000000) (hc : levels.length ≤ c)
    (hR : Row w B 3 g c (ints .i64 (nums o))) :
    Calls Try.prog 20 #[.slice (some ⟨g, 0, none⟩) levels.length c, .slice A levels.length cl, .int .i64 (m : Int)] w (Turned w B g c (nums (revAll (atLeast levels (m : Int)) o))) := by
  have HL := Lib.hid hL
  have HO := Lib.hid ho
  have HOL := Lib.hid ho.len
  obtain ⟨p, hp⟩ : ∃ p, atLeast levels (m : Int) = p := ⟨_, rfl⟩
  have HP : Hid (∀ k (h : k < o.length), p o[k] = decide ((m : Int) ≤ levels.getD k 0)) := Lib.hid (fun k h => by rw [← hp, ho.2 m (Int.le_refl _) k h]; rfl)
  rw [hp]
  obtain ⟨z, hz⟩ : ∃ z, nums (revAll p o) = z := ⟨_, rfl⟩
  have HZ := Lib.hid hz
  rw [hz]
  have HR0 : Hid (Row w B 3 g c (ints .i64 (nums [] ++ nums (o.drop 0)))) := Lib.hid hR
  clear hL ho hp hz hR
  go_enter Try.func20, Try.ntmps20
  go_wp2_with fail
  go_loopw [11, 6] (fun iv fv wr => ∃ (k f : Nat) (D : List Nat), k ≤ levels.length ∧ iv = .int .i64 k ∧ fv = .int .i64 f ∧ Hid (Turning p o f k D) ∧ Hid (Row wr B 3 g c (ints .i64 (nums D ++ nums (o.drop f)))) ∧ Hid (Below B w wr)) (fun iv _ _ => levels.length - (intOf iv).toNat)
  case atStart => exact ⟨0, 0, [], by omega, rfl, rfl, Lib.hid (turning_start p o), HR0, Lib.hid (Below.refl _ _)⟩
  case round =>
    obtain ⟨k, f, D, hk, rfl, rfl, HT, HR, HB⟩ := hrel
    have hfk := HT.out.le
    by_cases hlt : k < levels.length
    · obtain ⟨q, rfl, _, hcx⟩ := (HL.out.below HB.out).int hlt
      have HPK := HP.out k (by rw [HOL.out]; exact hlt)
      rw [getD_at hlt] at HPK
      obtain ⟨x, hx⟩ : ∃ x, levels[k] = x := ⟨_, rfl⟩
      rw [hx] at hcx HPK
      have k0 : (0 : Int) ≤ (k : Int) := by omega
      have k1 : (k : Int) < (levels.length : Int) := by omega
      have hko : k < o.length := by rw [HOL.out]; exact hlt
      clear hx
      rcases hxm : decide (x < (m : Int)) with _ | _
      · have HN : Hid (Turning p o f (k + 1) D) := Lib.hid (turning_in HT.out hko (by rw [HPK]; simp at hxm ⊢; omega))
        clear hko HPK
        go_wp2_with fail
        go_roundw
        case rel => exact ⟨k + 1, f, D, by omega, by go_num, rfl, HN, HR, HB⟩
        case measure => simp [intOf]; omega
      · have HN := Lib.hid (turning_out HT.out hko (by rw [HPK]; simp at hxm ⊢; omega))
        have HS : Hid (nums D ++ (nums ((o.drop f).take (k - f))).reverse ++ nums (o.drop k) = nums (D ++ ((o.drop f).take (k - f)).reverse ++ [o[k]]) ++ nums (o.drop (k + 1))) := Lib.hid (by
          rw [List.drop_eq_getElem_cons hko]
          simp only [nums_append, nums_reverse, List.append_assoc]
          rfl)
        obtain ⟨y, hy⟩ : ∃ y, o[k] = y := ⟨_, rfl⟩
        rw [hy] at HN HS
        clear hy
        have HR' : Hid (Row wr B 3 g c (ints .i64 (nums D ++ nums ((o.drop f).take (k - f)) ++ nums (o.drop k)))) := Lib.hid (by rw [← nums_parts D o hfk]; exact HR.out)
        have HTL : Hid ((nums ((o.drop f).take (k - f))).length = k - f) := Lib.hid (by simp [nums]; omega)
        have HDL : Hid ((nums D).length = f) := Lib.hid (by rw [nums_length, HT.out.len])
        have HAL : Hid ((nums D ++ nums ((o.drop f).take (k - f)) ++ nums (o.drop k)).length ≤ 1000000) := Lib.hid (by
          rw [← nums_parts D o hfk, List.length_append, nums_length, nums_length, List.length_drop, HT.out.len]
          have := HOL.out
          omega)
        generalize nums ((o.drop f).take (k - f)) = M at *
        clear hko HPK
        go_wp2_with (first
          | (refine cut_row intsT wr _ _ _ f k g levels.length c rfl rfl rfl rfl rfl (by omega) (by omega) ?_; intro A2 hA2; have HA2 := Lib.hid hA2; clear hA2)
          | fail)
        refine (reverse_part B g c (c - f) (k - f) f (nums D) M (nums (o.drop k)) A2 wr HTL.out HDL.out HA2.out HAL.out HR'.out).mono ?_
        rintro e w2 ⟨rfl, r2, b2⟩
        rw [HS.out] at r2
        have R2 := Lib.hid r2
        have B2 := Lib.hid (HB.out.trans b2)
        clear r2 b2
        go_wp2_with fail
        go_roundw
        case rel => exact ⟨k + 1, k + 1, _, by omega, by go_num, by go_num, HN, R2, B2⟩
        case measure => simp [intOf]; omega
    · obtain rfl : k = levels.length := by omega
      have HE : Hid (nums D ++ (nums (o.drop f)).reverse ++ [] = z) := Lib.hid (by
        have := HT.out
        rw [← HOL.out] at this
        rw [← HZ.out, turning_end this, nums_append, nums_reverse, List.append_nil])
      have HR' : Hid (Row wr B 3 g c (ints .i64 (nums D ++ nums (o.drop f) ++ []))) := Lib.hid (by rw [List.append_nil]; exact HR.out)
      have HDL : Hid ((nums D).length = f) := Lib.hid (by rw [nums_length, HT.out.len])
      have HTL : Hid ((nums (o.drop f)).length = levels.length - f) := Lib.hid (by rw [nums_length, List.length_drop, HOL.out])
      have HAL : Hid ((nums D ++ nums (o.drop f) ++ []).length ≤ 1000000) := Lib.hid (by
        rw [List.append_nil, List.length_append, HDL.out, HTL.out]
        omega)
      go_wp2_with (first
        | (refine cut_rest intsT wr _ _ f g levels.length c rfl rfl rfl rfl (by omega) (by omega) ?_; intro A2 hA2; have HA2 := Lib.hid hA2; clear hA2)
        | fail)
      refine (reverse_part B g c (c - f) (levels.length - f) f (nums D) (nums (o.drop f)) [] A2 wr HTL.out HDL.out HA2.out HAL.out HR'.out).mono ?_
      rintro e w2 ⟨rfl, r2, b2⟩
      rw [HE.out] at r2
      have R2 := Lib.hid r2
      have B2 := Lib.hid (HB.out.trans b2)
      clear r2 b2
      go_wp2_with fail
      refine bodyPost_end (results_none rfl _ _ _) rfl ?_
      exact ⟨rfl, R2.out, B2.out⟩
end Go.Proofs.Ytbaaaadjabjfbaa
