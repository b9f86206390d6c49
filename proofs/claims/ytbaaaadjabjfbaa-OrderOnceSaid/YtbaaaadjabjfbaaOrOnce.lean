/- OrderOnce: an order has each place once; places that stand beside one another with one level are seen so, in the level's direction. Conditions: none. -/
import Derived.Test.YtbaaaadjabjfbaaOrV
import Derived.Test.YtbaaaadjabjfbaaLaw
import Derived.Test.YtbaaaadjabjfbaaSame
import Derived.Test.YtbaaaadjabjfbaaRows
namespace Go.Proofs.Ytbaaaadjabjfbaa.lawOnce
open Go.ChangeShapes Go.WideShapes Go.ChangeAt Go.RowKit

theorem back_e (levels : List Int) : backE (orderI levels) = backO (orderI levels) := by rw [backE, if_pos (order_right levels)]
theorem back_r (levels : List Int) : backR (orderI levels) = 0 := by rw [backR, if_pos (order_right levels)]
/-- what stands in a column stands there -/
theorem back_col (levels : List Int) {k : Nat} (hk : k < levels.length) : (backO (orderI levels)).getD ((orderN levels)[k]'(by rw [order_length]; exact hk)) 0 = (k : Int) := by
  have hk' : k < (orderI levels).length := by rw [orderI_length]; exact hk
  have h1 := idx_at (right_all (order_right levels)).2 hk'
  rw [order_at hk] at h1
  rw [backO_at _ (by rw [orderI_length]; exact order_lt (List.getElem_mem _)), h1]
/-- one level: one direction -/
theorem back_next (levels : List Int) {k : Nat} (hk : k + 1 < levels.length) (h : levels.getD (k + 1) 0 = levels.getD k 0) :
    (backO (orderI levels)).getD (k + 1) 0 - (backO (orderI levels)).getD k 0 = if min 127 (max 0 (levels.getD (k + 1) 0)) % 2 = 1 then -1 else 1 := by
  have h1 := order_next hk h.symm
  rw [← h] at h1
  by_cases hz : min 127 (max 0 (levels.getD (k + 1) 0)) % 2 = 0
  · rw [if_pos hz] at h1
    rw [if_neg (by omega), next_back h1]
    omega
  · rw [if_neg hz] at h1
    rw [if_pos (by omega), next_back h1]
    omega
theorem col_len (levels : List Int) : (backO (orderI levels)).length = levels.length := by rw [backO_length, orderI_length]

set_option maxRecDepth 20000 in
set_option maxHeartbeats 8000000 in
theorem walk_ok (w : World) (A : Option Addr) (l : List Int) (c : Nat) (hl : l.length ≤ 200) (h : Lies w w.heap.size A (ints .i64 l)) :
    Calls Try.prog 4 #[.slice A l.length c] w fun e w' => e = .returned (.bool true) ∧ Below w.heap.size w w' := by
  have HL := Lib.hid h
  have HE := Lib.hid (back_e l)
  have HR := Lib.hid (back_r l)
  have HOL := Lib.hid (orderI_length l)
  have HCL := Lib.hid (col_len l)
  have d1 : decide (200 < (l.length : Int)) = false := by simp; omega
  have hne : ((l.length : Int) != (l.length : Int)) = false := by simp
  clear h
  go_enter Try.func4, Try.ntmps4
  go_wp2_with fail
  refine (oralive_any w).mono ?_
  rintro e w1 ⟨rfl, b1⟩
  have B1 := Lib.hid b1
  have L1 := Lib.hid (HL.out.up b1)
  clear b1
  go_wp2_with fail
  refine (nof14_any A l c w1 L1.out (by omega)).mono ?_
  rintro e w2 ⟨v2, rfl, o2, b2⟩
  obtain ⟨A2, c2, rfl, l2, -, -⟩ := o2.form
  rw [ints, List.length_map, HOL.out]
  have B2 := Lib.hid (below_then B1.out b2)
  have L2 := Lib.hid (L1.out.up b2)
  have O2 := Lib.hid l2
  have HR2 := Lib.hid (nright14_any A2 (orderI l) c2 w2 l2 (by rw [HOL.out]; omega))
  rw [HOL.out, order_right] at HR2
  clear o2 b2 l2
  go_wp2_with fail
  refine (HR2.out).mono ?_
  rintro e w3 ⟨rfl, b3⟩
  have B3 := Lib.hid (below_then B2.out b3)
  have L3 := Lib.hid (L2.out.up b3)
  have O3 := Lib.hid (O2.out.up b3)
  have HB3 := Lib.hid (nback14_any A2 (orderI l) c2 w3 O3.out (by rw [HOL.out]; omega))
  rw [HOL.out, HE.out, HR.out] at HB3
  clear b3
  go_wp2_with fail
  refine (HB3.out).mono ?_
  rintro e w4 ⟨v4, rfl, o4, b4⟩
  obtain ⟨A4, c4, rfl, l4, -, -⟩ := o4.form
  rw [ints, List.length_map, HCL.out]
  have B4 := Lib.hid (below_then B3.out b4)
  have L4 := Lib.hid (L3.out.up b4)
  have O4 := Lib.hid (O3.out.up b4)
  have P4 := Lib.hid l4
  clear o4 b4 l4
  go_wp2_with fail
  go_loopw [6] (fun iv wv => ∃ k n : Nat, k ≤ l.length ∧ iv = .int .i64 k ∧ wv = w4.drewN n) (fun iv _ => l.length - (intOf iv).toNat)
  case atStart => exact ⟨0, 0, by omega, rfl, rfl⟩
  case round =>
    obtain ⟨k, n, hk, rfl, rfl⟩ := hrel
    by_cases hlt : k < l.length
    · obtain ⟨p, rfl, -, hca⟩ := O4.out.int (i := k) (by rw [HOL.out]; exact hlt)
      rw [order_at hlt] at hca
      have hyl : (orderN l)[k]'(by rw [order_length]; exact hlt) < l.length := order_lt (List.getElem_mem _)
      have hbc := back_col l hlt
      generalize (orderN l)[k]'(by rw [order_length]; exact hlt) = y at hca hyl hbc
      obtain ⟨q, rfl, -, hcb⟩ := P4.out.int (i := y) (by rw [HCL.out]; exact hyl)
      rw [← getD_at, hbc] at hcb
      obtain ⟨r, rfl, -, hcl⟩ := L4.out.int hlt
      have k0 : (0 : Int) ≤ (k : Int) := by omega
      have k1 : (k : Int) < (l.length : Int) := by omega
      have y0 : (0 : Int) ≤ (y : Int) := by omega
      have y1 : (y : Int) < (l.length : Int) := by omega
      have hkk : ((k : Int) != (k : Int)) = false := by simp
      clear hbc hyl
      rcases hz : decide (0 < k) with _ | _
      · go_wp2
        go_quiet (fail)
        go_wp2
        go_roundw
        case rel => exact ⟨k + 1, _, by omega, by go_num, rfl⟩
        case measure => simp [intOf]; omega
      · obtain ⟨m, hm⟩ : ∃ m, k = m + 1 := ⟨k - 1, by simp at hz; omega⟩
        have hml : m < l.length := by omega
        obtain ⟨r', hr', -, hcm⟩ := L4.out.int hml
        injection hr' with hr'
        subst hr'
        have hw1 : IntKind.i64.wrap ((k : Int) - 1) = (m : Int) := by rw [IntWalk.i64_in _ (by omega)]; omega
        have HBN := Lib.hid (back_next l (k := m) (by omega))
        rw [← hm] at HBN
        rw [← getD_at] at hcl hcm
        obtain ⟨x, hx⟩ : ∃ x, l.getD k 0 = x := ⟨_, rfl⟩
        obtain ⟨z, hzz⟩ : ∃ z, l.getD m 0 = z := ⟨_, rfl⟩
        rw [hx] at hcl HBN
        rw [hzz] at hcm HBN
        have m0 : (0 : Int) ≤ (m : Int) := by omega
        have m1 : (m : Int) < (l.length : Int) := by omega
        have HM := Lib.hid hm
        clear hx hzz hm
        rcases hxz : (x == z) with _ | _
        · go_wp2
          go_quiet (fail)
          go_wp2
          go_roundw
          case rel => exact ⟨k + 1, _, by omega, by go_num, rfl⟩
          case measure => simp [intOf]; omega
        · have hb := HBN.out (by simpa using hxz)
          obtain ⟨q1, hq1, -, hd1⟩ := P4.out.int (i := k) (by rw [HCL.out]; exact hlt)
          obtain ⟨q2, hq2, -, hd2⟩ := P4.out.int (i := m) (by rw [HCL.out]; exact hml)
          injection hq1 with hq1
          injection hq2 with hq2
          subst hq1 hq2
          rw [← getD_at] at hd1 hd2
          generalize (backO (orderI l)).getD k 0 = u at hb hd1
          generalize (backO (orderI l)).getD m 0 = v at hb hd2
          have HBX := Lib.hid hb
          clear hb
          by_cases h0 : 0 < x
          · by_cases h1 : x < 127
            · have ht : Int.tmod x 2 = x % 2 := Int.tmod_eq_emod_of_nonneg (by omega)
              rcases h2 : (x % 2 == 1) with _ | _
              · have h2' : ¬ x % 2 = 1 := by simpa using h2
                have hw3 : IntKind.i64.wrap (u - v) = 1 := by rw [show u - v = 1 by have := HBX.out; rw [if_neg (by omega)] at this; exact this]; exact IntWalk.i64_in _ (by omega)
                clear h2'
                go_wp2
                go_quiet (fail)
                go_wp2_with fail
                go_quiet (fail)
                go_wp2
                go_roundw
                case rel => exact ⟨k + 1, _, by omega, by go_num, rfl⟩
                case measure => simp [intOf]; omega
              · have h2' : x % 2 = 1 := by simpa using h2
                have hw3 : IntKind.i64.wrap (u - v) = -1 := by rw [show u - v = -1 by have := HBX.out; rw [if_pos (by omega)] at this; exact this]; exact IntWalk.i64_in _ (by omega)
                clear h2'
                go_wp2
                go_quiet (fail)
                go_wp2_with fail
                go_quiet (fail)
                go_wp2
                go_roundw
                case rel => exact ⟨k + 1, _, by omega, by go_num, rfl⟩
                case measure => simp [intOf]; omega
            · have hw3 : IntKind.i64.wrap (u - v) = -1 := by rw [show u - v = -1 by have := HBX.out; rw [if_pos (by omega)] at this; exact this]; exact IntWalk.i64_in _ (by omega)
              go_wp2
              go_quiet (fail)
              go_wp2_with fail
              go_quiet (fail)
              go_wp2
              go_roundw
              case rel => exact ⟨k + 1, _, by omega, by go_num, rfl⟩
              case measure => simp [intOf]; omega
          · have hw3 : IntKind.i64.wrap (u - v) = 1 := by rw [show u - v = 1 by have := HBX.out; rw [if_neg (by omega)] at this; exact this]; exact IntWalk.i64_in _ (by omega)
            go_wp2
            go_quiet (fail)
            go_wp2_with fail
            go_quiet (fail)
            go_wp2
            go_roundw
            case rel => exact ⟨k + 1, _, by omega, by go_num, rfl⟩
            case measure => simp [intOf]; omega
    · obtain rfl : k = l.length := by omega
      have k1 : ¬ (l.length : Int) < (l.length : Int) := by omega
      go_wp2
      go_ret
      exact ⟨rfl, below_drawn B4.out _⟩

set_option maxHeartbeats 1000000 in
theorem walk_long (w : World) (A : Option Addr) (l : List Int) (c : Nat) (hh : 200 < l.length) :
    Calls Try.prog 4 #[.slice A l.length c] w fun e w' => e = .returned (.bool true) ∧ Below w.heap.size w w' := by
  have d1 : decide (200 < (l.length : Int)) = true := by simp; omega
  clear hh
  go_enter Try.func4, Try.ntmps4
  go_wp2_with fail
  refine (oralive_any _).mono ?_
  rintro e w1 ⟨rfl, b1⟩
  have B1 := Lib.hid b1
  clear b1
  go_wp2
  go_ret
  exact ⟨rfl, B1.out⟩

theorem walk (w : World) (A : Option Addr) (l : List Int) (c : Nat) (_ : l.length ≤ c) (_ : c ≤ maxLen) (h : Lies w w.heap.size A (ints .i64 l)) (_ : ∀ n ∈ l, (Lit.int .i64 n).wf = true) :
    Calls Try.prog 4 #[.slice A l.length c] w fun e w' => e = .returned (.bool true) ∧ Below w.heap.size w w' := by
  by_cases hh : 200 < l.length
  · exact walk_long w A l c hh
  · exact walk_ok w A l c (by omega) h
-- WRAP
theorem spec : LawSpec Rows.orderOnceSpec 1 := ⟨rfl, fun H ds h => by
  match ds, h with
  | [d0], _ => rfl⟩
theorem params_ok : ∀ t ∈ Try.f4.params.toList, Try.prog.readableRec t = true ∧ t < Try.prog.types.size := by
  rw [Try.params4]
  intro t ht
  simp only [List.mem_cons, List.mem_nil_iff, or_false] at ht
  rcases ht with rfl
  all_goals exact ⟨by kernel_rfl, of_decide_eq_true (by kernel_rfl)⟩

set_option maxRecDepth 100000 in
theorem contract (H : Type) (enc : TypeId × Value → H) (W : World) (base : Nat) (args : Array Value) (ds gs : List (DataW H)) (before : List MemPlace)
    (hval : ∀ (j : Nat) t v, Try.f4.params[j]? = some t → args[j]? = some v → Value.okWide Try.prog W .any base t v)
    (hW : DataW.Whole enc Try.prog Try.f4.params.toList Rows.orderOnceSpec.vars false W args.toList ds gs before) :
    Calls Try.prog 4 args W fun e W' => ∃ v, e = .returned v ∧ Rows.orderOnceSpec.post enc Try.prog Try.f4 false true false false W args v W' := by
  have hW' := hW
  obtain ⟨p, q, hA0, hV, rfl, hfz, hnd⟩ := hW
  have hA : DataW.TrodAll enc Try.prog W 0 (fun _ => true) true Try.f4.params.toList args.toList ds p := hA0
  rw [Try.params4] at hA hval
  obtain ⟨v0, vs0, d0, ds0, p0, q0, hargs, rfl, rfl, h0, r0⟩ := trodAll_cons hA
  obtain ⟨rfl, rfl, rfl⟩ := trodAll_nil r0
  obtain rfl : args = #[v0] := by cases args; simp_all
  obtain ⟨A0, l0, c0, rfl, hc0, hm0, hl0, wf0⟩ := open_list Try.underlying22 Try.underlying3 (by kernel_rfl) (hval 0 22 v0 rfl rfl) h0
  exact (walk W A0 l0 c0 hc0 hm0 hl0 wf0).mono fun e W' ⟨he, hg⟩ => ⟨_, he, law_post spec (by rw [Try.params4]; rfl) (by kernel_rfl) params_ok (by kernel_rfl) Try.underlying4 hW' hg⟩

theorem own : ownKnob Try.prog.godebug = none := by kernel_rfl
set_option maxRecDepth 100000 in
theorem lifted (os : Os) (started : os.Started) (H : Type) (enc : TypeId × Value → H) :
    ReturnsInHanded {} Try.checked os 4 .any (Rows.orderOnceSpec.pre6 enc Try.prog Try.f4 Rows.orderOnceRow.domain false) (Rows.orderOnceSpec.post enc Try.prog Try.f4 false true false false) := by
  refine returnsInHanded_of_change (C := Try.checked) own started (by kernel_rfl) Try.func4
    (ChangeSpec.witness6 (enc := enc) (C := Try.checked) false ⟨#[], #[.slice none 0 0], []⟩ 8 (by kernel_rfl) (by kernel_rfl) (by kernel_rfl) (by kernel_rfl)) ?_
  intro W base args ds gs before hval hW _ _
  exact contract H enc W base args ds gs before hval hW
set_option maxRecDepth 100000 in
theorem said : Rows.OrderOnceSaid :=
  OpenClaim.holds_of_wide 4 Try.f4 rfl rfl rfl rfl rfl rfl rfl ⟨rfl, rfl, rfl, rfl, rfl⟩ rfl rfl rfl rfl rfl (by kernel_rfl) Try.func4 (by kernel_rfl)
    (of_decide_eq_true (by kernel_rfl)) (by unfold Func.isWrapper; first | (rw [if_pos (by decide +kernel)]; kernel_rfl) | (rw [if_neg (by decide +kernel)]; exact ⟨rfl, rfl⟩))
    (fun os started H enc _ => lifted os started H enc)
end Go.Proofs.Ytbaaaadjabjfbaa.lawOnce
