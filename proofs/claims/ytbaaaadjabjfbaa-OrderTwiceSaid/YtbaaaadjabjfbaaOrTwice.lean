/- OrderTwice: back of back of an order is the order; of levels that are all alike an order rises, or falls. Conditions: none. -/
import Derived.Test.YtbaaaadjabjfbaaOrV
import Derived.Test.YtbaaaadjabjfbaaLaw
import Derived.Test.YtbaaaadjabjfbaaSame
import Derived.Test.YtbaaaadjabjfbaaRows
namespace Go.Proofs.Ytbaaaadjabjfbaa.lawTwice
open Go.ChangeShapes Go.WideShapes Go.ChangeAt Go.RowKit

theorem rep_next (k : Nat) (v : Int) : ints .i64 (List.replicate k v) ++ [Value.int .i64 v] = ints .i64 (List.replicate (k + 1) v) := by
  rw [List.replicate_succ', ints, ints, List.map_append]; rfl
theorem back_e (levels : List Int) : backE (orderI levels) = backO (orderI levels) := by rw [backE, if_pos (order_right levels)]
theorem back_r (levels : List Int) : backR (orderI levels) = 0 := by rw [backR, if_pos (order_right levels)]
theorem back_e2 (levels : List Int) : backE (backO (orderI levels)) = orderI levels := by rw [backE, if_pos (back_right (order_right levels)), back_back (order_right levels)]
theorem back_r2 (levels : List Int) : backR (backO (orderI levels)) = 0 := by rw [backR, if_pos (back_right (order_right levels))]
theorem same_up {n : Nat} {v : Int} (h0 : 0 ≤ v) (h1 : v ≤ 127) (hv : v % 2 = 0) {k : Nat} (hk : k < n) : (orderI (List.replicate n v)).getD k 0 = (k : Int) := by
  rw [getD_at (by rw [orderI_length, List.length_replicate]; exact hk)]
  simp only [orderI, order_same h0 h1, if_pos hv, List.getElem_map, List.getElem_range]
theorem same_down {n : Nat} {v : Int} (h0 : 0 ≤ v) (h1 : v ≤ 127) (hv : v % 2 = 1) {k : Nat} (hk : k < n) : (orderI (List.replicate n v)).getD k 0 = (n : Int) - 1 - (k : Int) := by
  have hz : ¬ v % 2 = 0 := by omega
  rw [getD_at (by rw [orderI_length, List.length_replicate]; exact hk)]
  simp only [orderI, order_same h0 h1, if_neg hz, List.getElem_map, List.getElem_reverse, List.getElem_range, List.length_range]
  omega

set_option maxRecDepth 20000 in
set_option maxHeartbeats 8000000 in
theorem walk_ok (w : World) (A : Option Addr) (l : List Int) (c : Nat) (hl : l.length ≤ 200) (h : Lies w w.heap.size A (ints .i64 l)) (a : Int) (ha0 : 0 ≤ a) (ha1 : a < 256) :
    Calls Try.prog 5 #[.slice A l.length c, .int .u8 a] w fun e w' => e = .returned (.bool true) ∧ Below w.heap.size w w' := by
  have HL := Lib.hid h
  obtain ⟨v, hv⟩ : ∃ v : Int, a % 128 = v := ⟨_, rfl⟩
  have hv0 : 0 ≤ v := by omega
  have hv1 : v ≤ 127 := by omega
  have HV2 : Hid (v % 2 = a % 2) := Lib.hid (by omega)
  have hvt : Int.tmod a 128 = v := by rw [Int.tmod_eq_emod_of_nonneg ha0]; exact hv
  obtain ⟨r, hr⟩ : ∃ r : Int, a % 2 = r := ⟨_, rfl⟩
  have hrt : Int.tmod a 2 = r := by rw [Int.tmod_eq_emod_of_nonneg ha0]; exact hr
  have hr01 : Hid (r = 0 ∨ r = 1) := Lib.hid (by omega)
  rw [hr] at HV2
  have hwa : IntKind.i64.wrap a = a := IntWalk.i64_in _ (by omega)
  have HE := Lib.hid (back_e l)
  have HR := Lib.hid (back_r l)
  have HE2 := Lib.hid (back_e2 l)
  have HR2 := Lib.hid (back_r2 l)
  have HOL := Lib.hid (orderI_length l)
  have HUP := Lib.hid (fun hz k hk => same_up (n := l.length) hv0 hv1 hz (k := k) hk)
  have HDN := Lib.hid (fun hz k hk => same_down (n := l.length) hv0 hv1 hz (k := k) hk)
  have HSL : Hid ((orderI (List.replicate l.length v)).length = l.length) := Lib.hid (by rw [orderI_length, List.length_replicate])
  have HBL := Lib.hid (backO_length (orderI l))
  have d1 : decide (200 < (l.length : Int)) = false := by simp; omega
  clear h
  go_enter Try.func5, Try.ntmps5
  go_wp2_with fail
  refine (oralive_any w).mono ?_
  rintro e w1 ⟨rfl, b1⟩
  have B1 := Lib.hid b1
  have L1 := Lib.hid (HL.out.up b1)
  clear b1
  go_wp2_with fail
  refine (nof14_any A l c w1 L1.out (by omega)).mono ?_
  rintro e w2 ⟨v2, rfl, o2, b2⟩
  obtain ⟨A2, c2, rfl, l2, -, -⟩ := o2.form
  rw [ints, List.length_map]
  have B2 := Lib.hid (below_then B1.out b2)
  have O2 := Lib.hid l2
  clear o2 b2 l2
  go_wp2_with fail
  refine (nback14_any A2 (orderI l) c2 w2 O2.out (by rw [HOL.out]; omega)).mono ?_
  rintro e w3 ⟨v3, rfl, o3, b3⟩
  rw [HE.out] at o3
  rw [HR.out]
  obtain ⟨A3, c3, rfl, l3, -, -⟩ := o3.form
  rw [ints, List.length_map]
  have B3 := Lib.hid (below_then B2.out b3)
  have O3 := Lib.hid (O2.out.up b3)
  have P3 := Lib.hid l3
  clear o3 b3 l3
  go_wp2_with fail
  refine (nback14_any A3 (backO (orderI l)) c3 w3 P3.out (by rw [HBL.out, HOL.out]; omega)).mono ?_
  rintro e w4 ⟨v4, rfl, o4, b4⟩
  rw [HE2.out] at o4
  rw [HR2.out]
  obtain ⟨A4, c4, rfl, l4, -, -⟩ := o4.form
  rw [ints, List.length_map]
  have B4 := Lib.hid (below_then B3.out b4)
  have O4 := Lib.hid (O3.out.up b4)
  have Q4 := Lib.hid l4
  clear o4 b4 l4
  go_wp2_with fail
  go_loopw [11, 10] (fun iv ov wr => ∃ k : Nat, k ≤ l.length ∧ iv = .int .i64 k ∧ Hid (Own wr w4.heap.size 3 ov (ints .i64 (List.replicate k v))) ∧ Hid (Below w4.heap.size w4 wr)) (fun iv _ _ => l.length - (intOf iv).toNat)
  case atStart => exact ⟨0, by omega, rfl, Lib.hid (Own.empty _ _ _), Lib.hid (Below.refl _ _)⟩
  case round =>
    obtain ⟨k, hk, rfl, HO, HB⟩ := hrel
    by_cases hlt : k < l.length
    · have k1 : (k : Int) < (l.length : Int) := by omega
      go_wp2_with (first
        | (at_builtin; refine app_lit intsT w4 wr w4.heap.size _ _ #[.int .i64 v] 1 _ (ints .i64 (List.replicate k v)) rfl rfl rfl rfl HO.out (by simp [Value.oneCell']) HB.out HB.out.size (by unfold maxLen; simp; omega) (by simp; omega) ?_; intro v5 w5 o5 b5 _ _; have O5 : Hid (Own w5 w4.heap.size 3 v5 (ints .i64 (List.replicate (k + 1) v))) := Lib.hid (by rw [← rep_next]; exact o5); have B5 := Lib.hid b5; clear o5 b5)
        | fail)
      go_roundw
      case rel => exact ⟨k + 1, by omega, by go_num, O5, B5⟩
      case measure => simp [intOf]; omega
    · obtain rfl : k = l.length := by omega
      obtain ⟨AV, cV, hVV, lV, -, -⟩ := HO.out.form
      rw [ints, List.length_map, List.length_replicate] at hVV
      subst hVV
      have LV := Lib.hid lV
      have B5 := Lib.hid (below_then B4.out HB.out)
      have O5 := Lib.hid (O4.out.up HB.out)
      have Q5 := Lib.hid (Q4.out.up HB.out)
      have HS1 := Lib.hid (nof14_any AV (List.replicate l.length v) cV wr LV.out (by rw [List.length_replicate]; omega))
      rw [List.length_replicate] at HS1
      clear lV HO
      go_wp2_with fail
      refine (HS1.out).mono ?_
      rintro e w6 ⟨v6, rfl, o6, b6⟩
      obtain ⟨A6, c6, rfl, l6, -, -⟩ := o6.form
      rw [ints, List.length_map, HSL.out]
      have B6 := Lib.hid (below_then B5.out b6)
      have O6 := Lib.hid (O5.out.up b6)
      have Q6 := Lib.hid (Q5.out.up b6)
      have R6 := Lib.hid l6
      clear o6 b6 l6
      go_wp2_with fail
      go_loopw [13] (fun iv wv => ∃ k : Nat, k ≤ l.length ∧ iv = .int .i64 k ∧ w6 = wv) (fun iv _ => l.length - (intOf iv).toNat)
      case atStart => exact ⟨0, by omega, rfl, rfl⟩
      case round =>
        obtain ⟨k, hk, rfl, rfl⟩ := hrel
        by_cases hlt : k < l.length
        · obtain ⟨p, rfl, _, hca⟩ := R6.out.int (i := k) (by rw [HSL.out]; exact hlt)
          have k0 : (0 : Int) ≤ (k : Int) := by omega
          have k1 : (k : Int) < (l.length : Int) := by omega
          have hw1 : IntKind.i64.wrap ((l.length : Int) - 1) = (l.length : Int) - 1 := IntWalk.i64_in _ (by omega)
          have hw2 : IntKind.i64.wrap ((l.length : Int) - 1 - (k : Int)) = (l.length : Int) - 1 - (k : Int) := IntWalk.i64_in _ (by omega)
          rw [← getD_at] at hca
          rcases hr1 : (r == 1) with _ | _
          · have HU := HUP.out (by have := hr01.out; have := HV2.out; simp at hr1; omega) k hlt
            rw [HU] at hca
            have hkk : ((k : Int) != (k : Int)) = false := by simp
            clear HU
            go_wp2_with fail
            go_roundw
            case rel => exact ⟨k + 1, by omega, by go_num, by first | rfl | trivial⟩
            case measure => simp [intOf]; omega
          · have hr1' : r = 1 := by simpa using hr1
            have HU := HDN.out (by have := HV2.out; omega) k hlt
            subst hr1'
            clear hr1
            rw [HU] at hca
            obtain ⟨m, hm⟩ : ∃ m, (l.length : Int) - 1 - (k : Int) = m := ⟨_, rfl⟩
            rw [hm] at hca
            have hw3 : IntKind.i64.wrap ((l.length : Int) - 1 - (k : Int)) = m := hw2.trans hm
            clear hw2
            have hkk : (m != m) = false := by simp
            clear HU hm
            go_wp2_with fail
            go_roundw
            case rel => exact ⟨k + 1, by omega, by go_num, by first | rfl | trivial⟩
            case measure => simp [intOf]; omega
        · obtain rfl : k = l.length := by omega
          have k1 : ¬ (l.length : Int) < (l.length : Int) := by omega
          go_wp2_with fail
          refine (ints_ok A4 A2 (orderI l) c4 c2 w6 Q6.out O6.out (by rw [HOL.out]; omega)).mono ?_
          rintro e w7 ⟨rfl, b7⟩
          have B7 := Lib.hid (below_then B6.out b7)
          clear b7
          go_wp2
          go_ret
          exact ⟨rfl, B7.out⟩

set_option maxHeartbeats 1000000 in
theorem walk_long (w : World) (A : Option Addr) (l : List Int) (c : Nat) (hh : 200 < l.length) (a : Int) :
    Calls Try.prog 5 #[.slice A l.length c, .int .u8 a] w fun e w' => e = .returned (.bool true) ∧ Below w.heap.size w w' := by
  have d1 : decide (200 < (l.length : Int)) = true := by simp; omega
  clear hh
  go_enter Try.func5, Try.ntmps5
  go_wp2_with fail
  refine (oralive_any _).mono ?_
  rintro e w1 ⟨rfl, b1⟩
  have B1 := Lib.hid b1
  clear b1
  go_wp2
  go_ret
  exact ⟨rfl, B1.out⟩

theorem walk (w : World) (A : Option Addr) (l : List Int) (c : Nat) (_ : l.length ≤ c) (_ : c ≤ maxLen) (h : Lies w w.heap.size A (ints .i64 l)) (_ : ∀ n ∈ l, (Lit.int .i64 n).wf = true) (a : Int) (ha : (Lit.int .u8 a).wf = true) :
    Calls Try.prog 5 #[.slice A l.length c, .int .u8 a] w fun e w' => e = .returned (.bool true) ∧ Below w.heap.size w w' := by
  have hb : 0 ≤ a ∧ a < 256 := by
    simp [Lit.wf, IntKind.min, IntKind.max, IntKind.signed, IntKind.bits] at ha
    omega
  by_cases hh : 200 < l.length
  · exact walk_long w A l c hh a
  · exact walk_ok w A l c (by omega) h a hb.1 hb.2
-- WRAP
theorem spec : LawSpec Rows.orderTwiceSpec 2 := ⟨rfl, fun H ds h => by
  match ds, h with
  | [d0, d1], _ => rfl⟩
theorem params_ok : ∀ t ∈ Try.f5.params.toList, Try.prog.readableRec t = true ∧ t < Try.prog.types.size := by
  rw [Try.params5]
  intro t ht
  simp only [List.mem_cons, List.mem_nil_iff, or_false] at ht
  rcases ht with rfl | rfl
  all_goals exact ⟨by kernel_rfl, of_decide_eq_true (by kernel_rfl)⟩

set_option maxRecDepth 100000 in
theorem contract (H : Type) (enc : TypeId × Value → H) (W : World) (base : Nat) (args : Array Value) (ds gs : List (DataW H)) (before : List MemPlace)
    (hval : ∀ (j : Nat) t v, Try.f5.params[j]? = some t → args[j]? = some v → Value.okWide Try.prog W .any base t v)
    (hW : DataW.Whole enc Try.prog Try.f5.params.toList Rows.orderTwiceSpec.vars false W args.toList ds gs before) :
    Calls Try.prog 5 args W fun e W' => ∃ v, e = .returned v ∧ Rows.orderTwiceSpec.post enc Try.prog Try.f5 false true false false W args v W' := by
  have hW' := hW
  obtain ⟨p, q, hA0, hV, rfl, hfz, hnd⟩ := hW
  have hA : DataW.TrodAll enc Try.prog W 0 (fun _ => true) true Try.f5.params.toList args.toList ds p := hA0
  rw [Try.params5] at hA hval
  obtain ⟨v0, vs0, d0, ds0, p0, q0, hargs, rfl, rfl, h0, r0⟩ := trodAll_cons hA
  obtain ⟨v1, vs1, d1, ds1, p1, q1, rfl, rfl, rfl, h1, r1⟩ := trodAll_cons r0
  obtain ⟨rfl, rfl, rfl⟩ := trodAll_nil r1
  obtain rfl : args = #[v0, v1] := by cases args; simp_all
  obtain ⟨A0, l0, c0, rfl, hc0, hm0, hl0, wf0⟩ := open_list Try.underlying22 Try.underlying3 (by kernel_rfl) (hval 0 22 v0 rfl rfl) h0
  obtain ⟨a1, rfl, rfl, rfl, w1⟩ := open_int Try.underlying5 (hval 1 5 v1 rfl rfl) h1
  exact (walk W A0 l0 c0 hc0 hm0 hl0 wf0 a1 w1).mono fun e W' ⟨he, hg⟩ => ⟨_, he, law_post spec (by rw [Try.params5]; rfl) (by kernel_rfl) params_ok (by kernel_rfl) Try.underlying4 hW' hg⟩

theorem own : ownKnob Try.prog.godebug = none := by kernel_rfl
set_option maxRecDepth 100000 in
theorem lifted (os : Os) (started : os.Started) (H : Type) (enc : TypeId × Value → H) :
    ReturnsInHanded {} Try.checked os 5 .any (Rows.orderTwiceSpec.pre6 enc Try.prog Try.f5 Rows.orderTwiceRow.domain false) (Rows.orderTwiceSpec.post enc Try.prog Try.f5 false true false false) := by
  refine returnsInHanded_of_change (C := Try.checked) own started (by kernel_rfl) Try.func5
    (ChangeSpec.witness6 (enc := enc) (C := Try.checked) false ⟨#[], #[.slice none 0 0, .int .u8 0], []⟩ 8 (by kernel_rfl) (by kernel_rfl) (by kernel_rfl) (by kernel_rfl)) ?_
  intro W base args ds gs before hval hW _ _
  exact contract H enc W base args ds gs before hval hW
set_option maxRecDepth 100000 in
theorem said : Rows.OrderTwiceSaid :=
  OpenClaim.holds_of_wide 5 Try.f5 rfl rfl rfl rfl rfl rfl rfl ⟨rfl, rfl, rfl, rfl, rfl⟩ rfl rfl rfl rfl rfl (by kernel_rfl) Try.func5 (by kernel_rfl)
    (of_decide_eq_true (by kernel_rfl)) (by unfold Func.isWrapper; first | (rw [if_pos (by decide +kernel)]; kernel_rfl) | (rw [if_neg (by decide +kernel)]; exact ⟨rfl, rfl⟩))
    (fun os started H enc _ => lifted os started H enc)
end Go.Proofs.Ytbaaaadjabjfbaa.lawTwice
