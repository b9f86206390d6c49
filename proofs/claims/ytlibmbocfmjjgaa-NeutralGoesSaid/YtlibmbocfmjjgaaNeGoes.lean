/- NeutralGoes: for every list of numbers, every level of eight bits and both directions at both ends, behind it nothing is neutral, all else stays, and once more nothing changes. Conditions: none. -/
import Derived.Test.YtlibmbocfmjjgaaNeV
import Derived.Test.YtlibmbocfmjjgaaLawB
import Derived.Test.YtlibmbocfmjjgaaSame
import Derived.Test.YtlibmbocfmjjgaaInts2
import Derived.Deep.DeepCutAuto
import Derived.Test.YtlibmbocfmjjgaaRows
namespace Go.Proofs.Ytlibmbocfmjjgaa.lawGoes
open Go.ChangeShapes Go.WideShapes Go.ChangeAt Go.RowKit

/-- one place, ahead and behind -/
structure At (x y : Int) : Prop where
  gone : isNeutral y = false
  stay : isNeutral x = false → y = x
  two : isNeutral x = true → y = 0 ∨ y = 1
theorem at_place (l : List Int) (lev sos eos : Int) {i : Nat} (h : i < l.length) (h' : i < (nofI l lev sos eos).length) : At l[i] (nofI l lev sos eos)[i] := by
  have h1 := nofI_at l lev sos eos h
  have h2 : (nofI l lev sos eos)[i] = outAt l lev sos eos i := by
    rw [List.getElem?_eq_getElem h'] at h1
    injection h1
  have h3 := nofI_none l lev sos eos i
  rw [getD_at h'] at h3
  refine ⟨h3, fun hx => ?_, fun hx => ?_⟩
  · rw [h2, outAt, getD_at h, hx, if_neg (by simp)]
  · rw [h2, outAt, getD_at h, hx, if_pos rfl]; exact to_two _ _ _ _ _

set_option maxRecDepth 20000 in
set_option maxHeartbeats 8000000 in
theorem walk_ok (w : World) (A : Option Addr) (l : List Int) (c : Nat) (hl : l.length ≤ 500) (h : Lies w w.heap.size A (ints .i64 l)) (u : Nat) (hu : u ≤ 255) (a b : Bool) :
    Calls Try.prog 4 #[.slice A l.length c, .int .u8 (u : Int), .agg #[.bool a, .bool b]] w fun e w' => e = .returned (.bool true) ∧ Below w.heap.size w w' := by
  have hw0 : IntKind.i64.wrap (u : Int) = (u : Int) := IntWalk.i64_in _ (by omega)
  obtain ⟨w0, hw0'⟩ : ∃ x, w.alloc (.cells #[.bool a, .bool b] 33) = x := ⟨_, rfl⟩
  obtain ⟨q, hq⟩ : ∃ q, w.heap.size = q := ⟨_, rfl⟩
  have B0 : Hid (Below w.heap.size w w0) := Lib.hid (hw0' ▸ below_alloc w _)
  have BX : Hid (∀ x, Below w0.heap.size w0 x → x.cell? ⟨q, 0, none⟩ = some (.bool a) ∧ x.cell? ⟨q, 1, none⟩ = some (.bool b)) := by
    subst hw0' hq
    exact Lib.hid fun x hx => ⟨boxed hx rfl, boxed hx rfl⟩
  have H := Lib.hid (h.up B0.out)
  obtain ⟨s1, hs1⟩ : ∃ n : Int, (if a then 1 else 0) = n := ⟨_, rfl⟩
  obtain ⟨s2, hs2⟩ : ∃ n : Int, (if b then 1 else 0) = n := ⟨_, rfl⟩
  have HS1 := Lib.hid hs1
  have HS2 := Lib.hid hs2
  obtain ⟨L, hL⟩ : ∃ L, nofI l u s1 s2 = L := ⟨_, rfl⟩
  have hLL : L.length = l.length := by rw [← hL, nofI_length]
  have HL := Lib.hid hL
  have HLA : Hid (nofI L u s1 s2 = L) := Lib.hid (by rw [← hL, nofI_again])
  have HLL := Lib.hid hLL
  have HAT : Hid (∀ i (hi : i < l.length) (hi' : i < L.length), At l[i] L[i]) := Lib.hid fun i hi hi' => by subst hL; exact at_place l u s1 s2 hi hi'
  clear h hL hLL hs1 hs2
  go_enter Try.func4, Try.ntmps4
  go_wp2_with fail
  clear hw0'
  have hq' := Lib.hid hq
  clear hq
  refine (nalive_any w0).mono ?_
  rintro e w1 ⟨rfl, b1⟩
  have B1 := Lib.hid (below_then B0.out b1)
  have H1 := Lib.hid (H.out.up b1)
  obtain ⟨x0, x1⟩ := BX.out w1 b1
  clear b1
  go_upto_if 17 with fail
  go_cut [7] (fun v wx => v = .int .i64 s1 ∧ w1 = wx)
  case first =>
    rcases a with _ | _
    · have e : Hid ((0 : Int) = s1) := Lib.hid (by rw [← HS1.out]; rfl)
      go_wp2_with fail
      go_meet
      exact ⟨by rw [e.out], rfl⟩
    · have e : Hid ((1 : Int) = s1) := Lib.hid (by rw [← HS1.out]; rfl)
      go_wp2_with fail
      go_meet
      exact ⟨by rw [e.out], rfl⟩
  case rest =>
    obtain ⟨rfl, rfl⟩ := hcut
    go_upto_if 19 with fail
    go_cut [8] (fun v wx => v = .int .i64 s2 ∧ w1 = wx)
    case first =>
      rcases b with _ | _
      · have e : Hid ((0 : Int) = s2) := Lib.hid (by rw [← HS2.out]; rfl)
        go_wp2_with fail
        go_meet
        exact ⟨by rw [e.out], rfl⟩
      · have e : Hid ((1 : Int) = s2) := Lib.hid (by rw [← HS2.out]; rfl)
        go_wp2_with fail
        go_meet
        exact ⟨by rw [e.out], rfl⟩
    case rest =>
      obtain ⟨rfl, rfl⟩ := hcut
      clear x0 x1
      go_wp2_with fail
      refine (nof_any A l c u s1 s2 w1 H1.out (by omega)).mono ?_
      rintro e w2 ⟨v2, rfl, o2, b2⟩
      rw [HL.out] at o2
      obtain ⟨A2, c2, hv2, l2, -, -⟩ := o2.form
      rw [ints, List.length_map, HLL.out] at hv2
      subst hv2
      have B2 := Lib.hid (below_then B1.out b2)
      have L2 := Lib.hid l2
      have H2 := Lib.hid (H1.out.up b2)
      clear o2 l2 b2
      have HN : Hid (Calls Try.prog 9 #[.slice A2 l.length c2, .int .i64 (u : Int), .int .i64 s1, .int .i64 s2] w2 fun ed w' => Rowed w2 w2.heap.size 3 (ints .i64 L) ed w') := Lib.hid (by
        have := nof_any A2 L c2 u s1 s2 w2 L2.out (by rw [HLL.out]; omega)
        rw [HLL.out, HLA.out] at this
        exact this)
      go_wp2_with fail
      refine HN.out.mono ?_
      rintro e w3 ⟨v3, rfl, o3, b3⟩
      obtain ⟨A3, c3, hv3, l3, -, -⟩ := o3.form
      rw [ints, List.length_map, HLL.out] at hv3
      subst hv3
      have B3 := Lib.hid (below_then B2.out b3)
      have HI : Hid (Calls Try.prog 8 #[.slice A3 l.length c3, .slice A2 l.length c2] w3 fun e w' => e = .returned (.bool true) ∧ Below w3.heap.size w3 w') := Lib.hid (by
        have := ints_ok A3 A2 L c3 c2 w3 l3 (L2.out.up b3) (by rw [HLL.out]; omega)
        rw [HLL.out] at this
        exact this)
      have L3 := Lib.hid (L2.out.up b3)
      have H3 := Lib.hid (H2.out.up b3)
      clear o3 l3 b3
      go_wp2_with fail
      refine HI.out.mono ?_
      rintro e w4 ⟨rfl, b4⟩
      have B4 := Lib.hid (below_then B3.out b4)
      have L4 := Lib.hid (L3.out.up b4)
      have H4 := Lib.hid (H3.out.up b4)
      clear b4
      go_wp2_with fail
      go_loopw [10] (fun iv wr => ∃ i : Nat, i ≤ l.length ∧ iv = .int .i64 i ∧ Below w4.heap.size w4 wr) (fun iv _ => l.length - (intOf iv).toNat)
      case atStart => exact ⟨0, by omega, rfl, Below.refl _ _⟩
      case round =>
        obtain ⟨i, hi, rfl, hb⟩ := hrel
        have HB := Lib.hid hb
        clear hb
        by_cases hlt : i < l.length
        · have hlo : i < L.length := by rw [HLL.out]; exact hlt
          obtain ⟨p, hp, _, hcx⟩ := (H4.out.up HB.out).int hlt
          obtain ⟨p2, hp2, _, hck⟩ := (L4.out.up HB.out).int hlo
          subst hp hp2
          have hat := HAT.out i hlt hlo
          obtain ⟨x, hx⟩ : ∃ x, l[i] = x := ⟨_, rfl⟩
          obtain ⟨y, hy⟩ : ∃ y, L[i] = y := ⟨_, rfl⟩
          rw [hx, hy] at hat
          rw [hx] at hcx
          rw [hy] at hck
          have c0 : (0 : Int) ≤ (i : Int) := by omega
          have c1 : (i : Int) < (l.length : Int) := by omega
          have hgone := hat.gone
          clear hx hy hlo
          rcases hn : isNeutral x with _ | _
          · obtain rfl := hat.stay hn
            have HY : Hid (∀ v, Calls Try.prog 18 #[.int .i64 y] v fun e w' => e = .returned (.bool false) ∧ v = w') := Lib.hid fun v => hn ▸ rneutral_any y v
            clear hat hn hgone
            go_wp2_with fail
            go_quiet ((first | (go_at_call 18; with_reducible exact quiet_same (HY.out _))))
            go_wp2_with fail
            go_roundw
            case rel => exact ⟨i + 1, by omega, by go_num, below_drawn HB.out _⟩
            case measure => simp [intOf]; omega
          · have HX : Hid (∀ v, Calls Try.prog 18 #[.int .i64 x] v fun e w' => e = .returned (.bool true) ∧ v = w') := Lib.hid fun v => hn ▸ rneutral_any x v
            have HY : Hid (∀ v, Calls Try.prog 18 #[.int .i64 y] v fun e w' => e = .returned (.bool false) ∧ v = w') := Lib.hid fun v => hgone ▸ rneutral_any y v
            rcases hat.two hn with rfl | rfl
            · clear hat hn hgone
              go_wp2_with fail
              go_quiet ((first | (go_at_call 18; first | with_reducible exact quiet_same (HY.out _) | with_reducible exact quiet_same (HX.out _))))
              go_wp2_with fail
              go_roundw
              case rel => exact ⟨i + 1, by omega, by go_num, below_drawn HB.out _⟩
              case measure => simp [intOf]; omega
            · clear hat hn hgone
              go_wp2_with fail
              go_quiet ((first | (go_at_call 18; first | with_reducible exact quiet_same (HY.out _) | with_reducible exact quiet_same (HX.out _))))
              go_wp2_with fail
              go_roundw
              case rel => exact ⟨i + 1, by omega, by go_num, below_drawn HB.out _⟩
              case measure => simp [intOf]; omega
        · obtain rfl : i = l.length := by omega
          go_wp2
          go_ret
          exact ⟨rfl, below_then B4.out HB.out⟩

set_option maxHeartbeats 1000000 in
theorem walk_long (w : World) (A : Option Addr) (l : List Int) (c : Nat) (hl : l.length ≤ 9223372036854775807) (hh : 500 < l.length) (u : Int) (a b : Bool) :
    Calls Try.prog 4 #[.slice A l.length c, .int .u8 u, .agg #[.bool a, .bool b]] w fun e w' => e = .returned (.bool true) ∧ Below w.heap.size w w' := by
  go_enter Try.func4, Try.ntmps4
  go_wp2_with fail
  refine (nalive_any _).mono ?_
  rintro e w1 ⟨rfl, b1⟩
  have B1 := Lib.hid (below_then (below_alloc w _) b1)
  clear b1
  go_wp2
  go_ret
  exact ⟨rfl, B1.out⟩

theorem walk (w : World) (A : Option Addr) (l : List Int) (c : Nat) (hc : l.length ≤ c) (hm : c ≤ maxLen) (h : Lies w w.heap.size A (ints .i64 l)) (_ : ∀ n ∈ l, (Lit.int .i64 n).wf = true) (u : Int) (hu : (Lit.int .u8 u).wf = true) (a b : Bool) :
    Calls Try.prog 4 #[.slice A l.length c, .int .u8 u, .agg #[.bool a, .bool b]] w fun e w' => e = .returned (.bool true) ∧ Below w.heap.size w w' := by
  unfold maxLen at hm
  have hb := bounds_u8 hu
  obtain ⟨z, rfl⟩ : ∃ z : Nat, u = z := ⟨u.toNat, by omega⟩
  by_cases hh : 500 < l.length
  · exact walk_long w A l c (by omega) hh _ a b
  · exact walk_ok w A l c (by omega) h z (by omega) a b
-- WRAP
theorem spec : LawSpec Rows.neutralGoesSpec 3 := ⟨rfl, fun H ds h => by
  match ds, h with
  | [d0, d1, d2], _ => rfl⟩
theorem params_ok : ∀ t ∈ Try.f4.params.toList, Try.prog.readableRec t = true ∧ t < Try.prog.types.size := by
  rw [Try.params4]
  intro t ht
  simp only [List.mem_cons, List.mem_nil_iff, or_false] at ht
  rcases ht with rfl | rfl | rfl
  all_goals exact ⟨by kernel_rfl, of_decide_eq_true (by kernel_rfl)⟩

theorem contract (H : Type) (enc : TypeId × Value → H) (W : World) (base : Nat) (args : Array Value) (ds gs : List (DataW H)) (before : List MemPlace)
    (hval : ∀ (j : Nat) t v, Try.f4.params[j]? = some t → args[j]? = some v → Value.okWide Try.prog W .any base t v)
    (hW : DataW.Whole enc Try.prog Try.f4.params.toList Rows.neutralGoesSpec.vars false W args.toList ds gs before) :
    Calls Try.prog 4 args W fun e W' => ∃ v, e = .returned v ∧ Rows.neutralGoesSpec.post enc Try.prog Try.f4 false true false false W args v W' := by
  have hW' := hW
  obtain ⟨p, q, hA0, hV, rfl, hfz, hnd⟩ := hW
  have hA : DataW.TrodAll enc Try.prog W 0 (fun _ => true) true Try.f4.params.toList args.toList ds p := hA0
  rw [Try.params4] at hA hval
  obtain ⟨v0, vs0, d0, ds0, p0, q0, hargs, rfl, rfl, h0, r0⟩ := trodAll_cons hA
  obtain ⟨v1, vs1, d1, ds1, p1, q1, rfl, rfl, rfl, h1, r1⟩ := trodAll_cons r0
  obtain ⟨v2, vs2, d2, ds2, p2, q2, rfl, rfl, rfl, h2, r2⟩ := trodAll_cons r1
  obtain ⟨rfl, rfl, rfl⟩ := trodAll_nil r2
  obtain rfl : args = #[v0, v1, v2] := by cases args; simp_all
  obtain ⟨A0, l0, c0, rfl, hc0, hm0, hl0, wf0⟩ := open_list Try.underlying22 Try.underlying3 (by kernel_rfl) (hval 0 22 v0 rfl rfl) h0
  obtain ⟨a1, rfl, rfl, rfl, w1⟩ := open_int Try.underlying5 (hval 1 5 v1 rfl rfl) h1
  obtain ⟨n2, rfl, hn2⟩ := open_bools Try.underlying33 Try.underlying4 (by kernel_rfl) (by kernel_rfl) (hval 2 33 v2 rfl rfl) h2
  rcases n2 with _ | ⟨x2_0, n2⟩
  · simp at hn2
  rcases n2 with _ | ⟨x2_1, n2⟩
  · simp at hn2
  obtain rfl : n2 = [] := List.eq_nil_of_length_eq_zero (by simpa using hn2)
  exact (walk W A0 l0 c0 hc0 hm0 hl0 wf0 a1 w1 x2_0 x2_1).mono fun e W' ⟨he, hg⟩ => ⟨_, he, law_post spec (by rw [Try.params4]; rfl) (by kernel_rfl) params_ok (by kernel_rfl) Try.underlying4 hW' hg⟩

theorem own : ownKnob Try.prog.godebug = none := by kernel_rfl
set_option maxRecDepth 100000 in
theorem lifted (os : Os) (started : os.Started) (H : Type) (enc : TypeId × Value → H) :
    ReturnsInHanded {} Try.checked os 4 .any (Rows.neutralGoesSpec.pre6 enc Try.prog Try.f4 Rows.neutralGoesRow.domain false) (Rows.neutralGoesSpec.post enc Try.prog Try.f4 false true false false) := by
  refine returnsInHanded_of_change (C := Try.checked) own started (by kernel_rfl) Try.func4
    (ChangeSpec.witness6 (enc := enc) (C := Try.checked) false ⟨#[], #[.slice none 0 0, .int .u8 0, .agg #[.bool false, .bool false]], []⟩ 8 (by kernel_rfl) (by kernel_rfl) (by kernel_rfl) (by kernel_rfl)) ?_
  intro W base args ds gs before hval hW _ _
  exact contract H enc W base args ds gs before hval hW
theorem said : Rows.NeutralGoesSaid :=
  OpenClaim.holds_of_wide 4 Try.f4 rfl rfl rfl rfl rfl rfl rfl ⟨rfl, rfl, rfl, rfl, rfl⟩ rfl rfl rfl rfl rfl (by kernel_rfl) Try.func4 (by kernel_rfl)
    (of_decide_eq_true (by kernel_rfl)) (by unfold Func.isWrapper; first | (rw [if_pos (by decide +kernel)]; kernel_rfl) | (rw [if_neg (by decide +kernel)]; exact ⟨rfl, rfl⟩))
    (fun os started H enc _ => lifted os started H enc)
end Go.Proofs.Ytlibmbocfmjjgaa.lawGoes
