/- OrderSeen: as many characters are seen as there are; in even levels they are as they are, in odd ones the other way round and mirrored; of fewer characters than levels none is seen. Conditions: none. -/
import Derived.Test.YtbaaaadjabjfbaaOrV
import Derived.Test.YtbaaaadjabjfbaaLaw
import Derived.Test.YtbaaaadjabjfbaaSame
import Derived.Test.YtbaaaadjabjfbaaRows
namespace Go.Proofs.Ytbaaaadjabjfbaa.lawSeen
open Go.ChangeShapes Go.WideShapes Go.ChangeAt Go.RowKit

theorem seen_even (l : List Int) : seenI l (List.replicate l.length 0) = l := by
  rw [seenI, if_pos (by simp), order_same (by decide) (by decide), if_pos (by decide)]
  refine List.ext_getElem (by simp) fun i h1 h2 => ?_
  simp only [List.getElem_map, List.getElem_range]
  rw [seen1, List.getD_eq_getElem?_getD, List.getElem?_replicate, if_pos h2, Option.getD_some, if_neg (by decide), getD_at h2]
theorem seen_odd (l : List Int) : seenI l (List.replicate l.length 1) = l.reverse.map mir := by
  rw [seenI, if_pos (by simp), order_same (by decide) (by decide), if_neg (by decide)]
  refine List.ext_getElem (by simp) fun i h1 h2 => ?_
  have hi : i < l.length := by simpa using h2
  simp only [List.getElem_map, List.getElem_reverse, List.getElem_range, List.length_range]
  have hj : l.length - 1 - i < l.length := by omega
  rw [seen1, List.getD_eq_getElem?_getD, List.getElem?_replicate, if_pos hj, Option.getD_some, if_pos (by decide), getD_at hj]
theorem seen_more (l : List Int) (k : Int) : seenI l (List.replicate l.length k ++ [0]) = [] := by
  rw [seenI, if_neg (by simp)]
theorem want_odd {l : List Int} {k : Nat} (h : k < l.length) : (l.reverse.map mir)[k]? = some (mir (l.getD (l.length - 1 - k) 0)) := by
  rw [List.getElem?_map, List.getElem?_reverse h, List.getElem?_eq_getElem (by omega), getD_at (by omega)]; rfl
def wantI (l : List Int) (b : Bool) : List Int := if b then l.reverse.map mir else l
theorem want_seen (l : List Int) (b : Bool) : seenI l (List.replicate l.length (if b then 1 else 0)) = wantI l b := by
  cases b
  · exact seen_even l
  · exact seen_odd l
theorem want_length (l : List Int) (b : Bool) : (wantI l b).length = l.length := by
  cases b <;> simp [wantI]
theorem rep_next (k : Nat) (v : Int) : ints .i64 (List.replicate k v) ++ [Value.int .i64 v] = ints .i64 (List.replicate (k + 1) v) := by
  rw [List.replicate_succ', ints, ints, List.map_append]; rfl

set_option maxRecDepth 20000 in
set_option maxHeartbeats 8000000 in
theorem walk_ok (w : World) (A : Option Addr) (l : List Int) (c : Nat) (hl : l.length ≤ 200) (h : Lies w w.heap.size A (ints .i64 l)) (b : Bool) :
    Calls Try.prog 6 #[.slice A l.length c, .bool b] w fun e w' => e = .returned (.bool true) ∧ Below w.heap.size w w' := by
  have HL := Lib.hid h
  obtain ⟨v, hv⟩ : ∃ v : Int, (if b then 1 else 0) = v := ⟨_, rfl⟩
  have HV := Lib.hid hv
  have HW : Hid (seenI l (List.replicate l.length v) = wantI l b) := Lib.hid (by rw [← hv]; exact want_seen l b)
  have HWL := Lib.hid (want_length l b)
  have HSM := Lib.hid (seen_more l v)
  have d1 : decide (200 < (l.length : Int)) = false := by simp; omega
  clear h hv
  go_enter Try.func6, Try.ntmps6
  go_wp2_with fail
  refine (oralive_any w).mono ?_
  rintro e w1 ⟨rfl, b1⟩
  have B1 := Lib.hid b1
  have L1 := Lib.hid (HL.out.up b1)
  clear b1
  go_wp2_with fail
  go_loopw [6, 5] (fun iv ov wr => ∃ k : Nat, k ≤ l.length ∧ iv = .int .i64 k ∧ Hid (Own wr w1.heap.size 3 ov (ints .i64 (List.replicate k v))) ∧ Hid (Below w1.heap.size w1 wr)) (fun iv _ _ => l.length - (intOf iv).toNat)
  case atStart => exact ⟨0, by omega, rfl, Lib.hid (Own.empty _ _ _), Lib.hid (Below.refl _ _)⟩
  case round =>
    obtain ⟨k, hk, rfl, HO, HB⟩ := hrel
    by_cases hlt : k < l.length
    · have k1 : (k : Int) < (l.length : Int) := by omega
      cases b
      · obtain rfl : v = 0 := HV.out.symm
        go_wp2_with (first
          | (at_builtin; refine app_lit intsT w1 wr w1.heap.size _ _ #[.int .i64 0] 1 _ (ints .i64 (List.replicate k 0)) rfl rfl rfl rfl HO.out (by simp [Value.oneCell']) HB.out HB.out.size (by unfold maxLen; simp; omega) (by simp; omega) ?_; intro v2 w2 o2 b2 _ _; have O2 : Hid (Own w2 w1.heap.size 3 v2 (ints .i64 (List.replicate (k + 1) 0))) := Lib.hid (by rw [← rep_next]; exact o2); have B2 := Lib.hid b2; clear o2 b2)
          | fail)
        go_roundw
        case rel => exact ⟨k + 1, by omega, by go_num, O2, B2⟩
        case measure => simp [intOf]; omega
      · obtain rfl : v = 1 := HV.out.symm
        go_wp2_with (first
          | (at_builtin; refine app_lit intsT w1 wr w1.heap.size _ _ #[.int .i64 1] 1 _ (ints .i64 (List.replicate k 1)) rfl rfl rfl rfl HO.out (by simp [Value.oneCell']) HB.out HB.out.size (by unfold maxLen; simp; omega) (by simp; omega) ?_; intro v2 w2 o2 b2 _ _; have O2 : Hid (Own w2 w1.heap.size 3 v2 (ints .i64 (List.replicate (k + 1) 1))) := Lib.hid (by rw [← rep_next]; exact o2); have B2 := Lib.hid b2; clear o2 b2)
          | fail)
        go_roundw
        case rel => exact ⟨k + 1, by omega, by go_num, O2, B2⟩
        case measure => simp [intOf]; omega
    · obtain rfl : k = l.length := by omega
      have O3 := HO.out
      obtain ⟨AV, cV, hVV, lV, -, -⟩ := O3.form
      rw [ints, List.length_map, List.length_replicate] at hVV
      subst hVV
      have HO3 := Lib.hid O3
      have LV := Lib.hid lV
      have B3 := Lib.hid (below_then B1.out HB.out)
      have L3 := Lib.hid (L1.out.up HB.out)
      have HS1 := Lib.hid (nseen14_any A AV l (List.replicate l.length v) c cV wr (L3.out) (LV.out) (by rw [List.length_replicate]; omega))
      rw [List.length_replicate] at HS1
      clear O3 lV HO
      go_wp2_with fail
      refine (HS1.out).mono ?_
      rintro e w4 ⟨v4, rfl, o4, b4⟩
      rw [HW.out] at o4
      obtain ⟨A4, c4, rfl, l4, -, -⟩ := o4.form
      have hwl : (ints .i64 (wantI l b)).length = l.length := by rw [ints, List.length_map, HWL.out]
      rw [hwl]
      have B4 := Lib.hid (below_then B3.out b4)
      have D4 := Lib.hid b4
      have L4 := Lib.hid (L3.out.up b4)
      have R4 := Lib.hid l4
      have O4 := Lib.hid (HO3.out.below b4 (Nat.le_refl _))
      clear hwl o4 b4 l4
      go_wp2_with fail
      go_loopw [9] (fun iv wv => ∃ k : Nat, k ≤ l.length ∧ iv = .int .i64 k ∧ Hid (Below w4.heap.size w4 wv)) (fun iv _ => l.length - (intOf iv).toNat)
      case atStart => exact ⟨0, by omega, rfl, Lib.hid (Below.refl _ _)⟩
      case round =>
        obtain ⟨k, hk, rfl, HB5⟩ := hrel
        rename World => w5
        by_cases hlt : k < l.length
        · obtain ⟨p, rfl, _, hca⟩ := (Lies.up L4.out HB5.out).int hlt
          have hwk : k < (wantI l b).length := by rw [HWL.out]; exact hlt
          obtain ⟨q, rfl, _, hcb⟩ := (Lies.up R4.out HB5.out).int hwk
          have k0 : (0 : Int) ≤ (k : Int) := by omega
          have k1 : (k : Int) < (l.length : Int) := by omega
          cases b
          · have hwe : (wantI l false)[k] = l[k]'hlt := rfl
            rw [hwe] at hcb
            obtain ⟨x, hx⟩ : ∃ x, l[k]'hlt = x := ⟨_, rfl⟩
            rw [hx] at hca hcb
            have hxx : (x != x) = false := by simp
            clear hwk hwe hx
            go_wp2_with fail
            go_roundw
            case rel => exact ⟨k + 1, by omega, by go_num, HB5⟩
            case measure => simp [intOf]; omega
          · obtain ⟨m, hm⟩ : ∃ m, l.length - 1 - k = m := ⟨_, rfl⟩
            have hml : m < l.length := by omega
            have hwe : (wantI l true)[k] = mir l[m] := by
              have h1 := want_odd hlt
              rw [hm, getD_at hml] at h1
              have h2 : (wantI l true)[k]? = some (wantI l true)[k] := List.getElem?_eq_getElem hwk
              rw [show (wantI l true)[k]? = (l.reverse.map mir)[k]? from rfl, h1] at h2
              exact (Option.some.inj h2).symm
            rw [hwe] at hcb
            obtain ⟨p', hp', _, hcc⟩ := (Lies.up L4.out HB5.out).int hml
            injection hp' with hp'
            subst hp'
            obtain ⟨x, hca⟩ : ∃ x, w5.cell? (p.add k) = some (.int .i64 x) := ⟨_, hca⟩
            obtain ⟨y, hy⟩ : ∃ y, l[m] = y := ⟨_, rfl⟩
            obtain ⟨z, hz⟩ : ∃ z, mir y = z := ⟨_, rfl⟩
            rw [hy] at hcc hcb
            rw [hz] at hcb
            have HZ := Lib.hid hz
            have m0 : (0 : Int) ≤ (m : Int) := by omega
            have m1 : (m : Int) < (l.length : Int) := by omega
            have hw1 : IntKind.i64.wrap ((l.length : Int) - 1) = (l.length : Int) - 1 := IntWalk.i64_in _ (by omega)
            have hw2 : IntKind.i64.wrap ((l.length : Int) - 1 - (k : Int)) = (m : Int) := by rw [IntWalk.i64_in _ (by omega)]; omega
            have hzz : (z != z) = false := by simp
            have HCB : Hid (∀ u, Below w5.heap.size w5 u → u.cell? (q.add k) = some (.int .i64 z)) := Lib.hid (fun u hu => by
              obtain ⟨q', e, _, hh⟩ := (Lies.up (Lies.up R4.out HB5.out) hu).int hwk
              injection e with e
              subst e
              rw [hh, hwe, hy, hz])
            have HM := Lib.hid hm
            clear hwk hwe hy hz hm hml hcb
            go_wp2_with fail
            refine (rmirror_any y w5).mono ?_
            rintro e w6 ⟨rfl, b6⟩
            rw [HZ.out]
            have hcb := HCB.out w6 b6
            have B6 := Lib.hid (below_then HB5.out b6)
            clear b6
            go_wp2_with fail
            go_roundw
            case rel => exact ⟨k + 1, by omega, by go_num, B6⟩
            case measure => simp [intOf]; omega
        · obtain rfl : k = l.length := by omega
          have k1 : ¬ (l.length : Int) < (l.length : Int) := by omega
          have B5 := Lib.hid (below_then B4.out HB5.out)
          have L5 := Lib.hid (Lies.up L4.out HB5.out)
          have O5 := Lib.hid (O4.out.below HB5.out (Nat.le_refl _))
          have hs5 : w1.heap.size ≤ w5.heap.size := by have := D4.out.size; have := HB.out.size; have := HB5.out.size; omega
          go_wp2_with (first
            | (at_builtin; refine app_lit intsT w5 w5 w1.heap.size _ _ #[.int .i64 0] 1 _ (ints .i64 (List.replicate l.length v)) rfl rfl rfl rfl O5.out (by simp [Value.oneCell']) (Below.refl _ _) hs5 (by unfold maxLen; simp; omega) (by simp; omega) ?_; intro v7 w7 o7 b7 _ _)
            | fail)
          have e7 : ints .i64 (List.replicate l.length v) ++ [Value.int .i64 0] = ints .i64 (List.replicate l.length v ++ [0]) := by simp [ints]
          rw [e7] at o7
          have HRL : Hid ((List.replicate l.length v ++ [0]).length ≤ 1000000) := Lib.hid (by simp; omega)
          generalize List.replicate l.length v ++ [0] = R at *
          obtain ⟨A7, c7, rfl, l7, -, -⟩ := o7.form
          rw [ints, List.length_map]
          have B7 := Lib.hid (B5.out.trans (b7.mono B1.out.size))
          have R7 := Lib.hid l7
          have L7 := Lib.hid (HL.out.up B7.out)
          clear o7 b7 l7 e7
          refine (nseen14_any A A7 l R c c7 w7 L7.out R7.out HRL.out).mono ?_
          rintro e w8 ⟨v8, rfl, o8, b8⟩
          rw [HSM.out] at o8
          obtain ⟨A8, c8, rfl, -, -, -⟩ := o8.form
          have B8 := Lib.hid (below_then B7.out b8)
          clear o8 b8
          go_wp2
          go_ret
          exact ⟨rfl, B8.out⟩

set_option maxHeartbeats 1000000 in
theorem walk_long (w : World) (A : Option Addr) (l : List Int) (c : Nat) (hh : 200 < l.length) (b : Bool) :
    Calls Try.prog 6 #[.slice A l.length c, .bool b] w fun e w' => e = .returned (.bool true) ∧ Below w.heap.size w w' := by
  have d1 : decide (200 < (l.length : Int)) = true := by simp; omega
  clear hh
  go_enter Try.func6, Try.ntmps6
  go_wp2_with fail
  refine (oralive_any _).mono ?_
  rintro e w1 ⟨rfl, b1⟩
  have B1 := Lib.hid b1
  clear b1
  go_wp2
  go_ret
  exact ⟨rfl, B1.out⟩

theorem walk (w : World) (A : Option Addr) (l : List Int) (c : Nat) (_ : l.length ≤ c) (_ : c ≤ maxLen) (h : Lies w w.heap.size A (ints .i64 l)) (_ : ∀ n ∈ l, (Lit.int .i64 n).wf = true) (b : Bool) :
    Calls Try.prog 6 #[.slice A l.length c, .bool b] w fun e w' => e = .returned (.bool true) ∧ Below w.heap.size w w' := by
  by_cases hh : 200 < l.length
  · exact walk_long w A l c hh b
  · exact walk_ok w A l c (by omega) h b
-- WRAP
theorem spec : LawSpec Rows.orderSeenSpec 2 := ⟨rfl, fun H ds h => by
  match ds, h with
  | [d0, d1], _ => rfl⟩
theorem params_ok : ∀ t ∈ Try.f6.params.toList, Try.prog.readableRec t = true ∧ t < Try.prog.types.size := by
  rw [Try.params6]
  intro t ht
  simp only [List.mem_cons, List.mem_nil_iff, or_false] at ht
  rcases ht with rfl | rfl
  all_goals exact ⟨by kernel_rfl, of_decide_eq_true (by kernel_rfl)⟩

set_option maxRecDepth 100000 in
theorem contract (H : Type) (enc : TypeId × Value → H) (W : World) (base : Nat) (args : Array Value) (ds gs : List (DataW H)) (before : List MemPlace)
    (hval : ∀ (j : Nat) t v, Try.f6.params[j]? = some t → args[j]? = some v → Value.okWide Try.prog W .any base t v)
    (hW : DataW.Whole enc Try.prog Try.f6.params.toList Rows.orderSeenSpec.vars false W args.toList ds gs before) :
    Calls Try.prog 6 args W fun e W' => ∃ v, e = .returned v ∧ Rows.orderSeenSpec.post enc Try.prog Try.f6 false true false false W args v W' := by
  have hW' := hW
  obtain ⟨p, q, hA0, hV, rfl, hfz, hnd⟩ := hW
  have hA : DataW.TrodAll enc Try.prog W 0 (fun _ => true) true Try.f6.params.toList args.toList ds p := hA0
  rw [Try.params6] at hA hval
  obtain ⟨v0, vs0, d0, ds0, p0, q0, hargs, rfl, rfl, h0, r0⟩ := trodAll_cons hA
  obtain ⟨v1, vs1, d1, ds1, p1, q1, rfl, rfl, rfl, h1, r1⟩ := trodAll_cons r0
  obtain ⟨rfl, rfl, rfl⟩ := trodAll_nil r1
  obtain rfl : args = #[v0, v1] := by cases args; simp_all
  obtain ⟨A0, l0, c0, rfl, hc0, hm0, hl0, wf0⟩ := open_list Try.underlying22 Try.underlying3 (by kernel_rfl) (hval 0 22 v0 rfl rfl) h0
  obtain ⟨a1, rfl, rfl, rfl⟩ := open_bool Try.underlying4 (hval 1 4 v1 rfl rfl) h1
  exact (walk W A0 l0 c0 hc0 hm0 hl0 wf0 a1).mono fun e W' ⟨he, hg⟩ => ⟨_, he, law_post spec (by rw [Try.params6]; rfl) (by kernel_rfl) params_ok (by kernel_rfl) Try.underlying4 hW' hg⟩

theorem own : ownKnob Try.prog.godebug = none := by kernel_rfl
set_option maxRecDepth 100000 in
theorem lifted (os : Os) (started : os.Started) (H : Type) (enc : TypeId × Value → H) :
    ReturnsInHanded {} Try.checked os 6 .any (Rows.orderSeenSpec.pre6 enc Try.prog Try.f6 Rows.orderSeenRow.domain false) (Rows.orderSeenSpec.post enc Try.prog Try.f6 false true false false) := by
  refine returnsInHanded_of_change (C := Try.checked) own started (by kernel_rfl) Try.func6
    (ChangeSpec.witness6 (enc := enc) (C := Try.checked) false ⟨#[], #[.slice none 0 0, .bool false], []⟩ 8 (by kernel_rfl) (by kernel_rfl) (by kernel_rfl) (by kernel_rfl)) ?_
  intro W base args ds gs before hval hW _ _
  exact contract H enc W base args ds gs before hval hW
set_option maxRecDepth 100000 in
theorem said : Rows.OrderSeenSaid :=
  OpenClaim.holds_of_wide 6 Try.f6 rfl rfl rfl rfl rfl rfl rfl ⟨rfl, rfl, rfl, rfl, rfl⟩ rfl rfl rfl rfl rfl (by kernel_rfl) Try.func6 (by kernel_rfl)
    (of_decide_eq_true (by kernel_rfl)) (by unfold Func.isWrapper; first | (rw [if_pos (by decide +kernel)]; kernel_rfl) | (rw [if_neg (by decide +kernel)]; exact ⟨rfl, rfl⟩))
    (fun os started H enc _ => lifted os started H enc)
end Go.Proofs.Ytbaaaadjabjfbaa.lawSeen
