/- PairTwice: for every number and every list of numbers, what is mirrored twice is as it was, a bracket's other one's other one is the bracket, what is plain stays so. Conditions: none. -/
import Derived.Test.YtglnmphehclffaaPrM
import Derived.Test.YtglnmphehclffaaLaw
import Derived.Test.YtglnmphehclffaaRows
namespace Go.Proofs.Ytglnmphehclffaa.lawTwice
open Go.ChangeShapes Go.WideShapes Go.ChangeAt Go.RowKit

theorem plain_z (A : Option Addr) (z : List Int) (c : Nat) (w : World) (h : Lies w w.heap.size A (ints .i64 z)) (hl : z.length ≤ 5000) (e : z.map pln = z) :
    Calls Try.prog 17 #[.slice A z.length c] w (Rowed w w.heap.size 3 (ints .i64 z)) := by
  have := plain_any A z c w h (by omega)
  rwa [e] at this

set_option maxHeartbeats 4000000 in
theorem walk_ok (w : World) (a : Int) (A : Option Addr) (l : List Int) (c : Nat) (hl : l.length ≤ 5000) (h : Lies w w.heap.size A (ints .i64 l)) :
    Calls Try.prog 4 #[.int .i64 a, .slice A l.length c] w fun e w' => e = .returned (.bool true) ∧ Below w.heap.size w w' := by
  have hfacts := oth_facts a
  have hib : isB a = (oth a).2.2 := rfl
  have htw := mir_twice a
  obtain ⟨o, ho⟩ : ∃ o, oth a = o := ⟨_, rfl⟩
  rw [ho] at hfacts hib
  obtain ⟨x, p, k⟩ := o
  obtain ⟨m, hm⟩ : ∃ m, mir a = m := ⟨_, rfl⟩
  rw [hm] at hfacts htw
  obtain ⟨o2, ho2⟩ : ∃ o, oth x = o := ⟨_, rfl⟩
  simp only [ho2] at hfacts
  obtain ⟨y, q, r⟩ := o2
  obtain ⟨z, hz⟩ : ∃ z, l.map pln = z := ⟨_, rfl⟩
  have hzl : l.length = z.length := by rw [← hz]; simp
  have hzz : z.map pln = z := by rw [← hz, List.map_map]; exact List.map_congr_left fun c _ => pln_twice c
  have HO := Lib.hid ho
  have HO2 := Lib.hid ho2
  have HM := Lib.hid hm
  have HTW := Lib.hid htw
  have HZ := Lib.hid hz
  have HZZ := Lib.hid hzz
  have hz5 : z.length ≤ 5000 := by omega
  have HZL := Lib.hid hzl
  have H := Lib.hid h
  clear ho ho2 hm htw hz hzz hzl h
  cases k with
  | false =>
    clear hfacts hib
    go_enter Try.func4, Try.ntmps4
    go_wp2_with fail
    refine (palive_any w).mono ?_
    rintro e w1 ⟨rfl, b1⟩
    have B1 := Lib.hid b1
    have D1 := Lib.hid b1
    clear b1
    go_wp2_with fail
    refine (other_any a w1).mono ?_
    rintro e w2 ⟨rfl, b2⟩
    rw [HO.out]
    have B2 := Lib.hid (below_then B1.out b2)
    have D2 := Lib.hid b2
    clear b2
    go_wp2_with fail
    refine (other_any x w2).mono ?_
    rintro e w3 ⟨rfl, b3⟩
    rw [HO2.out]
    have B3 := Lib.hid (below_then B2.out b3)
    have D3 := Lib.hid b3
    clear b3
    go_wp2_with fail
    refine (plain_any A l c w3 (H.out.up B3.out) (by omega)).mono ?_
    rintro e w4 ⟨v4, rfl, o4, b4⟩
    rw [HZ.out] at o4
    obtain ⟨A4, c4, rfl, l4, _, _⟩ := o4.form
    have B4 := Lib.hid (below_then B3.out b4)
    have L4 := Lib.hid l4
    have D4 := Lib.hid b4
    simp only [ints, List.length_map]
    clear o4 b4 l4
    have hbe : ((z.length : Int) == (l.length : Int)) = true := by rw [HZL.out]; simp
    go_wp2_with fail
    refine (mirror_any a w4).mono ?_
    rintro e w5 ⟨rfl, b5⟩
    rw [HM.out]
    have B5 := Lib.hid (below_then B4.out b5)
    have D5 := Lib.hid b5
    clear b5
    go_wp2_with fail
    refine (mirror_any m w5).mono ?_
    rintro e w6 ⟨rfl, b6⟩
    rw [HTW.out]
    have B6 := Lib.hid (below_then B5.out b6)
    have D6 := Lib.hid b6
    clear b6
    have L6 := Lib.hid ((L4.out.up D5.out).up D6.out)
    go_wp2_with fail
    refine (plain_z A4 z c4 w6 L6.out hz5 HZZ.out).mono ?_
    rintro e w7 ⟨v7, rfl, o7, b7⟩
    obtain ⟨A7, c7, rfl, l7, _, _⟩ := o7.form
    have B7 := Lib.hid (below_then B6.out b7)
    have L7 := Lib.hid l7
    have D7 := Lib.hid b7
    simp only [ints, List.length_map]
    clear o7 b7 l7
    have L7' := Lib.hid (L6.out.up D7.out)
    go_wp2_with fail
    refine (ints_ok A7 A4 z c7 c4 w7 L7.out L7'.out (by omega)).mono ?_
    rintro e w8 ⟨rfl, b8⟩
    have B8 := Lib.hid (below_then B7.out b8)
    clear b8
    go_wp2
    go_ret
    exact ⟨rfl, B8.out⟩
  | true =>
    obtain ⟨e1, e2, e3, e4, e5, e6⟩ := hfacts hib
    dsimp only at e1 e2 e3 e4 e5 e6
    subst e1 e2 e4
    have hd : q = !p := by revert e3; cases p <;> cases q <;> simp
    subst hd
    have H5 := Lib.hid e5
    have H6 := Lib.hid e6
    clear e3 e5 e6 hib hfacts
    cases p
    all_goals
      go_enter Try.func4, Try.ntmps4
      go_wp2_with fail
      refine (palive_any w).mono ?_
      rintro e w1 ⟨rfl, b1⟩
      have B1 := Lib.hid b1
      have D1 := Lib.hid b1
      clear b1
      go_wp2_with fail
      refine (other_any _ w1).mono ?_
      rintro e w2 ⟨rfl, b2⟩
      rw [HO.out]
      have B2 := Lib.hid (below_then B1.out b2)
      have D2 := Lib.hid b2
      clear b2
      go_wp2_with fail
      refine (other_any _ w2).mono ?_
      rintro e w3 ⟨rfl, b3⟩
      rw [HO2.out]
      have B3 := Lib.hid (below_then B2.out b3)
      have D3 := Lib.hid b3
      clear b3
      go_wp2_with fail
      refine (plain_any A l c w3 (H.out.up B3.out) (by omega)).mono ?_
      rintro e w4 ⟨v4, rfl, o4, b4⟩
      rw [HZ.out] at o4
      obtain ⟨A4, c4, rfl, l4, _, _⟩ := o4.form
      have B4 := Lib.hid (below_then B3.out b4)
      have L4 := Lib.hid l4
      have D4 := Lib.hid b4
      simp only [ints, List.length_map]
      clear o4 b4 l4
      have hbe : ((z.length : Int) == (l.length : Int)) = true := by rw [HZL.out]; simp
      go_wp2_with fail
      refine (mirror_any _ w4).mono ?_
      rintro e w5 ⟨rfl, b5⟩
      rw [HM.out]
      have B5 := Lib.hid (below_then B4.out b5)
      have D5 := Lib.hid b5
      clear b5
      go_wp2_with fail
      refine (mirror_any _ w5).mono ?_
      rintro e w6 ⟨rfl, b6⟩
      rw [HTW.out]
      have B6 := Lib.hid (below_then B5.out b6)
      have D6 := Lib.hid b6
      clear b6
      go_wp2_with fail
      refine (mirror_any _ w6).mono ?_
      rintro e w9 ⟨rfl, b9⟩
      rw [HM.out]
      have B9 := Lib.hid (below_then B6.out b9)
      have D9 := Lib.hid b9
      clear b9
      go_wp2_with fail
      refine (same_any _ _ w9).mono ?_
      rintro e w10 ⟨rfl, b10⟩
      rw [H5.out]
      have B10 := Lib.hid (below_then B9.out b10)
      have D10 := Lib.hid b10
      clear b10
      go_wp2_with fail
      refine (same_any _ _ w10).mono ?_
      rintro e w11 ⟨rfl, b11⟩
      rw [H6.out]
      have B11 := Lib.hid (below_then B10.out b11)
      have D11 := Lib.hid b11
      clear b11
      have L6 := Lib.hid (((((L4.out.up D5.out).up D6.out).up D9.out).up D10.out).up D11.out)
      go_wp2_with fail
      refine (plain_z A4 z c4 w11 L6.out hz5 HZZ.out).mono ?_
      rintro e w7 ⟨v7, rfl, o7, b7⟩
      obtain ⟨A7, c7, rfl, l7, _, _⟩ := o7.form
      have B7 := Lib.hid (below_then B11.out b7)
      have L7 := Lib.hid l7
      have D7 := Lib.hid b7
      simp only [ints, List.length_map]
      clear o7 b7 l7
      have L7' := Lib.hid (L6.out.up D7.out)
      go_wp2_with fail
      refine (ints_ok A7 A4 z c7 c4 w7 L7.out L7'.out (by omega)).mono ?_
      rintro e w8 ⟨rfl, b8⟩
      have B8 := Lib.hid (below_then B7.out b8)
      clear b8
      go_wp2
      go_ret
      exact ⟨rfl, B8.out⟩

set_option maxHeartbeats 1000000 in
theorem walk_long (w : World) (a : Int) (A : Option Addr) (l : List Int) (c : Nat) (hl : l.length ≤ 9223372036854775807) (hh : 5000 < l.length) :
    Calls Try.prog 4 #[.int .i64 a, .slice A l.length c] w fun e w' => e = .returned (.bool true) ∧ Below w.heap.size w w' := by
  go_enter Try.func4, Try.ntmps4
  go_wp2_with fail
  refine (palive_any w).mono ?_
  rintro e w1 ⟨rfl, b1⟩
  have B1 := Lib.hid b1
  have D1 := Lib.hid b1
  clear b1
  go_wp2
  go_ret
  exact ⟨rfl, B1.out⟩

theorem walk (w : World) (a : Int) (_ : (Lit.int .i64 a).wf = true) (A : Option Addr) (l : List Int) (c : Nat) (hc : l.length ≤ c) (hm : c ≤ maxLen) (h : Lies w w.heap.size A (ints .i64 l)) (_ : ∀ n ∈ l, (Lit.int .i64 n).wf = true) :
    Calls Try.prog 4 #[.int .i64 a, .slice A l.length c] w fun e w' => e = .returned (.bool true) ∧ Below w.heap.size w w' := by
  unfold maxLen at hm
  by_cases hh : 5000 < l.length
  · exact walk_long w a A l c (by omega) hh
  · exact walk_ok w a A l c (by omega) h
-- WRAP
theorem spec : LawSpec Rows.pairTwiceSpec 2 := ⟨rfl, fun H ds h => by
  match ds, h with
  | [d0, d1], _ => rfl⟩
theorem params_ok : ∀ t ∈ Try.f4.params.toList, Try.prog.readableRec t = true ∧ t < Try.prog.types.size := by
  rw [Try.params4]
  intro t ht
  simp only [List.mem_cons, List.mem_nil_iff, or_false] at ht
  rcases ht with rfl | rfl
  all_goals exact ⟨by kernel_rfl, of_decide_eq_true (by kernel_rfl)⟩

theorem contract (H : Type) (enc : TypeId × Value → H) (W : World) (base : Nat) (args : Array Value) (ds gs : List (DataW H)) (before : List MemPlace)
    (hval : ∀ (j : Nat) t v, Try.f4.params[j]? = some t → args[j]? = some v → Value.okWide Try.prog W .any base t v)
    (hW : DataW.Whole enc Try.prog Try.f4.params.toList Rows.pairTwiceSpec.vars false W args.toList ds gs before) :
    Calls Try.prog 4 args W fun e W' => ∃ v, e = .returned v ∧ Rows.pairTwiceSpec.post enc Try.prog Try.f4 false true false false W args v W' := by
  have hW' := hW
  obtain ⟨p, q, hA0, hV, rfl, hfz, hnd⟩ := hW
  have hA : DataW.TrodAll enc Try.prog W 0 (fun _ => true) true Try.f4.params.toList args.toList ds p := hA0
  rw [Try.params4] at hA hval
  obtain ⟨v0, vs0, d0, ds0, p0, q0, hargs, rfl, rfl, h0, r0⟩ := trodAll_cons hA
  obtain ⟨v1, vs1, d1, ds1, p1, q1, rfl, rfl, rfl, h1, r1⟩ := trodAll_cons r0
  obtain ⟨rfl, rfl, rfl⟩ := trodAll_nil r1
  obtain rfl : args = #[v0, v1] := by cases args; simp_all
  obtain ⟨a0, rfl, rfl, rfl, w0⟩ := open_int Try.underlying3 (hval 0 3 v0 rfl rfl) h0
  obtain ⟨A1, l1, c1, rfl, hc1, hm1, hl1, wf1⟩ := open_list Try.underlying22 Try.underlying3 (by kernel_rfl) (hval 1 22 v1 rfl rfl) h1
  exact (walk W a0 w0 A1 l1 c1 hc1 hm1 hl1 wf1).mono fun e W' ⟨he, hg⟩ => ⟨_, he, law_post spec (by rw [Try.params4]; rfl) (by kernel_rfl) params_ok (by kernel_rfl) Try.underlying4 hW' hg⟩

theorem own : ownKnob Try.prog.godebug = none := by kernel_rfl
set_option maxRecDepth 100000 in
theorem lifted (os : Os) (started : os.Started) (H : Type) (enc : TypeId × Value → H) :
    ReturnsInHanded {} Try.checked os 4 .any (Rows.pairTwiceSpec.pre6 enc Try.prog Try.f4 Rows.pairTwiceRow.domain false) (Rows.pairTwiceSpec.post enc Try.prog Try.f4 false true false false) := by
  refine returnsInHanded_of_change (C := Try.checked) own started (by kernel_rfl) Try.func4
    (ChangeSpec.witness6 (enc := enc) (C := Try.checked) false ⟨#[], #[.int .i64 0, .slice none 0 0], []⟩ 8 (by kernel_rfl) (by kernel_rfl) (by kernel_rfl) (by kernel_rfl)) ?_
  intro W base args ds gs before hval hW _ _
  exact contract H enc W base args ds gs before hval hW
theorem said : Rows.PairTwiceSaid :=
  OpenClaim.holds_of_wide 4 Try.f4 rfl rfl rfl rfl rfl rfl rfl ⟨rfl, rfl, rfl, rfl, rfl⟩ rfl rfl rfl rfl rfl (by kernel_rfl) Try.func4 (by kernel_rfl)
    (of_decide_eq_true (by kernel_rfl)) (by unfold Func.isWrapper; first | (rw [if_pos (by decide +kernel)]; kernel_rfl) | (rw [if_neg (by decide +kernel)]; exact ⟨rfl, rfl⟩))
    (fun os started H enc _ => lifted os started H enc)
end Go.Proofs.Ytglnmphehclffaa.lawTwice
