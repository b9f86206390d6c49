/- PairSames: for every three numbers, being one bracket goes both ways, and on; what is no bracket is none with anything. Conditions: none. -/
import Derived.Test.YtglnmphehclffaaPrM
import Derived.Test.YtglnmphehclffaaLaw
import Derived.Test.YtglnmphehclffaaRows
namespace Go.Proofs.Ytglnmphehclffaa.lawSames
open Go.ChangeShapes Go.WideShapes Go.ChangeAt Go.RowKit

set_option maxHeartbeats 4000000 in
theorem walk (w : World) (a : Int) (_ : (Lit.int .i64 a).wf = true) (b : Int) (_ : (Lit.int .i64 b).wf = true) (c : Int) (_ : (Lit.int .i64 c).wf = true) :
    Calls Try.prog 5 #[.int .i64 a, .int .i64 b, .int .i64 c] w fun e w' => e = .returned (.bool true) ∧ Below w.heap.size w w' := by
  have hself : sameB a a = (oth a).2.2 := sameB_self a
  have hsym := sameB_symm b a
  have hoth := fun h => @same_others a b h
  have htr := fun h h' => @sameB_trans a b c h h'
  obtain ⟨o, ho⟩ : ∃ o, oth a = o := ⟨_, rfl⟩
  rw [ho] at hself hoth
  obtain ⟨o2, ho2⟩ : ∃ o, oth b = o := ⟨_, rfl⟩
  rw [ho2] at hoth
  obtain ⟨x, p, k⟩ := o
  obtain ⟨y, q, r⟩ := o2
  obtain ⟨s, hs⟩ : ∃ s, sameB a b = s := ⟨_, rfl⟩
  rw [hs] at hsym hoth htr
  obtain ⟨t, ht⟩ : ∃ t, sameB b c = t := ⟨_, rfl⟩
  rw [ht] at htr
  obtain ⟨u, hu⟩ : ∃ u, sameB a c = u := ⟨_, rfl⟩
  rw [hu] at htr
  have HO := Lib.hid ho
  have HO2 := Lib.hid ho2
  have HS := Lib.hid hs
  have HT := Lib.hid ht
  have HU := Lib.hid hu
  have HSY := Lib.hid hsym
  have HSE := Lib.hid hself
  clear ho ho2 hs ht hu hsym hself
  cases s with
  | false =>
    clear hoth htr
    go_enter Try.func5, Try.ntmps5
    go_wp2_with fail
    refine (palive_any w).mono ?_
    rintro e w1 ⟨rfl, b1⟩
    have B1 := Lib.hid b1
    have D1 := Lib.hid b1
    clear b1
    go_wp2_with fail
    refine (other_any a w1).mono ?_
    rintro e w2 ⟨rfl, b2⟩
    rw [HO.out]
    have B2 := Lib.hid (below_then B1.out b2)
    have D2 := Lib.hid b2
    clear b2
    go_wp2_with fail
    refine (same_any a b w2).mono ?_
    rintro e w3 ⟨rfl, b3⟩
    rw [HS.out]
    have B3 := Lib.hid (below_then B2.out b3)
    have D3 := Lib.hid b3
    clear b3
    go_wp2_with fail
    refine (same_any b a w3).mono ?_
    rintro e w4 ⟨rfl, b4⟩
    rw [HSY.out]
    have B4 := Lib.hid (below_then B3.out b4)
    have D4 := Lib.hid b4
    clear b4
    go_wp2_with fail
    refine (same_any a a w4).mono ?_
    rintro e w5 ⟨rfl, b5⟩
    rw [HSE.out]
    have B5 := Lib.hid (below_then B4.out b5)
    have D5 := Lib.hid b5
    clear b5
    go_wp2_with fail
    refine (same_any a b w5).mono ?_
    rintro e w6 ⟨rfl, b6⟩
    rw [HS.out]
    have B6 := Lib.hid (below_then B5.out b6)
    have D6 := Lib.hid b6
    clear b6
    go_wp2_with fail
    refine (same_any a b w6).mono ?_
    rintro e w7 ⟨rfl, b7⟩
    rw [HS.out]
    have B7 := Lib.hid (below_then B6.out b7)
    have D7 := Lib.hid b7
    clear b7
    go_wp2
    go_ret
    exact ⟨rfl, B7.out⟩
  | true =>
    obtain ⟨hpq, hsxy⟩ := hoth rfl
    dsimp only at hpq hsxy
    have HPQ := Lib.hid hpq
    have HXY := Lib.hid hsxy
    have hd : (p == q) = true := by rw [HPQ.out]; simp
    clear hpq hsxy hoth
    cases t with
    | false =>
      clear htr
      go_enter Try.func5, Try.ntmps5
      go_wp2_with fail
      refine (palive_any w).mono ?_
      rintro e w1 ⟨rfl, b1⟩
      have B1 := Lib.hid b1
      have D1 := Lib.hid b1
      clear b1
      go_wp2_with fail
      refine (other_any a w1).mono ?_
      rintro e w2 ⟨rfl, b2⟩
      rw [HO.out]
      have B2 := Lib.hid (below_then B1.out b2)
      have D2 := Lib.hid b2
      clear b2
      go_wp2_with fail
      refine (same_any a b w2).mono ?_
      rintro e w3 ⟨rfl, b3⟩
      rw [HS.out]
      have B3 := Lib.hid (below_then B2.out b3)
      have D3 := Lib.hid b3
      clear b3
      go_wp2_with fail
      refine (same_any b a w3).mono ?_
      rintro e w4 ⟨rfl, b4⟩
      rw [HSY.out]
      have B4 := Lib.hid (below_then B3.out b4)
      have D4 := Lib.hid b4
      clear b4
      go_wp2_with fail
      refine (same_any a a w4).mono ?_
      rintro e w5 ⟨rfl, b5⟩
      rw [HSE.out]
      have B5 := Lib.hid (below_then B4.out b5)
      have D5 := Lib.hid b5
      clear b5
      go_wp2_with fail
      refine (same_any a b w5).mono ?_
      rintro e w6 ⟨rfl, b6⟩
      rw [HS.out]
      have B6 := Lib.hid (below_then B5.out b6)
      have D6 := Lib.hid b6
      clear b6
      go_wp2_with fail
      refine (same_any b c w6).mono ?_
      rintro e w7 ⟨rfl, b7⟩
      rw [HT.out]
      have B7 := Lib.hid (below_then B6.out b7)
      have D7 := Lib.hid b7
      clear b7
      go_wp2_with fail
      refine (same_any a b w7).mono ?_
      rintro e w9 ⟨rfl, b9⟩
      rw [HS.out]
      have B9 := Lib.hid (below_then B7.out b9)
      have D9 := Lib.hid b9
      clear b9
      go_wp2_with fail
      refine (other_any a w9).mono ?_
      rintro e w10 ⟨rfl, b10⟩
      rw [HO.out]
      have B10 := Lib.hid (below_then B9.out b10)
      have D10 := Lib.hid b10
      clear b10
      go_wp2_with fail
      refine (other_any b w10).mono ?_
      rintro e w11 ⟨rfl, b11⟩
      rw [HO2.out]
      have B11 := Lib.hid (below_then B10.out b11)
      have D11 := Lib.hid b11
      clear b11
      go_wp2_with fail
      refine (same_any x y w11).mono ?_
      rintro e w12 ⟨rfl, b12⟩
      rw [HXY.out]
      have B12 := Lib.hid (below_then B11.out b12)
      have D12 := Lib.hid b12
      clear b12
      go_wp2
      go_ret
      exact ⟨rfl, B12.out⟩
    | true =>
      have hu1 : u = true := htr rfl rfl
      subst hu1
      clear htr
      go_enter Try.func5, Try.ntmps5
      go_wp2_with fail
      refine (palive_any w).mono ?_
      rintro e w1 ⟨rfl, b1⟩
      have B1 := Lib.hid b1
      have D1 := Lib.hid b1
      clear b1
      go_wp2_with fail
      refine (other_any a w1).mono ?_
      rintro e w2 ⟨rfl, b2⟩
      rw [HO.out]
      have B2 := Lib.hid (below_then B1.out b2)
      have D2 := Lib.hid b2
      clear b2
      go_wp2_with fail
      refine (same_any a b w2).mono ?_
      rintro e w3 ⟨rfl, b3⟩
      rw [HS.out]
      have B3 := Lib.hid (below_then B2.out b3)
      have D3 := Lib.hid b3
      clear b3
      go_wp2_with fail
      refine (same_any b a w3).mono ?_
      rintro e w4 ⟨rfl, b4⟩
      rw [HSY.out]
      have B4 := Lib.hid (below_then B3.out b4)
      have D4 := Lib.hid b4
      clear b4
      go_wp2_with fail
      refine (same_any a a w4).mono ?_
      rintro e w5 ⟨rfl, b5⟩
      rw [HSE.out]
      have B5 := Lib.hid (below_then B4.out b5)
      have D5 := Lib.hid b5
      clear b5
      go_wp2_with fail
      refine (same_any a b w5).mono ?_
      rintro e w6 ⟨rfl, b6⟩
      rw [HS.out]
      have B6 := Lib.hid (below_then B5.out b6)
      have D6 := Lib.hid b6
      clear b6
      go_wp2_with fail
      refine (same_any b c w6).mono ?_
      rintro e w7 ⟨rfl, b7⟩
      rw [HT.out]
      have B7 := Lib.hid (below_then B6.out b7)
      have D7 := Lib.hid b7
      clear b7
      go_wp2_with fail
      refine (same_any a c w7).mono ?_
      rintro e w8 ⟨rfl, b8⟩
      rw [HU.out]
      have B8 := Lib.hid (below_then B7.out b8)
      have D8 := Lib.hid b8
      clear b8
      go_wp2_with fail
      refine (same_any a b w8).mono ?_
      rintro e w9 ⟨rfl, b9⟩
      rw [HS.out]
      have B9 := Lib.hid (below_then B8.out b9)
      have D9 := Lib.hid b9
      clear b9
      go_wp2_with fail
      refine (other_any a w9).mono ?_
      rintro e w10 ⟨rfl, b10⟩
      rw [HO.out]
      have B10 := Lib.hid (below_then B9.out b10)
      have D10 := Lib.hid b10
      clear b10
      go_wp2_with fail
      refine (other_any b w10).mono ?_
      rintro e w11 ⟨rfl, b11⟩
      rw [HO2.out]
      have B11 := Lib.hid (below_then B10.out b11)
      have D11 := Lib.hid b11
      clear b11
      go_wp2_with fail
      refine (same_any x y w11).mono ?_
      rintro e w12 ⟨rfl, b12⟩
      rw [HXY.out]
      have B12 := Lib.hid (below_then B11.out b12)
      have D12 := Lib.hid b12
      clear b12
      go_wp2
      go_ret
      exact ⟨rfl, B12.out⟩
-- WRAP
theorem spec : LawSpec Rows.pairSamesSpec 3 := ⟨rfl, fun H ds h => by
  match ds, h with
  | [d0, d1, d2], _ => rfl⟩
theorem params_ok : ∀ t ∈ Try.f5.params.toList, Try.prog.readableRec t = true ∧ t < Try.prog.types.size := by
  rw [Try.params5]
  intro t ht
  simp only [List.mem_cons, List.mem_nil_iff, or_false] at ht
  rcases ht with rfl | rfl | rfl
  all_goals exact ⟨by kernel_rfl, of_decide_eq_true (by kernel_rfl)⟩

theorem contract (H : Type) (enc : TypeId × Value → H) (W : World) (base : Nat) (args : Array Value) (ds gs : List (DataW H)) (before : List MemPlace)
    (hval : ∀ (j : Nat) t v, Try.f5.params[j]? = some t → args[j]? = some v → Value.okWide Try.prog W .any base t v)
    (hW : DataW.Whole enc Try.prog Try.f5.params.toList Rows.pairSamesSpec.vars false W args.toList ds gs before) :
    Calls Try.prog 5 args W fun e W' => ∃ v, e = .returned v ∧ Rows.pairSamesSpec.post enc Try.prog Try.f5 false true false false W args v W' := by
  have hW' := hW
  obtain ⟨p, q, hA0, hV, rfl, hfz, hnd⟩ := hW
  have hA : DataW.TrodAll enc Try.prog W 0 (fun _ => true) true Try.f5.params.toList args.toList ds p := hA0
  rw [Try.params5] at hA hval
  obtain ⟨v0, vs0, d0, ds0, p0, q0, hargs, rfl, rfl, h0, r0⟩ := trodAll_cons hA
  obtain ⟨v1, vs1, d1, ds1, p1, q1, rfl, rfl, rfl, h1, r1⟩ := trodAll_cons r0
  obtain ⟨v2, vs2, d2, ds2, p2, q2, rfl, rfl, rfl, h2, r2⟩ := trodAll_cons r1
  obtain ⟨rfl, rfl, rfl⟩ := trodAll_nil r2
  obtain rfl : args = #[v0, v1, v2] := by cases args; simp_all
  obtain ⟨a0, rfl, rfl, rfl, w0⟩ := open_int Try.underlying3 (hval 0 3 v0 rfl rfl) h0
  obtain ⟨a1, rfl, rfl, rfl, w1⟩ := open_int Try.underlying3 (hval 1 3 v1 rfl rfl) h1
  obtain ⟨a2, rfl, rfl, rfl, w2⟩ := open_int Try.underlying3 (hval 2 3 v2 rfl rfl) h2
  exact (walk W a0 w0 a1 w1 a2 w2).mono fun e W' ⟨he, hg⟩ => ⟨_, he, law_post spec (by rw [Try.params5]; rfl) (by kernel_rfl) params_ok (by kernel_rfl) Try.underlying4 hW' hg⟩

theorem own : ownKnob Try.prog.godebug = none := by kernel_rfl
set_option maxRecDepth 100000 in
theorem lifted (os : Os) (started : os.Started) (H : Type) (enc : TypeId × Value → H) :
    ReturnsInHanded {} Try.checked os 5 .any (Rows.pairSamesSpec.pre6 enc Try.prog Try.f5 Rows.pairSamesRow.domain false) (Rows.pairSamesSpec.post enc Try.prog Try.f5 false true false false) := by
  refine returnsInHanded_of_change (C := Try.checked) own started (by kernel_rfl) Try.func5
    (ChangeSpec.witness6 (enc := enc) (C := Try.checked) false ⟨#[], #[.int .i64 0, .int .i64 0, .int .i64 0], []⟩ 8 (by kernel_rfl) (by kernel_rfl) (by kernel_rfl) (by kernel_rfl)) ?_
  intro W base args ds gs before hval hW _ _
  exact contract H enc W base args ds gs before hval hW
theorem said : Rows.PairSamesSaid :=
  OpenClaim.holds_of_wide 5 Try.f5 rfl rfl rfl rfl rfl rfl rfl ⟨rfl, rfl, rfl, rfl, rfl⟩ rfl rfl rfl rfl rfl (by kernel_rfl) Try.func5 (by kernel_rfl)
    (of_decide_eq_true (by kernel_rfl)) (by unfold Func.isWrapper; first | (rw [if_pos (by decide +kernel)]; kernel_rfl) | (rw [if_neg (by decide +kernel)]; exact ⟨rfl, rfl⟩))
    (fun os started H enc _ => lifted os started H enc)
end Go.Proofs.Ytglnmphehclffaa.lawSames
