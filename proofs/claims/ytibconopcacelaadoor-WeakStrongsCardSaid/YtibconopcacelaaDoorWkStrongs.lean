/- WeakStrongs: for every list of numbers, every place of eight bits and both directions, the first strong one ahead of the place is strong, and no strong one is between. Conditions: none (the names of the classes are tied to the text of the program). -/
import Derived.Test.YtibconopcacelaaDoorWkV
import Derived.Test.YtibconopcacelaaDoorClL
import Derived.Test.YtibconopcacelaaDoorLaw
import Derived.Deep.DeepCutAuto
import Derived.Test.YtibconopcacelaaDoorRows
namespace Go.Proofs.YtibconopcacelaaDoor.lawStrongs
open Go.ChangeShapes Go.WideShapes Go.ChangeAt Go.RowKit

set_option maxRecDepth 20000 in
set_option maxHeartbeats 4000000 in
theorem walk_ok (w : World) (hT : ClsTabs w) (A : Option Addr) (l : List Int) (c : Nat) (hl : l.length ≤ 200) (hc : l.length ≤ c) (h : Lies w w.heap.size A (ints .i64 l)) (z : Nat) (hz : z ≤ 255) (b : Bool) :
    Calls Tryd.prog 5 #[.slice A l.length c, .int .u8 (z : Int), .bool b] w fun e w' => e = .returned (.bool true) ∧ Below w.heap.size w w' := by
  have hl' : l.length ≤ 1000 := by omega
  have H := Lib.hid h
  have HTB := Lib.hid hT
  clear hT
  obtain ⟨n, hn⟩ : ∃ n : Int, (if b then 1 else 0) = n := ⟨_, rfl⟩
  have HN : Hid (sideK n = n) := Lib.hid (by rw [← hn]; cases b <;> rfl)
  have HB0 := Lib.hid hn
  obtain ⟨k, hk⟩ : ∃ k, z % (l.length + 1) = k := ⟨_, rfl⟩
  have hkl : k ≤ l.length := by have := Nat.mod_lt z (show 0 < l.length + 1 by omega); omega
  have hw0 : IntKind.i64.wrap (z : Int) = (z : Int) := IntWalk.i64_in _ (by omega)
  have hw1 : IntKind.i64.wrap ((l.length : Int) + 1) = (l.length : Int) + 1 := IntWalk.i64_in _ (by omega)
  have hw2 : IntKind.i64.wrap ((k : Int) - 1) = (k : Int) - 1 := by rw [IntWalk.i64_in _ (by omega)]
  have hrem : (z : Int) % ((l.length : Int) + 1) = (k : Int) := by rw [← hk]; simp
  have hnz : ¬ ((l.length : Int) + 1) = 0 := by omega
  have hnz2 : ((l.length : Int) + 1 == 0) = false := by simp; omega
  obtain ⟨sv, hsv⟩ : ∃ x, strongI l (k : Int) n = x := ⟨_, rfl⟩
  have HSV : Hid (sv = lastStrong n ((plainL l).take k)) := Lib.hid (by rw [← hsv, strongI, if_neg (by omega), HN.out, Int.toNat_natCast])
  have HST : Hid (∀ u, ClsTabs u → Lies u u.heap.size A (ints .i64 l) → Calls Tryd.prog 9 #[.slice A l.length c, .int .i64 (k : Int), .int .i64 n] u fun ed w' => ed = .returned (.int .i64 sv) ∧ Below u.heap.size u w') := Lib.hid fun u ht hu => hsv ▸ wstrong_any A l c k n u ht hu hl' hc hkl
  clear h hn hk hsv hc
  go_enter Tryd.func5, Tryd.ntmps5
  go_wp2_with fail
  refine (walive_any w HTB.out).mono ?_
  rintro e w1 ⟨rfl, b1⟩
  have B1 := Lib.hid b1
  have D1 := Lib.hid b1
  clear b1
  go_upto_if 17 with fail
  go_cut [2, 7] (fun v1 v wx => v1 = .bool b ∧ v = .int .i64 n ∧ w1 = wx)
  case first =>
    rcases b with _ | _
    · have e : Hid ((0 : Int) = n) := Lib.hid (by rw [← HB0.out]; rfl)
      go_wp2_with fail
      go_meet
      exact ⟨rfl, by rw [e.out], rfl⟩
    · have e : Hid ((1 : Int) = n) := Lib.hid (by rw [← HB0.out]; rfl)
      go_wp2_with fail
      go_meet
      exact ⟨rfl, by rw [e.out], rfl⟩
  case rest =>
    obtain ⟨rfl, rfl, rfl⟩ := hcut
    have H1 := Lib.hid (H.out.up B1.out)
    go_wp2_with fail
    refine (HST.out _ (HTB.out.below B1.out HTB.out.big) H1.out).mono ?_
    rintro e w2 ⟨rfl, b2⟩
    have B2 := Lib.hid (below_then B1.out b2)
    have H2 := Lib.hid (H1.out.up b2)
    clear b2
    go_wp2_with fail
    clear hw0 hw1 hrem hnz hnz2 hw2
    go_loopw [10] (fun jv wr => ∃ j : Nat, j ≤ k ∧ jv = .int .i64 ((j : Int) - 1) ∧ Hid (sv = lastStrong n ((plainL l).take j)) ∧ wr = w2) (fun jv _ => (intOf jv + 1).toNat)
    case atStart => exact ⟨k, by omega, rfl, HSV, rfl⟩
    case round =>
      obtain ⟨j, hj, rfl, HJ, rfl⟩ := hrel
      rcases j with _ | j
      · have hs : (sv == n) = true := by rw [HJ.out]; simp [lastStrong]
        have hneg : ¬ (0 : Int) ≤ ((0 : Nat) : Int) - 1 := by decide
        go_wp2_with fail
        go_ret
        exact ⟨rfl, B2.out⟩
      · have hjl : j < l.length := by omega
        have hz1 : (((j + 1 : Nat) : Int)) - 1 = (j : Int) := by omega
        have HZ := Lib.hid hz1
        rw [hz1]
        obtain ⟨p, rfl, _, hcx⟩ := H2.out.int hjl
        obtain ⟨x, hx⟩ : ∃ x, l[j] = x := ⟨_, rfl⟩
        rw [hx] at hcx
        have hpl : (plainL l)[j]'(by simp [plainL]; omega) = plainK x := by simp [plainL, hx]
        have HS : Hid (sv = if isStrong (plainK x) then plainK x else lastStrong n ((plainL l).take j)) := Lib.hid (by
          rw [HJ.out, strong_step _ _ (show j < (plainL l).length by simp [plainL]; omega), hpl])
        have c0 : (0 : Int) ≤ (j : Int) := by omega
        have c1 : (j : Int) < (l.length : Int) := by omega
        have hww : IntKind.i64.wrap ((j : Int) - 1) = (j : Int) - 1 := by rw [IntWalk.i64_in _ (by omega)]
        clear hx hpl hz1
        by_cases h0 : x < 0
        · have hs : (sv == 0) = true := by rw [HS.out, show plainK x = 0 by rw [plainK, if_neg (by omega)]]; simp [isStrong]
          go_wp2_with fail
          go_ret
          exact ⟨rfl, B2.out⟩
        · by_cases h22 : 22 < x
          · have hs : (sv == 0) = true := by rw [HS.out, show plainK x = 0 by rw [plainK, if_neg (by omega)]]; simp [isStrong]
            go_wp2_with fail
            go_ret
            exact ⟨rfl, B2.out⟩
          · have hpk : plainK x = x := plainK_of (by omega)
            rw [hpk] at HS
            clear hpk
            by_cases e0 : x = 0
            · subst e0
              have hs : (sv == 0) = true := by rw [HS.out]; simp [isStrong]
              go_wp2_with fail
              go_ret
              exact ⟨rfl, B2.out⟩
            · by_cases e1 : x = 1
              · subst e1
                have hs : (sv == 1) = true := by rw [HS.out]; simp [isStrong]
                go_wp2_with fail
                go_ret
                exact ⟨rfl, B2.out⟩
              · by_cases e2 : x = 2
                · subst e2
                  have hs : (sv == 2) = true := by rw [HS.out]; simp [isStrong]
                  go_wp2_with fail
                  go_ret
                  exact ⟨rfl, B2.out⟩
                · have f0 : (x == 0) = false := by simpa using e0
                  have f1 : (x == 1) = false := by simpa using e1
                  have f2 : (x == 2) = false := by simpa using e2
                  have HNX : Hid (sv = lastStrong n ((plainL l).take j)) := Lib.hid (by
                    rw [HS.out, if_neg]
                    simp [isStrong, e0, e1, e2])
                  go_wp2_with fail
                  go_roundw
                  case rel => exact ⟨j, by omega, rfl, HNX, trivial⟩
                  case measure => simp [intOf]

set_option maxHeartbeats 1000000 in
theorem walk_long (w : World) (hT : ClsTabs w) (A : Option Addr) (l : List Int) (c : Nat) (hl : l.length ≤ 9223372036854775807) (hh : 200 < l.length) (i : Int) (b : Bool) :
    Calls Tryd.prog 5 #[.slice A l.length c, .int .u8 i, .bool b] w fun e w' => e = .returned (.bool true) ∧ Below w.heap.size w w' := by
  have HTB := Lib.hid hT
  clear hT
  go_enter Tryd.func5, Tryd.ntmps5
  go_wp2_with fail
  refine (walive_any w HTB.out).mono ?_
  rintro e w1 ⟨rfl, b1⟩
  have B1 := Lib.hid b1
  have D1 := Lib.hid b1
  clear b1
  go_wp2
  go_ret
  exact ⟨rfl, B1.out⟩

theorem walk (w : World) (hT : ClsTabs w) (A : Option Addr) (l : List Int) (c : Nat) (hc : l.length ≤ c) (hm : c ≤ maxLen) (h : Lies w w.heap.size A (ints .i64 l)) (_ : ∀ n ∈ l, (Lit.int .i64 n).wf = true) (i : Int) (hi : (Lit.int .u8 i).wf = true) (b : Bool) :
    Calls Tryd.prog 5 #[.slice A l.length c, .int .u8 i, .bool b] w fun e w' => e = .returned (.bool true) ∧ Below w.heap.size w w' := by
  unfold maxLen at hm
  have hb := bounds_u8 hi
  obtain ⟨z, rfl⟩ : ∃ z : Nat, i = z := ⟨i.toNat, by omega⟩
  by_cases hh : 200 < l.length
  · exact walk_long w hT A l c (by omega) hh _ _
  · exact walk_ok w hT A l c (by omega) hc h z (by omega) b
-- WRAP
theorem spec : LawSpec Rows.weakStrongsSpec 3 := ⟨rfl, fun H ds h => by
  match ds, h with
  | [d0, d1, d2], _ => rfl⟩
theorem params_ok : ∀ t ∈ Tryd.f5.params.toList, Tryd.prog.readableRec t = true ∧ t < Tryd.prog.types.size := by
  rw [Tryd.params5]
  intro t ht
  simp only [List.mem_cons, List.mem_nil_iff, or_false] at ht
  rcases ht with rfl | rfl | rfl
  all_goals exact ⟨by kernel_rfl, of_decide_eq_true (by kernel_rfl)⟩

theorem contract (H : Type) (enc : TypeId × Value → H) (W : World) (base : Nat) (args : Array Value) (ds gs : List (DataW H)) (before : List MemPlace)
    (hval : ∀ (j : Nat) t v, Tryd.f5.params[j]? = some t → args[j]? = some v → Value.okWide Tryd.prog W .any base t v)
    (hW : DataW.Whole enc Tryd.prog Tryd.f5.params.toList Rows.weakStrongsSpec.vars false W args.toList ds gs before) (hL : laidMetH Tryd.prog laidList W) :
    Calls Tryd.prog 5 args W fun e W' => ∃ v, e = .returned v ∧ Rows.weakStrongsSpec.post enc Tryd.prog Tryd.f5 false true false false W args v W' := by
  have hW' := hW
  obtain ⟨p, q, hA0, hV, rfl, hfz, hnd⟩ := hW
  have hA : DataW.TrodAll enc Tryd.prog W 0 (fun _ => true) true Tryd.f5.params.toList args.toList ds p := hA0
  rw [Tryd.params5] at hA hval
  obtain ⟨v0, vs0, d0, ds0, p0, q0, hargs, rfl, rfl, h0, r0⟩ := trodAll_cons hA
  obtain ⟨v1, vs1, d1, ds1, p1, q1, rfl, rfl, rfl, h1, r1⟩ := trodAll_cons r0
  obtain ⟨v2, vs2, d2, ds2, p2, q2, rfl, rfl, rfl, h2, r2⟩ := trodAll_cons r1
  obtain ⟨rfl, rfl, rfl⟩ := trodAll_nil r2
  obtain rfl : args = #[v0, v1, v2] := by cases args; simp_all
  obtain ⟨A0, l0, c0, rfl, hc0, hm0, hl0, wf0⟩ := open_list Tryd.underlying22 Tryd.underlying3 (by kernel_rfl) (hval 0 22 v0 rfl rfl) h0
  obtain ⟨a1, rfl, rfl, rfl, w1⟩ := open_int Tryd.underlying5 (hval 1 5 v1 rfl rfl) h1
  obtain ⟨a2, rfl, rfl, rfl⟩ := open_bool Tryd.underlying4 (hval 2 4 v2 rfl rfl) h2
  exact (walk W (tabs_of hL) A0 l0 c0 hc0 hm0 hl0 wf0 a1 w1 a2).mono fun e W' ⟨he, hg⟩ => ⟨_, he, law_post spec (by rw [Tryd.params5]; rfl) (by kernel_rfl) params_ok (by kernel_rfl) Tryd.underlying4 hW' hg⟩

theorem laid_met (os : Os) : laidMet Tryd.prog Rows.weakStrongsRow.laid ((laidWorld os #[.slice none 0 0, .int .u8 0, .bool false]).forCall (fun _ _ => 0) ⟨#[], #[.slice none 0 0, .int .u8 0, .bool false], []⟩).memory :=
  laidMet_of_run' 8 (by kernel_rfl) (by kernel_rfl)
theorem reads (os : Os) {H : Type} (enc : TypeId × Value → H) : ∃ places, DataW.whole enc Tryd.prog ((laidWorld os #[.slice none 0 0, .int .u8 0, .bool false]).forCall (fun _ _ => 0) ⟨#[], #[.slice none 0 0, .int .u8 0, .bool false], []⟩).memory Tryd.f5.params.toList Rows.weakStrongsSpec.vars false #[.slice none 0 0, .int .u8 0, .bool false].toList 8 = some ([.nil, .lit (.int .u8 0), .lit (.bool false)], [], places) :=
  ⟨[], by kernel_rfl⟩
set_option maxRecDepth 100000 in
theorem lifted (os : Os) (started : os.Started) (H : Type) (enc : TypeId × Value → H) (F : Stop.Interp) :
    ReturnsInHanded {} Tryd.checked os 5 .any ((OpenSpec.ofChange Rows.weakStrongsSpec).preRow enc Tryd.prog Tryd.f5 Rows.weakStrongsRow.domain false Rows.weakStrongsRow.laid) (((OpenSpec.ofChange Rows.weakStrongsSpec).at F).post enc Tryd.prog Tryd.f5 false true false false) := by
  obtain ⟨places, hx⟩ := reads os enc
  refine returnsInHanded_of_row (C := Tryd.checked) (s := OpenSpec.ofChange Rows.weakStrongsSpec) own started (by kernel_rfl) Tryd.func5
    (witness_row_at (enc := enc) (C := Tryd.checked) false (laidWorld os #[.slice none 0 0, .int .u8 0, .bool false]) #[.slice none 0 0, .int .u8 0, .bool false] rfl (by kernel_rfl) (by kernel_rfl) (by kernel_rfl)
      (OpenSpec.preRow_of_cond 8 hx (by kernel_rfl) (fun k hk => by cases hk) (by kernel_rfl) (laid_met os))) ?_
  intro W base args ds gs before hval hW _ _ _ hL _ _
  exact contract H enc W base args ds gs before hval hW hL
theorem said : Rows.WeakStrongsSaid :=
  OpenClaim.holds_of_cond 5 Tryd.f5 rfl rfl rfl rfl rfl rfl rfl ⟨rfl, rfl, rfl, rfl, rfl⟩ rfl rfl rfl rfl rfl (by kernel_rfl) Tryd.func5 (by kernel_rfl)
    (of_decide_eq_true (by kernel_rfl)) (by unfold Func.isWrapper; first | (rw [if_pos (by decide +kernel)]; kernel_rfl) | (rw [if_neg (by decide +kernel)]; exact ⟨rfl, rfl⟩))
    (fun os started H enc _ F => by rw [OpenClaim.pre_eq_preRow]; exact lifted os started H enc F)
theorem card : Rows.WeakStrongsCardSaid :=
  Claim7.holds_tied_plain_at .later [] _ _ _ _ said (fun _ h => by cases h) (by kernel_rfl) (fun _ h => by cases h) weakStrongs_row_tie rfl ⟨rfl, rfl⟩ (by kernel_rfl) rfl
    (plainOf "ductus/ductuslaw09.WeakStrongs" 5 Tryd.f5 (by kernel_rfl) Tryd.func5 (by kernel_rfl) (fun j t ht => by
      rw [Tryd.params5] at ht
      have hm := Array.mem_of_getElem? ht
      simp only [List.mem_toArray, List.mem_cons, List.mem_nil_iff, or_false] at hm
      rcases hm with rfl | rfl | rfl
      all_goals (show Tryd.prog.wantsStandIn _ = false; kernel_rfl))) (by kernel_rfl)
end Go.Proofs.YtibconopcacelaaDoor.lawStrongs
