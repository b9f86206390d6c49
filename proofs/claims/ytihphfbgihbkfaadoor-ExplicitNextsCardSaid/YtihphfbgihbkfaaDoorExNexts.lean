/- ExplicitNexts: for every level of eight bits and either direction, the next level is above, by two at most, and of that direction; what is no level has none. Conditions: none (the names' cells are tied to the program's text). -/
import Derived.Test.YtihphfbgihbkfaaDoorEpF
import Derived.Test.YtihphfbgihbkfaaDoorClL
import Derived.Test.YtihphfbgihbkfaaDoorLaw
import Derived.Test.YtihphfbgihbkfaaDoorSame
namespace Go.Proofs.YtihphfbgihbkfaaDoor.lawNexts
open Go.ChangeShapes Go.WideShapes Go.ChangeAt Go.RowKit

theorem next_facts (n : Nat) (hn : n ≤ 125) (d : Nat) (hd : d = 0 ∨ d = 1) : ∃ x : Nat, nextL n d = x ∧ n < x ∧ x ≤ n + 2 ∧ x % 2 = d ∧ (x = n + 1 ∨ n % 2 = d) := by
  unfold nextL
  rw [if_neg (by omega)]
  rcases hd with rfl | rfl
  · rw [if_neg (by omega)]
    by_cases h : (n : Int) % 2 = 1
    · exact ⟨n + 1, by rw [if_pos h]; rfl, by omega, by omega, by omega, .inl rfl⟩
    · exact ⟨n + 2, by rw [if_neg h]; rfl, by omega, by omega, by omega, .inr (by omega)⟩
  · rw [if_pos (by rfl)]
    by_cases h : (n : Int) % 2 = 0
    · exact ⟨n + 1, by rw [if_pos h]; rfl, by omega, by omega, by omega, .inl rfl⟩
    · exact ⟨n + 2, by rw [if_neg h]; rfl, by omega, by omega, by omega, .inr (by omega)⟩
theorem next_below (m : Nat) (d : Int) : nextL (-1 - (m : Int)) d = -1 := by rw [nextL, if_pos (by omega)]
theorem next_above (m : Nat) (d : Int) : nextL (126 + (m : Int)) d = -1 := by rw [nextL, if_pos (by omega)]

set_option maxRecDepth 20000 in
set_option maxHeartbeats 4000000 in
theorem walk_ok (w : World) (hT : ClsTabs w) (m : Nat) (hm : m ≤ 255) (b : Bool) :
    Calls Tryd.prog 6 #[.int .u8 (m : Int), .bool b] w fun e w' => e = .returned (.bool true) ∧ Below w.heap.size w w' := by
  obtain ⟨n, hn⟩ : ∃ n, m % 126 = n := ⟨_, rfl⟩
  have hn' : n ≤ 125 := by omega
  have hmod : ((m : Int) % 126) = (n : Int) := by omega
  have hw0 : IntKind.i64.wrap (m : Int) = (m : Int) := IntWalk.i64_in _ (by omega)
  have hw1 : IntKind.i64.wrap (-1 - (m : Int)) = -1 - (m : Int) := IntWalk.i64_in _ (by omega)
  have hw2 : IntKind.i64.wrap (126 + (m : Int)) = 126 + (m : Int) := IntWalk.i64_in _ (by omega)
  have hw3 : IntKind.i64.wrap ((n : Int) + 1) = (n : Int) + 1 := IntWalk.i64_in _ (by omega)
  have hw4 : IntKind.i64.wrap ((n : Int) + 2) = (n : Int) + 2 := IntWalk.i64_in _ (by omega)
  have HT := Lib.hid hT
  clear hT
  cases b
  · obtain ⟨x, hx, f1, f2, f3, f4⟩ := next_facts n hn' 0 (.inl rfl)
    have HX : Hid (nextL n 0 = x) := Lib.hid hx
    have g1 : decide (n < x) = true := by simp; omega
    have g1' : decide (x ≤ n + 2) = true := by simp; omega
    have g2 : decide ((x : Int) ≤ (n : Int) + 2) = true := by simp; omega
    have g3 : ((x : Int) % 2 == 0) = true := by simp; omega
    have H4 := Lib.hid f4
    clear hn hx f1 f2 f3 f4
    rcases h5 : ((x : Int) == (n : Int) + 1) with _ | _
    · have g6 : ((n : Int) % 2 == 0) = true := by
        have := H4.out
        simp at h5 ⊢
        omega
      go_enter Tryd.func6, Tryd.ntmps6
      go_wp2_with fail
      refine (ealive_any w HT.out).mono ?_
      rintro e w1 ⟨rfl, b1⟩
      have B1 := Lib.hid b1
      clear b1
      go_wp2_with fail
      refine (pnext_any n 0 w1).mono ?_
      rintro e wq ⟨rfl, rfl⟩
      rw [HX.out]
      go_wp2_with fail
      refine (pnext_any (-1 - (m : Int)) 0 w1).mono ?_
      rintro e wq ⟨rfl, rfl⟩
      rw [next_below m 0]
      go_wp2_with fail
      refine (pnext_any (126 + (m : Int)) 0 w1).mono ?_
      rintro e wq ⟨rfl, rfl⟩
      rw [next_above m 0]
      go_wp2
      go_ret
      exact ⟨rfl, B1.out⟩
    · go_enter Tryd.func6, Tryd.ntmps6
      go_wp2_with fail
      refine (ealive_any w HT.out).mono ?_
      rintro e w1 ⟨rfl, b1⟩
      have B1 := Lib.hid b1
      clear b1
      go_wp2_with fail
      refine (pnext_any n 0 w1).mono ?_
      rintro e wq ⟨rfl, rfl⟩
      rw [HX.out]
      go_wp2_with fail
      refine (pnext_any (-1 - (m : Int)) 0 w1).mono ?_
      rintro e wq ⟨rfl, rfl⟩
      rw [next_below m 0]
      go_wp2_with fail
      refine (pnext_any (126 + (m : Int)) 0 w1).mono ?_
      rintro e wq ⟨rfl, rfl⟩
      rw [next_above m 0]
      go_wp2
      go_ret
      exact ⟨rfl, B1.out⟩
  · obtain ⟨x, hx, f1, f2, f3, f4⟩ := next_facts n hn' 1 (.inr rfl)
    have HX : Hid (nextL n 1 = x) := Lib.hid hx
    have g1 : decide (n < x) = true := by simp; omega
    have g1' : decide (x ≤ n + 2) = true := by simp; omega
    have g2 : decide ((x : Int) ≤ (n : Int) + 2) = true := by simp; omega
    have g3 : ((x : Int) % 2 == 1) = true := by simp; omega
    have H4 := Lib.hid f4
    clear hn hx f1 f2 f3 f4
    rcases h5 : ((x : Int) == (n : Int) + 1) with _ | _
    · have g6 : ((n : Int) % 2 == 1) = true := by
        have := H4.out
        simp at h5 ⊢
        omega
      go_enter Tryd.func6, Tryd.ntmps6
      go_wp2_with fail
      refine (ealive_any w HT.out).mono ?_
      rintro e w1 ⟨rfl, b1⟩
      have B1 := Lib.hid b1
      clear b1
      go_wp2_with fail
      refine (pnext_any n 1 w1).mono ?_
      rintro e wq ⟨rfl, rfl⟩
      rw [HX.out]
      go_wp2_with fail
      refine (pnext_any (-1 - (m : Int)) 1 w1).mono ?_
      rintro e wq ⟨rfl, rfl⟩
      rw [next_below m 1]
      go_wp2_with fail
      refine (pnext_any (126 + (m : Int)) 1 w1).mono ?_
      rintro e wq ⟨rfl, rfl⟩
      rw [next_above m 1]
      go_wp2
      go_ret
      exact ⟨rfl, B1.out⟩
    · go_enter Tryd.func6, Tryd.ntmps6
      go_wp2_with fail
      refine (ealive_any w HT.out).mono ?_
      rintro e w1 ⟨rfl, b1⟩
      have B1 := Lib.hid b1
      clear b1
      go_wp2_with fail
      refine (pnext_any n 1 w1).mono ?_
      rintro e wq ⟨rfl, rfl⟩
      rw [HX.out]
      go_wp2_with fail
      refine (pnext_any (-1 - (m : Int)) 1 w1).mono ?_
      rintro e wq ⟨rfl, rfl⟩
      rw [next_below m 1]
      go_wp2_with fail
      refine (pnext_any (126 + (m : Int)) 1 w1).mono ?_
      rintro e wq ⟨rfl, rfl⟩
      rw [next_above m 1]
      go_wp2
      go_ret
      exact ⟨rfl, B1.out⟩

theorem walk (w : World) (hT : ClsTabs w) (a : Int) (ha : (Lit.int .u8 a).wf = true) (b : Bool) :
    Calls Tryd.prog 6 #[.int .u8 a, .bool b] w fun e w' => e = .returned (.bool true) ∧ Below w.heap.size w w' := by
  have hb := bounds_u8 ha
  obtain ⟨m, rfl⟩ : ∃ m : Nat, a = m := ⟨a.toNat, by omega⟩
  exact walk_ok w hT m (by omega) b
-- WRAP
theorem spec : LawSpec Rows.explicitNextsSpec 2 := ⟨rfl, fun H ds h => by
  match ds, h with
  | [d0, d1], _ => rfl⟩
theorem params_ok : ∀ t ∈ Tryd.f6.params.toList, Tryd.prog.readableRec t = true ∧ t < Tryd.prog.types.size := by
  rw [Tryd.params6]
  intro t ht
  simp only [List.mem_cons, List.mem_nil_iff, or_false] at ht
  rcases ht with rfl | rfl
  all_goals exact ⟨by kernel_rfl, of_decide_eq_true (by kernel_rfl)⟩

theorem contract (H : Type) (enc : TypeId × Value → H) (W : World) (base : Nat) (args : Array Value) (ds gs : List (DataW H)) (before : List MemPlace)
    (hval : ∀ (j : Nat) t v, Tryd.f6.params[j]? = some t → args[j]? = some v → Value.okWide Tryd.prog W .any base t v)
    (hW : DataW.Whole enc Tryd.prog Tryd.f6.params.toList Rows.explicitNextsSpec.vars false W args.toList ds gs before) (hL : laidMetH Tryd.prog laidList W) :
    Calls Tryd.prog 6 args W fun e W' => ∃ v, e = .returned v ∧ Rows.explicitNextsSpec.post enc Tryd.prog Tryd.f6 false true false false W args v W' := by
  have hW' := hW
  obtain ⟨p, q, hA0, hV, rfl, hfz, hnd⟩ := hW
  have hA : DataW.TrodAll enc Tryd.prog W 0 (fun _ => true) true Tryd.f6.params.toList args.toList ds p := hA0
  rw [Tryd.params6] at hA hval
  obtain ⟨v0, vs0, d0, ds0, p0, q0, hargs, rfl, rfl, h0, r0⟩ := trodAll_cons hA
  obtain ⟨v1, vs1, d1, ds1, p1, q1, rfl, rfl, rfl, h1, r1⟩ := trodAll_cons r0
  obtain ⟨rfl, rfl, rfl⟩ := trodAll_nil r1
  obtain rfl : args = #[v0, v1] := by cases args; simp_all
  obtain ⟨a0, rfl, rfl, rfl, w0⟩ := open_int Tryd.underlying5 (hval 0 5 v0 rfl rfl) h0
  obtain ⟨a1, rfl, rfl, rfl⟩ := open_bool Tryd.underlying4 (hval 1 4 v1 rfl rfl) h1
  exact (walk W (tabs_of hL) a0 w0 a1).mono fun e W' ⟨he, hg⟩ => ⟨_, he, law_post spec (by rw [Tryd.params6]; rfl) (by kernel_rfl) params_ok (by kernel_rfl) Tryd.underlying4 hW' hg⟩

theorem laid_met (os : Os) : laidMet Tryd.prog Rows.explicitNextsRow.laid ((laidWorld os #[.int .u8 0, .bool false]).forCall (fun _ _ => 0) ⟨#[], #[.int .u8 0, .bool false], []⟩).memory :=
  laidMet_of_run' 8 (by kernel_rfl) (by kernel_rfl)
theorem reads (os : Os) {H : Type} (enc : TypeId × Value → H) : ∃ places, DataW.whole enc Tryd.prog ((laidWorld os #[.int .u8 0, .bool false]).forCall (fun _ _ => 0) ⟨#[], #[.int .u8 0, .bool false], []⟩).memory Tryd.f6.params.toList Rows.explicitNextsSpec.vars false #[.int .u8 0, .bool false].toList 8 = some ([.lit (.int .u8 0), .lit (.bool false)], [], places) :=
  ⟨[], by kernel_rfl⟩
set_option maxRecDepth 100000 in
theorem lifted (os : Os) (started : os.Started) (H : Type) (enc : TypeId × Value → H) (F : Stop.Interp) :
    ReturnsInHanded {} Tryd.checked os 6 .any ((OpenSpec.ofChange Rows.explicitNextsSpec).preRow enc Tryd.prog Tryd.f6 Rows.explicitNextsRow.domain false Rows.explicitNextsRow.laid) (((OpenSpec.ofChange Rows.explicitNextsSpec).at F).post enc Tryd.prog Tryd.f6 false true false false) := by
  obtain ⟨places, hx⟩ := reads os enc
  refine returnsInHanded_of_row (C := Tryd.checked) (s := OpenSpec.ofChange Rows.explicitNextsSpec) own started (by kernel_rfl) Tryd.func6
    (witness_row_at (enc := enc) (C := Tryd.checked) false (laidWorld os #[.int .u8 0, .bool false]) #[.int .u8 0, .bool false] rfl (by kernel_rfl) (by kernel_rfl) (by kernel_rfl)
      (OpenSpec.preRow_of_cond 8 hx (by kernel_rfl) (fun k hk => by cases hk) (by kernel_rfl) (laid_met os))) ?_
  intro W base args ds gs before hval hW _ _ _ hL _ _
  exact contract H enc W base args ds gs before hval hW hL
theorem said : Rows.ExplicitNextsSaid :=
  OpenClaim.holds_of_cond 6 Tryd.f6 rfl rfl rfl rfl rfl rfl rfl ⟨rfl, rfl, rfl, rfl, rfl⟩ rfl rfl rfl rfl rfl (by kernel_rfl) Tryd.func6 (by kernel_rfl)
    (of_decide_eq_true (by kernel_rfl)) (by unfold Func.isWrapper; first | (rw [if_pos (by decide +kernel)]; kernel_rfl) | (rw [if_neg (by decide +kernel)]; exact ⟨rfl, rfl⟩))
    (fun os started H enc _ F => by rw [OpenClaim.pre_eq_preRow]; exact lifted os started H enc F)
theorem card : Rows.ExplicitNextsCardSaid :=
  Claim7.holds_tied_plain_at .later [] _ _ _ _ said (fun _ h => by cases h) (by kernel_rfl) (fun _ h => by cases h) explicitNexts_row_tie rfl ⟨rfl, rfl⟩ (by kernel_rfl) rfl
    (plainOf "ductus/ductuslaw06.ExplicitNexts" 6 Tryd.f6 (by kernel_rfl) Tryd.func6 (by kernel_rfl) (fun j t ht => by
      rw [Tryd.params6] at ht
      have hm := Array.mem_of_getElem? ht
      simp only [List.mem_toArray, List.mem_cons, List.mem_nil_iff, or_false] at hm
      rcases hm with rfl | rfl
      all_goals (show Tryd.prog.wantsStandIn _ = false; kernel_rfl))) (by kernel_rfl)
end Go.Proofs.YtihphfbgihbkfaaDoor.lawNexts
