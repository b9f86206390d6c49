/- WeakSteps: for every list of numbers and every direction, what the seven rules make, one behind the other, is what all of them make. Conditions: none (the names of the classes are tied to the text of the program). -/
import Derived.Test.YtibconopcacelaaDoorWkV
import Derived.Test.YtibconopcacelaaDoorClL
import Derived.Test.YtibconopcacelaaDoorLaw
import Derived.Test.YtibconopcacelaaDoorRows
namespace Go.Proofs.YtibconopcacelaaDoor.lawSteps
open Go.ChangeShapes Go.WideShapes Go.ChangeAt Go.RowKit

set_option maxRecDepth 20000 in
set_option maxHeartbeats 4000000 in
theorem walk_ok (w : World) (hT : ClsTabs w) (A : Option Addr) (l : List Int) (c : Nat) (hl : l.length ≤ 200) (h : Lies w w.heap.size A (ints .i64 l)) (sos : Int) :
    Calls Tryd.prog 4 #[.slice A l.length c, .int .i64 sos] w fun e w' => e = .returned (.bool true) ∧ Below w.heap.size w w' := by
  have hl' : l.length ≤ 1000 := by omega
  have H := Lib.hid h
  have HTB := Lib.hid hT
  clear hT
  clear h
  go_enter Tryd.func4, Tryd.ntmps4
  go_wp2_with fail
  refine (walive_any w HTB.out).mono ?_
  rintro e w1 ⟨rfl, b1⟩
  have B1 := Lib.hid b1
  have D1 := Lib.hid b1
  clear b1
  have H1 := Lib.hid (H.out.up B1.out)
  go_wp2_with fail
  go_loopw [6, 5] (fun nv ov wr => ∃ (n : Nat) (Ao : Option Addr) (co : Nat), n ≤ 7 ∧ nv = .int .i64 (((n + 1 : Nat) : Int)) ∧ ov = .slice Ao l.length co ∧ Lies wr wr.heap.size Ao (ints .i64 (stepsI l sos n)) ∧ Below w1.heap.size w1 wr) (fun nv _ _ => 8 - (intOf nv).toNat)
  case atStart => exact ⟨0, A, c, by omega, rfl, rfl, H1.out, Below.refl _ _⟩
  case round =>
    obtain ⟨n, Ao, co, hn, rfl, rfl, ho, hb⟩ := hrel
    have HB := Lib.hid hb
    have HO := Lib.hid ho
    clear ho hb
    by_cases hlt : n < 7
    · have HRU : Hid (∀ u, ClsTabs u → Lies u u.heap.size Ao (ints .i64 (stepsI l sos n)) → Calls Tryd.prog 10 #[.slice Ao l.length co, .int .i64 sos, .int .i64 ((n + 1 : Nat) : Int)] u fun ed w' => Rowed u u.heap.size 3 (ints .i64 (stepsI l sos (n + 1))) ed w') := Lib.hid fun u ht hu => by
        have h1 := wrule_any Ao (stepsI l sos n) co sos (n + 1) u ht hu (by rw [stepsI_length]; omega) (by omega) (by omega)
        rw [stepsI_length] at h1
        exact h1
      have HSL : Hid ((stepsI l sos (n + 1)).length = l.length) := Lib.hid (stepsI_length _ _ _)
      obtain ⟨x, hx⟩ : ∃ x, stepsI l sos (n + 1) = x := ⟨_, rfl⟩
      have HX := Lib.hid hx
      rw [hx] at HRU HSL
      clear hx
      have b0 : (((n + 1 : Nat) : Int)) ≤ 7 := by omega
      have b1 : decide ((((n + 1 : Nat) : Int)) ≤ 7) = true := by simp; omega
      have b2 : IntKind.i64.wrap (((n + 1 : Nat) : Int) + 1) = ((n + 1 + 1 : Nat) : Int) := by rw [IntWalk.i64_in _ (by omega)]; rfl
      generalize hz : ((n + 1 : Nat) : Int) = z at *
      have HZ := Lib.hid hz
      clear hz
      go_wp2_with fail
      refine (HRU.out wr (HTB.out.below (below_then B1.out HB.out) HTB.out.big) HO.out).mono ?_
      rintro e w2 ⟨v2, rfl, o2, b2'⟩
      obtain ⟨A2, c2, hv2, l2, -, -⟩ := o2.form
      rw [ints, List.length_map, HSL.out] at hv2
      subst hv2
      have L2 := Lib.hid l2
      have B2 := Lib.hid (below_then HB.out b2')
      clear o2 l2 b2'
      go_wp2_with fail
      go_roundw
      case rel => exact ⟨n + 1, A2, c2, by omega, rfl, rfl, by rw [HX.out]; exact L2.out, B2.out⟩
      case measure => rw [← HZ.out]; simp [intOf]; omega
    · obtain rfl : n = 7 := by omega
      go_wp2_with fail
      refine (wof_any A l c sos wr (HTB.out.below (below_then B1.out HB.out) HTB.out.big) ((H1.out).up HB.out) hl').mono ?_
      rintro e w2 ⟨v2, rfl, o2, b2'⟩
      obtain ⟨A2, c2, hv2, l2, -, -⟩ := o2.form
      rw [ints, List.length_map, ofI_length] at hv2
      subst hv2
      have hi := ints_any Ao A2 (stepsI l sos 7) (ofI l sos) co c2 (w := w2) (HO.out.up b2') l2 (by rw [stepsI_length]; omega) (by rw [ofI_length]; omega)
      rw [stepsI_length, ofI_length] at hi
      have HI := Lib.hid hi
      have B2 := Lib.hid (below_then B1.out (below_then HB.out b2'))
      clear o2 l2 b2' hi
      go_wp2_with fail
      refine HI.out.mono ?_
      rintro e w3 ⟨rfl, b3⟩
      rw [show decide (stepsI l sos 7 = ofI l sos) = true from decide_eq_true rfl]
      go_wp2
      go_ret
      exact ⟨rfl, below_then B2.out b3⟩

set_option maxHeartbeats 1000000 in
theorem walk_long (w : World) (hT : ClsTabs w) (A : Option Addr) (l : List Int) (c : Nat) (hl : l.length ≤ 9223372036854775807) (hh : 200 < l.length) (sos : Int) :
    Calls Tryd.prog 4 #[.slice A l.length c, .int .i64 sos] w fun e w' => e = .returned (.bool true) ∧ Below w.heap.size w w' := by
  have HTB := Lib.hid hT
  clear hT
  go_enter Tryd.func4, Tryd.ntmps4
  go_wp2_with fail
  refine (walive_any w HTB.out).mono ?_
  rintro e w1 ⟨rfl, b1⟩
  have B1 := Lib.hid b1
  have D1 := Lib.hid b1
  clear b1
  go_wp2
  go_ret
  exact ⟨rfl, B1.out⟩

theorem walk (w : World) (hT : ClsTabs w) (A : Option Addr) (l : List Int) (c : Nat) (hc : l.length ≤ c) (hm : c ≤ maxLen) (h : Lies w w.heap.size A (ints .i64 l)) (_ : ∀ n ∈ l, (Lit.int .i64 n).wf = true) (sos : Int) (_ : (Lit.int .i64 sos).wf = true) :
    Calls Tryd.prog 4 #[.slice A l.length c, .int .i64 sos] w fun e w' => e = .returned (.bool true) ∧ Below w.heap.size w w' := by
  unfold maxLen at hm
  by_cases hh : 200 < l.length
  · exact walk_long w hT A l c (by omega) hh _
  · exact walk_ok w hT A l c (by omega) h sos
-- WRAP
theorem spec : LawSpec Rows.weakStepsSpec 2 := ⟨rfl, fun H ds h => by
  match ds, h with
  | [d0, d1], _ => rfl⟩
theorem params_ok : ∀ t ∈ Tryd.f4.params.toList, Tryd.prog.readableRec t = true ∧ t < Tryd.prog.types.size := by
  rw [Tryd.params4]
  intro t ht
  simp only [List.mem_cons, List.mem_nil_iff, or_false] at ht
  rcases ht with rfl | rfl
  all_goals exact ⟨by kernel_rfl, of_decide_eq_true (by kernel_rfl)⟩

theorem contract (H : Type) (enc : TypeId × Value → H) (W : World) (base : Nat) (args : Array Value) (ds gs : List (DataW H)) (before : List MemPlace)
    (hval : ∀ (j : Nat) t v, Tryd.f4.params[j]? = some t → args[j]? = some v → Value.okWide Tryd.prog W .any base t v)
    (hW : DataW.Whole enc Tryd.prog Tryd.f4.params.toList Rows.weakStepsSpec.vars false W args.toList ds gs before) (hL : laidMetH Tryd.prog laidList W) :
    Calls Tryd.prog 4 args W fun e W' => ∃ v, e = .returned v ∧ Rows.weakStepsSpec.post enc Tryd.prog Tryd.f4 false true false false W args v W' := by
  have hW' := hW
  obtain ⟨p, q, hA0, hV, rfl, hfz, hnd⟩ := hW
  have hA : DataW.TrodAll enc Tryd.prog W 0 (fun _ => true) true Tryd.f4.params.toList args.toList ds p := hA0
  rw [Tryd.params4] at hA hval
  obtain ⟨v0, vs0, d0, ds0, p0, q0, hargs, rfl, rfl, h0, r0⟩ := trodAll_cons hA
  obtain ⟨v1, vs1, d1, ds1, p1, q1, rfl, rfl, rfl, h1, r1⟩ := trodAll_cons r0
  obtain ⟨rfl, rfl, rfl⟩ := trodAll_nil r1
  obtain rfl : args = #[v0, v1] := by cases args; simp_all
  obtain ⟨A0, l0, c0, rfl, hc0, hm0, hl0, wf0⟩ := open_list Tryd.underlying22 Tryd.underlying3 (by kernel_rfl) (hval 0 22 v0 rfl rfl) h0
  obtain ⟨a1, rfl, rfl, rfl, w1⟩ := open_int Tryd.underlying3 (hval 1 3 v1 rfl rfl) h1
  exact (walk W (tabs_of hL) A0 l0 c0 hc0 hm0 hl0 wf0 a1 w1).mono fun e W' ⟨he, hg⟩ => ⟨_, he, law_post spec (by rw [Tryd.params4]; rfl) (by kernel_rfl) params_ok (by kernel_rfl) Tryd.underlying4 hW' hg⟩

theorem laid_met (os : Os) : laidMet Tryd.prog Rows.weakStepsRow.laid ((laidWorld os #[.slice none 0 0, .int .i64 0]).forCall (fun _ _ => 0) ⟨#[], #[.slice none 0 0, .int .i64 0], []⟩).memory :=
  laidMet_of_run' 8 (by kernel_rfl) (by kernel_rfl)
theorem reads (os : Os) {H : Type} (enc : TypeId × Value → H) : ∃ places, DataW.whole enc Tryd.prog ((laidWorld os #[.slice none 0 0, .int .i64 0]).forCall (fun _ _ => 0) ⟨#[], #[.slice none 0 0, .int .i64 0], []⟩).memory Tryd.f4.params.toList Rows.weakStepsSpec.vars false #[.slice none 0 0, .int .i64 0].toList 8 = some ([.nil, .lit (.int .i64 0)], [], places) :=
  ⟨[], by kernel_rfl⟩
set_option maxRecDepth 100000 in
theorem lifted (os : Os) (started : os.Started) (H : Type) (enc : TypeId × Value → H) (F : Stop.Interp) :
    ReturnsInHanded {} Tryd.checked os 4 .any ((OpenSpec.ofChange Rows.weakStepsSpec).preRow enc Tryd.prog Tryd.f4 Rows.weakStepsRow.domain false Rows.weakStepsRow.laid) (((OpenSpec.ofChange Rows.weakStepsSpec).at F).post enc Tryd.prog Tryd.f4 false true false false) := by
  obtain ⟨places, hx⟩ := reads os enc
  refine returnsInHanded_of_row (C := Tryd.checked) (s := OpenSpec.ofChange Rows.weakStepsSpec) own started (by kernel_rfl) Tryd.func4
    (witness_row_at (enc := enc) (C := Tryd.checked) false (laidWorld os #[.slice none 0 0, .int .i64 0]) #[.slice none 0 0, .int .i64 0] rfl (by kernel_rfl) (by kernel_rfl) (by kernel_rfl)
      (OpenSpec.preRow_of_cond 8 hx (by kernel_rfl) (fun k hk => by cases hk) (by kernel_rfl) (laid_met os))) ?_
  intro W base args ds gs before hval hW _ _ _ hL _ _
  exact contract H enc W base args ds gs before hval hW hL
theorem said : Rows.WeakStepsSaid :=
  OpenClaim.holds_of_cond 4 Tryd.f4 rfl rfl rfl rfl rfl rfl rfl ⟨rfl, rfl, rfl, rfl, rfl⟩ rfl rfl rfl rfl rfl (by kernel_rfl) Tryd.func4 (by kernel_rfl)
    (of_decide_eq_true (by kernel_rfl)) (by unfold Func.isWrapper; first | (rw [if_pos (by decide +kernel)]; kernel_rfl) | (rw [if_neg (by decide +kernel)]; exact ⟨rfl, rfl⟩))
    (fun os started H enc _ F => by rw [OpenClaim.pre_eq_preRow]; exact lifted os started H enc F)
theorem card : Rows.WeakStepsCardSaid :=
  Claim7.holds_tied_plain_at .later [] _ _ _ _ said (fun _ h => by cases h) (by kernel_rfl) (fun _ h => by cases h) weakSteps_row_tie rfl ⟨rfl, rfl⟩ (by kernel_rfl) rfl
    (plainOf "ductus/ductuslaw09.WeakSteps" 4 Tryd.f4 (by kernel_rfl) Tryd.func4 (by kernel_rfl) (fun j t ht => by
      rw [Tryd.params4] at ht
      have hm := Array.mem_of_getElem? ht
      simp only [List.mem_toArray, List.mem_cons, List.mem_nil_iff, or_false] at hm
      rcases hm with rfl | rfl
      all_goals (show Tryd.prog.wantsStandIn _ = false; kernel_rfl))) (by kernel_rfl)
end Go.Proofs.YtibconopcacelaaDoor.lawSteps
