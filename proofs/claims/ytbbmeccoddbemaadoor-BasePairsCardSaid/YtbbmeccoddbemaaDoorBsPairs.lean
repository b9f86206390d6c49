/- BasePairs: for every list of numbers, an isolate's end's beginning's end is it, ends and beginnings don't cross, and no paragraph ends within. Conditions: none (the names' cells are tied to the program's text). -/
import Derived.Test.YtbbmeccoddbemaaDoorBsF
import Derived.Test.YtbbmeccoddbemaaDoorClL
import Derived.Test.YtbbmeccoddbemaaDoorLaw
namespace Go.Proofs.YtbbmeccoddbemaaDoor.lawPairs
open Go.ChangeShapes Go.WideShapes Go.ChangeAt Go.RowKit

theorem pair_facts (l : List Int) (i : Nat) (hi : i < l.length) : mf l i = -1 ∨ ∃ k : Nat, mf l i = k ∧ k < l.length ∧ mf l k = i ∧ isOpens (at0 l i) = decide (i < k) ∧ at0 l (max i k) = 22 ∧ isOpens (at0 l (min i k)) = true ∧
    ∀ j, min i k < j → j < max i k → at0 l j ≠ 10 ∧ (mf l j = -1 ∨ ∃ q : Nat, mf l j = q ∧ min i k < q ∧ q < max i k) := by
  have h := minv l l.length (Nat.le_refl _)
  cases ho : isOpens (at0 l i) with
  | true =>
    rcases h.op i hi ho with hh | ⟨b, hb⟩
    · exact .inl hh
    · have hlt := hb.lt
      refine .inr ⟨b, hb.fa, hb.bi, hb.fb, by simp [hlt], ?_, ?_, fun j h1 h2 => ?_⟩
      · rw [Nat.max_eq_right (by omega)]; exact hb.is
      · rw [Nat.min_eq_left (by omega)]; exact ho
      · rw [Nat.min_eq_left (by omega)] at h1 ⊢
        rw [Nat.max_eq_right (by omega)] at h2 ⊢
        obtain ⟨x, _, y⟩ := hb.within j h1 h2
        exact ⟨x, y⟩
  | false =>
    rcases h.cl i hi ho with hh | ⟨a, ha, hai, hao, hfa⟩
    · exact .inl hh
    · rcases h.op a (by omega) hao with hh | ⟨b, hb⟩
      · rw [hh] at hfa; omega
      · have hbi : b = i := by have := hb.fa; rw [hfa] at this; omega
        subst hbi
        refine .inr ⟨a, ha, by omega, hfa, by simp; omega, ?_, ?_, fun j h1 h2 => ?_⟩
        · rw [Nat.max_eq_left (by omega)]; exact hb.is
        · rw [Nat.min_eq_right (by omega)]; exact hao
        · rw [Nat.min_eq_right (by omega)] at h1 ⊢
          rw [Nat.max_eq_left (by omega)] at h2 ⊢
          obtain ⟨x, _, y⟩ := hb.within j h1 h2
          exact ⟨x, y⟩

set_option maxRecDepth 20000 in
set_option maxHeartbeats 4000000 in
theorem walk_ok (w : World) (hT : ClsTabs w) (A : Option Addr) (l : List Int) (c : Nat) (hl : l.length ≤ 500) (h : Lies w w.heap.size A (ints .i64 l)) :
    Calls Tryd.prog 4 #[.slice A l.length c] w fun e w' => e = .returned (.bool true) ∧ Below w.heap.size w w' := by
  have hl' : l.length ≤ 1000000 := by omega
  have HT := Lib.hid hT
  have H := Lib.hid h
  obtain ⟨m, hm⟩ : ∃ m, mt l = m := ⟨_, rfl⟩
  have hml : m.length = l.length := by rw [← hm]; simp [mt]
  have hmf : ∀ i (h1 : i < m.length), m[i] = mf l i := fun i h1 => by subst hm; exact listOf_get h1
  have HM := Lib.hid hm
  have HML := Lib.hid hml
  have HMF := Lib.hid hmf
  have hne : ((m.length : Int) != (l.length : Int)) = false := by rw [hml]; simp
  clear hm hmf hT h hml
  go_enter Tryd.func4, Tryd.ntmps4
  go_wp2_with fail
  refine (balive_any w HT.out).mono ?_
  rintro e w1 ⟨rfl, b1⟩
  have B1 := Lib.hid b1
  have D1 := Lib.hid b1
  clear b1
  go_wp2_with fail
  refine (match_any A l c w1 (H.out.up B1.out) hl').mono ?_
  rintro e w2 ⟨v2, rfl, o2, b2⟩
  rw [HM.out] at o2
  obtain ⟨A2, c2, rfl, l2, _, _⟩ := o2.form
  have B2 := Lib.hid (below_then B1.out b2)
  have L2 := Lib.hid l2
  have D2 := Lib.hid b2
  simp only [ints, List.length_map]
  clear o2 b2 l2
  have LL := Lib.hid ((H.out.up B1.out).up D2.out)
  go_wp2_with fail
  clear hne
  go_loopw [4] (fun iv wr => ∃ i : Nat, i ≤ l.length ∧ iv = .int .i64 i ∧ wr = w2) (fun iv _ => l.length - (intOf iv).toNat)
  case atStart => exact ⟨0, by omega, rfl, rfl⟩
  case round =>
    obtain ⟨i, hi, rfl, rfl⟩ := hrel
    by_cases hlt : i < l.length
    · obtain ⟨p, rfl, _, hcl⟩ := LL.out.nums (by omega)
      obtain ⟨q, rfl, _, hcm⟩ := L2.out.nums (by have := HML.out; omega)
      have HCL := Lib.hid hcl
      have HCM : Hid (∀ i, i < l.length → wr.cell? (q.add i) = some (.int .i64 (mf l i))) := Lib.hid fun i hi => by rw [hcm i (by rw [HML.out]; exact hi), HMF.out]
      clear hcl hcm
      have b0 : (0 : Int) ≤ (i : Int) := by omega
      have b1 : (i : Int) < (l.length : Int) := by omega
      have b1' : (i : Int) < (m.length : Int) := by rw [HML.out]; exact b1
      have hci := HCM.out i hlt
      rcases pair_facts l i hlt with hn | ⟨k, hk, hkl, hki, ho, h22, hop, hwi⟩
      · rw [hn] at hci
        clear hn
        go_wp2_with fail
        go_roundw
        case rel => exact ⟨i + 1, by omega, by go_num, by first | rfl | trivial⟩
        case measure => simp [intOf]; omega
      · rw [hk] at hci
        obtain ⟨lo, hlo⟩ : ∃ n, min i k = n := ⟨_, rfl⟩
        obtain ⟨hi', hhi⟩ : ∃ n, max i k = n := ⟨_, rfl⟩
        rw [hlo] at hop hwi
        rw [hhi] at h22 hwi
        have hlol : lo < l.length := by omega
        have hhil : hi' < l.length := by omega
        have hmin : (if (k : Int) < (i : Int) then (k : Int) else (i : Int)) = (lo : Int) := by split <;> omega
        have hmax : (if (i : Int) < (k : Int) then (k : Int) else (i : Int)) = (hi' : Int) := by split <;> omega
        have hmin' : min (i : Int) (k : Int) = (lo : Int) := by omega
        have hmax' : max (i : Int) (k : Int) = (hi' : Int) := by omega
        have hge : decide ((k : Int) ≥ (l.length : Int)) = false := by simp; omega
        have hck := HCM.out k hkl
        rw [hki] at hck
        have hcx := HCL.out i hlt
        have hch := HCL.out hi' hhil
        have hcw := HCL.out lo hlol
        rw [at0_eq hlt] at ho
        rw [at0_eq hhil] at h22
        rw [at0_eq hlol] at hop
        rw [h22] at hch
        obtain ⟨x, hx⟩ : ∃ x, l[i] = x := ⟨_, rfl⟩
        rw [hx] at hcx ho
        obtain ⟨y, hy⟩ : ∃ x, l[lo] = x := ⟨_, rfl⟩
        rw [hy] at hcw hop
        obtain ⟨o, hgt⟩ : ∃ o, decide ((k : Int) > (i : Int)) = o := ⟨_, rfl⟩
        have ho' : isOpens x = o := by rw [ho, ← hgt]; simp
        have hgt' : decide (i < k) = o := by rw [← hgt]; simp
        have HO := Lib.hid ho'
        have HOP := Lib.hid hop
        have HWI := Lib.hid hwi
        have HLO := Lib.hid hlo
        have HHI := Lib.hid hhi
        have b2 : (0 : Int) ≤ (k : Int) := by omega
        have b3 : (k : Int) < (m.length : Int) := by rw [HML.out]; omega
        have b4 : (0 : Int) ≤ (lo : Int) := by omega
        have b5 : (lo : Int) < (l.length : Int) := by omega
        have b6 : (0 : Int) ≤ (hi' : Int) := by omega
        have b7 : (hi' : Int) < (l.length : Int) := by omega
        clear hk hki ho h22 hop hwi hlo hhi hx hy ho'
        go_wp2_with fail
        refine (ropens_any x _).mono ?_
        rintro e wq ⟨rfl, rfl⟩
        rw [HO.out]
        go_wp2_with fail
        refine (ropens_any y _).mono ?_
        rintro e wq ⟨rfl, rfl⟩
        rw [HOP.out]
        go_wp2_with fail
        clear hgt hgt' hge hck hcx hch hcw
        go_loopw [6] (fun jv w' => ∃ j : Nat, lo < j ∧ j ≤ l.length ∧ jv = .int .i64 j ∧ w' = wr) (fun jv _ => l.length - (intOf jv).toNat)
        case atStart => exact ⟨lo + 1, by omega, by omega, by go_num, rfl⟩
        case round =>
          obtain ⟨j, hj1, hj2, rfl, rfl⟩ := hrel
          by_cases hjh : j < hi'
          · have hjl : j < l.length := by omega
            obtain ⟨h10, hv⟩ := HWI.out j hj1 hjh
            have hcj := HCL.out j hjl
            have hcv := HCM.out j hjl
            rw [at0_eq hjl] at h10
            obtain ⟨z, hz⟩ : ∃ z, l[j] = z := ⟨_, rfl⟩
            rw [hz] at hcj h10
            have hx10 : (z == 10) = false := by simpa using h10
            have c0 : (0 : Int) ≤ (j : Int) := by omega
            have c1 : (j : Int) < (l.length : Int) := by omega
            have c2' : (j : Int) < (m.length : Int) := by rw [HML.out]; omega
            clear hz h10
            rcases hv with hv | ⟨r, hv, hr1, hr2⟩
            · rw [hv] at hcv
              clear hv
              go_wp2_with fail
              go_roundw
              case rel => exact ⟨j + 1, by omega, by omega, by go_num, by first | rfl | trivial⟩
              case measure => simp [intOf]; omega
            · rw [hv] at hcv
              have hg0 : decide ((r : Int) ≥ 0) = true := by simp
              have hg1 : decide (r < lo) = false := by simp; omega
              have hg2 : decide (hi' < r) = false := by simp; omega
              clear hv
              go_wp2_with fail
              go_roundw
              case rel => exact ⟨j + 1, by omega, by omega, by go_num, by first | rfl | trivial⟩
              case measure => simp [intOf]; omega
          · go_wp2_with fail
            go_roundw
            case rel => exact ⟨i + 1, by omega, by go_num, by first | rfl | trivial⟩
            case measure => simp [intOf]; omega
    · go_wp2
      go_ret
      exact ⟨rfl, B2.out⟩

set_option maxHeartbeats 1000000 in
theorem walk_long (w : World) (hT : ClsTabs w) (A : Option Addr) (l : List Int) (c : Nat) (hl : l.length ≤ 9223372036854775807) (hh : 500 < l.length) :
    Calls Tryd.prog 4 #[.slice A l.length c] w fun e w' => e = .returned (.bool true) ∧ Below w.heap.size w w' := by
  go_enter Tryd.func4, Tryd.ntmps4
  go_wp2_with fail
  refine (balive_any w hT).mono ?_
  rintro e w1 ⟨rfl, b1⟩
  have B1 := Lib.hid b1
  have D1 := Lib.hid b1
  clear b1
  go_wp2
  go_ret
  exact ⟨rfl, B1.out⟩

theorem walk (w : World) (hT : ClsTabs w) (A : Option Addr) (l : List Int) (c : Nat) (_ : l.length ≤ c) (hm : c ≤ maxLen) (h : Lies w w.heap.size A (ints .i64 l)) (_ : ∀ n ∈ l, (Lit.int .i64 n).wf = true) :
    Calls Tryd.prog 4 #[.slice A l.length c] w fun e w' => e = .returned (.bool true) ∧ Below w.heap.size w w' := by
  unfold maxLen at hm
  by_cases hh : 500 < l.length
  · exact walk_long w hT A l c (by omega) hh
  · exact walk_ok w hT A l c (by omega) h
-- WRAP
theorem spec : LawSpec Rows.basePairsSpec 1 := ⟨rfl, fun H ds h => by
  match ds, h with
  | [d0], _ => rfl⟩
theorem params_ok : ∀ t ∈ Tryd.f4.params.toList, Tryd.prog.readableRec t = true ∧ t < Tryd.prog.types.size := by
  rw [Tryd.params4]
  intro t ht
  simp only [List.mem_cons, List.mem_nil_iff, or_false] at ht
  rcases ht with rfl
  all_goals exact ⟨by kernel_rfl, of_decide_eq_true (by kernel_rfl)⟩

theorem contract (H : Type) (enc : TypeId × Value → H) (W : World) (base : Nat) (args : Array Value) (ds gs : List (DataW H)) (before : List MemPlace)
    (hval : ∀ (j : Nat) t v, Tryd.f4.params[j]? = some t → args[j]? = some v → Value.okWide Tryd.prog W .any base t v)
    (hW : DataW.Whole enc Tryd.prog Tryd.f4.params.toList Rows.basePairsSpec.vars false W args.toList ds gs before) (hL : laidMetH Tryd.prog laidList W) :
    Calls Tryd.prog 4 args W fun e W' => ∃ v, e = .returned v ∧ Rows.basePairsSpec.post enc Tryd.prog Tryd.f4 false true false false W args v W' := by
  have hW' := hW
  obtain ⟨p, q, hA0, hV, rfl, hfz, hnd⟩ := hW
  have hA : DataW.TrodAll enc Tryd.prog W 0 (fun _ => true) true Tryd.f4.params.toList args.toList ds p := hA0
  rw [Tryd.params4] at hA hval
  obtain ⟨v0, vs0, d0, ds0, p0, q0, hargs, rfl, rfl, h0, r0⟩ := trodAll_cons hA
  obtain ⟨rfl, rfl, rfl⟩ := trodAll_nil r0
  obtain rfl : args = #[v0] := by cases args; simp_all
  obtain ⟨A0, l0, c0, rfl, hc0, hm0, hl0, wf0⟩ := open_list Tryd.underlying22 Tryd.underlying3 (by kernel_rfl) (hval 0 22 v0 rfl rfl) h0
  exact (walk W (tabs_of hL) A0 l0 c0 hc0 hm0 hl0 wf0).mono fun e W' ⟨he, hg⟩ => ⟨_, he, law_post spec (by rw [Tryd.params4]; rfl) (by kernel_rfl) params_ok (by kernel_rfl) Tryd.underlying4 hW' hg⟩

theorem laid_met (os : Os) : laidMet Tryd.prog Rows.basePairsRow.laid ((laidWorld os #[.slice none 0 0]).forCall (fun _ _ => 0) ⟨#[], #[.slice none 0 0], []⟩).memory :=
  laidMet_of_run' 8 (by kernel_rfl) (by kernel_rfl)
theorem reads (os : Os) {H : Type} (enc : TypeId × Value → H) : ∃ places, DataW.whole enc Tryd.prog ((laidWorld os #[.slice none 0 0]).forCall (fun _ _ => 0) ⟨#[], #[.slice none 0 0], []⟩).memory Tryd.f4.params.toList Rows.basePairsSpec.vars false #[.slice none 0 0].toList 8 = some ([.nil], [], places) :=
  ⟨[], by kernel_rfl⟩
set_option maxRecDepth 100000 in
theorem lifted (os : Os) (started : os.Started) (H : Type) (enc : TypeId × Value → H) (F : Stop.Interp) :
    ReturnsInHanded {} Tryd.checked os 4 .any ((OpenSpec.ofChange Rows.basePairsSpec).preRow enc Tryd.prog Tryd.f4 Rows.basePairsRow.domain false Rows.basePairsRow.laid) (((OpenSpec.ofChange Rows.basePairsSpec).at F).post enc Tryd.prog Tryd.f4 false true false false) := by
  obtain ⟨places, hx⟩ := reads os enc
  refine returnsInHanded_of_row (C := Tryd.checked) (s := OpenSpec.ofChange Rows.basePairsSpec) own started (by kernel_rfl) Tryd.func4
    (witness_row_at (enc := enc) (C := Tryd.checked) false (laidWorld os #[.slice none 0 0]) #[.slice none 0 0] rfl (by kernel_rfl) (by kernel_rfl) (by kernel_rfl)
      (OpenSpec.preRow_of_cond 8 hx (by kernel_rfl) (fun k hk => by cases hk) (by kernel_rfl) (laid_met os))) ?_
  intro W base args ds gs before hval hW _ _ _ hL _ _
  exact contract H enc W base args ds gs before hval hW hL
theorem said : Rows.BasePairsSaid :=
  OpenClaim.holds_of_cond 4 Tryd.f4 rfl rfl rfl rfl rfl rfl rfl ⟨rfl, rfl, rfl, rfl, rfl⟩ rfl rfl rfl rfl rfl (by kernel_rfl) Tryd.func4 (by kernel_rfl)
    (of_decide_eq_true (by kernel_rfl)) (by unfold Func.isWrapper; first | (rw [if_pos (by decide +kernel)]; kernel_rfl) | (rw [if_neg (by decide +kernel)]; exact ⟨rfl, rfl⟩))
    (fun os started H enc _ F => by rw [OpenClaim.pre_eq_preRow]; exact lifted os started H enc F)
theorem card : Rows.BasePairsCardSaid :=
  Claim7.holds_tied_plain_at .later [] _ _ _ _ said (fun _ h => by cases h) (by kernel_rfl) (fun _ h => by cases h) basePairs_row_tie rfl ⟨rfl, rfl⟩ (by kernel_rfl) rfl
    (plainOf "ductus/ductuslaw05.BasePairs" 4 Tryd.f4 (by kernel_rfl) Tryd.func4 (by kernel_rfl) (fun j t ht => by
      rw [Tryd.params4] at ht
      have hm := Array.mem_of_getElem? ht
      simp only [List.mem_toArray, List.mem_cons, List.mem_nil_iff, or_false] at hm
      rcases hm with rfl
      all_goals (show Tryd.prog.wantsStandIn _ = false; kernel_rfl))) (by kernel_rfl)
end Go.Proofs.YtbbmeccoddbemaaDoor.lawPairs
