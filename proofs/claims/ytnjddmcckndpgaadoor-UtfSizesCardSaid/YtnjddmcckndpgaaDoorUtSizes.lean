/- UtfSizes: for every two numbers, a character has one to four bytes, the more the greater it is, and none other has. Conditions: none beyond the row's own (Go's two tables as its text lays them). -/
import Derived.Test.YtnjddmcckndpgaaDoorUtL
import Derived.Test.YtnjddmcckndpgaaDoorLaw
namespace Go.Proofs.YtnjddmcckndpgaaDoor.lawSizes
open Go.ChangeShapes Go.WideShapes Go.ChangeAt Go.RowKit

theorem enc_one (a : Int) : encL [a] = if isCh a then (encCh a, 0) else ([], 1) := by
  rcases h : isCh a with _ | _
  · simp [encL, allCh, h]
  · have := (encCh_len a).1
    have e : encAll [a] = encCh a := by simp [encAll]
    simp only [encL, allCh, List.all_cons, h, List.all_nil, Bool.and_self, if_true, e]
    rw [if_pos (by omega)]
theorem szCh_no (a : Int) (h : isCh a = false) : szCh a = 0 := by simp [szCh, h]
theorem szCh_mono (a b : Int) (ha : isCh a = true) (hb : isCh b = true) (h : a ≤ b) : szCh a ≤ szCh b := by
  have := (isCh_true.1 ha); have := (isCh_true.1 hb)
  simp only [szCh, ha, hb, if_true, lenCh]
  repeat' split
  all_goals omega
theorem szCh_bd (a : Int) (ha : isCh a = true) : 1 ≤ szCh a ∧ szCh a ≤ 4 := by
  simp only [szCh, ha, if_true, lenCh]
  repeat' split
  all_goals omega

set_option maxHeartbeats 4000000 in
theorem walk (w : World) (hT : Tabs w) (a : Int) (_ : (Lit.int .i64 a).wf = true) (b : Int) (_ : (Lit.int .i64 b).wf = true) : Calls Tryd.prog 7 #[.int .i64 a, .int .i64 b] w fun e w' => e = .returned (.bool true) ∧ Below w.heap.size w w' := by
  have HT := Lib.hid hT
  clear hT
  rcases ha : isCh a with _ | _
  · have HA := Lib.hid ha
    have HZ := Lib.hid (szCh_no a ha)
    have HE := Lib.hid (enc_one a)
    clear ha
    go_enter Tryd.func7, Tryd.ntmps7
    go_wp2_with fail
    refine (alive_any w HT.out).mono ?_
    rintro e w1 ⟨rfl, b1⟩
    have B1 := Lib.hid b1
    clear b1
    go_wp2_with fail
    refine (size_any a w1).mono ?_
    rintro e w2 ⟨rfl, rfl⟩
    go_wp2_with fail
    refine (size_any b w1).mono ?_
    rintro e w2 ⟨rfl, rfl⟩
    go_wp2_with fail
    refine (right_no a w1 HA.out).mono ?_
    rintro e w2 ⟨rfl, rfl⟩
    rw [HZ.out]
    go_wp2_with fail
    refine (encode_any _ [a] _ _ (Lies.litUp #[.int .i64 a]) (by simp)).mono ?_
    rintro e w2 ⟨v, rfl, o, b2⟩
    rw [HE.out, HA.out] at o ⊢
    obtain ⟨A, c, rfl, _, _, _⟩ := o.form
    have B2 := Lib.hid (below_then B1.out (below_then (below_alloc _ _) b2))
    clear b2 o
    go_wp2
    go_ret
    exact ⟨rfl, B2.out⟩
  · have HA := Lib.hid ha
    obtain ⟨n, hn⟩ : ∃ n, szCh a = n := ⟨_, rfl⟩
    obtain ⟨m, hm⟩ : ∃ m, szCh b = m := ⟨_, rfl⟩
    have bd := szCh_bd a ha
    have hlen := szCh_len a ha
    have hbm : m = 0 ∨ (1 ≤ m ∧ (a ≤ b → n ≤ m)) := by
      rcases hb : isCh b with _ | _
      · left; rw [← hm]; exact szCh_no b hb
      · right; rw [← hm, ← hn]; exact ⟨(szCh_bd b hb).1, szCh_mono a b ha hb⟩
    rw [hn] at bd hlen
    have HE := Lib.hid (enc_one a)
    have HN := Lib.hid hn
    have HM := Lib.hid hm
    have n1 := bd.1
    have n4 := bd.2
    have nz : (n == 0) = false := by rw [beq_eq_false_iff_ne]; omega
    have nl : (((encCh a).length : Int) == n) = true := by rw [beq_iff_eq]; omega
    have HB := Lib.hid hbm
    clear ha hn hm bd hlen hbm
    have main : ∀ (mz : (m == 0) = true ∨ ((m == 0) = false ∧ b < a) ∨ ((m == 0) = false ∧ a ≤ b ∧ n ≤ m)), Calls Tryd.prog 7 #[.int .i64 a, .int .i64 b] w fun e w' => e = .returned (.bool true) ∧ Below w.heap.size w w' := by
      intro mz
      rcases mz with mz | ⟨mz, k⟩ | ⟨mz, k, k2⟩
      all_goals
        go_enter Tryd.func7, Tryd.ntmps7
        go_wp2_with fail
        refine (alive_any w HT.out).mono ?_
        rintro e w1 ⟨rfl, b1⟩
        have B1 := Lib.hid b1
        clear b1
        go_wp2_with fail
        refine (size_any a w1).mono ?_
        rintro e w2 ⟨rfl, rfl⟩
        rw [HN.out]
        go_wp2_with fail
        refine (size_any b w1).mono ?_
        rintro e w2 ⟨rfl, rfl⟩
        rw [HM.out]
        go_wp2_with fail
        refine (right_yes a w1 HA.out).mono ?_
        rintro e w2 ⟨rfl, rfl⟩
        go_wp2_with fail
        refine (encode_any _ [a] _ _ (Lies.litUp #[.int .i64 a]) (by simp)).mono ?_
        rintro e w2 ⟨v, rfl, o, b2⟩
        rw [HE.out, HA.out] at o ⊢
        obtain ⟨A, c, rfl, _, _, _⟩ := o.form
        have B2 := Lib.hid (below_then B1.out (below_then (below_alloc _ _) b2))
        clear b2 o
        simp only [ints, List.length_map, if_true]
        go_wp2
        go_ret
        exact ⟨rfl, B2.out⟩
    apply main
    rcases HB.out with h | ⟨h1, h2⟩
    · left; rw [h]; rfl
    · right
      have hz : (m == 0) = false := by rw [beq_eq_false_iff_ne]; omega
      rcases Int.lt_or_le b a with k | k
      · exact .inl ⟨hz, k⟩
      · exact .inr ⟨hz, k, h2 k⟩
-- WRAP
theorem spec : LawSpec Rows.utfSizesSpec 2 := ⟨rfl, fun H ds h => by
  match ds, h with
  | [d0, d1], _ => rfl⟩
theorem params_ok : ∀ t ∈ Tryd.f7.params.toList, Tryd.prog.readableRec t = true ∧ t < Tryd.prog.types.size := by
  rw [Tryd.params7]
  intro t ht
  simp only [List.mem_cons, List.mem_nil_iff, or_false] at ht
  rcases ht with rfl | rfl
  all_goals exact ⟨by kernel_rfl, of_decide_eq_true (by kernel_rfl)⟩

theorem contract (H : Type) (enc : TypeId × Value → H) (W : World) (base : Nat) (args : Array Value) (ds gs : List (DataW H)) (before : List MemPlace)
    (hval : ∀ (j : Nat) t v, Tryd.f7.params[j]? = some t → args[j]? = some v → Value.okWide Tryd.prog W .any base t v)
    (hW : DataW.Whole enc Tryd.prog Tryd.f7.params.toList Rows.utfSizesSpec.vars false W args.toList ds gs before) (hL : laidMetH Tryd.prog laidList W) :
    Calls Tryd.prog 7 args W fun e W' => ∃ v, e = .returned v ∧ Rows.utfSizesSpec.post enc Tryd.prog Tryd.f7 false true false false W args v W' := by
  have hW' := hW
  obtain ⟨p, q, hA0, hV, rfl, hfz, hnd⟩ := hW
  have hA : DataW.TrodAll enc Tryd.prog W 0 (fun _ => true) true Tryd.f7.params.toList args.toList ds p := hA0
  rw [Tryd.params7] at hA hval
  obtain ⟨v0, vs0, d0, ds0, p0, q0, hargs, rfl, rfl, h0, r0⟩ := trodAll_cons hA
  obtain ⟨v1, vs1, d1, ds1, p1, q1, rfl, rfl, rfl, h1, r1⟩ := trodAll_cons r0
  obtain ⟨rfl, rfl, rfl⟩ := trodAll_nil r1
  obtain rfl : args = #[v0, v1] := by cases args; simp_all
  obtain ⟨a0, rfl, rfl, rfl, w0⟩ := open_int Tryd.underlying3 (hval 0 3 v0 rfl rfl) h0
  obtain ⟨a1, rfl, rfl, rfl, w1⟩ := open_int Tryd.underlying3 (hval 1 3 v1 rfl rfl) h1
  exact (walk W (tabs_of hL) a0 w0 a1 w1).mono fun e W' ⟨he, hg⟩ => ⟨_, he, law_post spec (by rw [Tryd.params7]; rfl) (by kernel_rfl) params_ok (by kernel_rfl) Tryd.underlying4 hW' hg⟩

theorem laid_met (os : Os) : laidMet Tryd.prog Rows.utfSizesRow.laid ((laidWorld os #[.int .i64 0, .int .i64 0]).forCall (fun _ _ => 0) ⟨#[], #[.int .i64 0, .int .i64 0], []⟩).memory :=
  laidMet_of_run' 8 (by kernel_rfl) (by kernel_rfl)
theorem reads (os : Os) {H : Type} (enc : TypeId × Value → H) : ∃ places, DataW.whole enc Tryd.prog ((laidWorld os #[.int .i64 0, .int .i64 0]).forCall (fun _ _ => 0) ⟨#[], #[.int .i64 0, .int .i64 0], []⟩).memory Tryd.f7.params.toList Rows.utfSizesSpec.vars false #[.int .i64 0, .int .i64 0].toList 8 = some ([.lit (.int .i64 0), .lit (.int .i64 0)], [], places) :=
  ⟨[], by kernel_rfl⟩
set_option maxRecDepth 100000 in
theorem lifted (os : Os) (started : os.Started) (H : Type) (enc : TypeId × Value → H) (F : Stop.Interp) :
    ReturnsInHanded {} Tryd.checked os 7 .any ((OpenSpec.ofChange Rows.utfSizesSpec).preRow enc Tryd.prog Tryd.f7 Rows.utfSizesRow.domain false Rows.utfSizesRow.laid) (((OpenSpec.ofChange Rows.utfSizesSpec).at F).post enc Tryd.prog Tryd.f7 false true false false) := by
  obtain ⟨places, hx⟩ := reads os enc
  refine returnsInHanded_of_row (C := Tryd.checked) (s := OpenSpec.ofChange Rows.utfSizesSpec) own started (by kernel_rfl) Tryd.func7
    (witness_row_at (enc := enc) (C := Tryd.checked) false (laidWorld os #[.int .i64 0, .int .i64 0]) #[.int .i64 0, .int .i64 0] rfl (by kernel_rfl) (by kernel_rfl) (by kernel_rfl)
      (OpenSpec.preRow_of_cond 8 hx (by kernel_rfl) (fun k hk => by cases hk) (by kernel_rfl) (laid_met os))) ?_
  intro W base args ds gs before hval hW _ _ _ hL _ _
  exact contract H enc W base args ds gs before hval hW hL
theorem said : Rows.UtfSizesSaid :=
  OpenClaim.holds_of_cond 7 Tryd.f7 rfl rfl rfl rfl rfl rfl rfl ⟨rfl, rfl, rfl, rfl, rfl⟩ rfl rfl rfl rfl rfl (by kernel_rfl) Tryd.func7 (by kernel_rfl)
    (of_decide_eq_true (by kernel_rfl)) (by unfold Func.isWrapper; first | (rw [if_pos (by decide +kernel)]; kernel_rfl) | (rw [if_neg (by decide +kernel)]; exact ⟨rfl, rfl⟩))
    (fun os started H enc _ F => by rw [OpenClaim.pre_eq_preRow]; exact lifted os started H enc F)
theorem card : Rows.UtfSizesCardSaid :=
  Claim7.holds_tied_plain_at .later [] _ _ _ _ said (fun _ h => by cases h) (by kernel_rfl) (fun _ h => by cases h) utfSizes_row_tie rfl ⟨rfl, rfl⟩ (by kernel_rfl) rfl
    (plainOf "ductus/ductuslaw01.UtfSizes" 7 Tryd.f7 (by kernel_rfl) Tryd.func7 (by kernel_rfl) (fun j t ht => by
      rw [Tryd.params7] at ht
      have hm := Array.mem_of_getElem? ht
      simp only [List.mem_toArray, List.mem_cons, List.mem_nil_iff, or_false] at hm
      rcases hm with rfl | rfl
      all_goals (show Tryd.prog.wantsStandIn _ = false; kernel_rfl))) (by kernel_rfl)
end Go.Proofs.YtnjddmcckndpgaaDoor.lawSizes
