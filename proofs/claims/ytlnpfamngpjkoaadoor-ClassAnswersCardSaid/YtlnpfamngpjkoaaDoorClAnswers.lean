/- ClassAnswers: for every list of numbers and every number, their classes and what any class is are the document's. Conditions: none beyond the row's own (the classes' names as the program's text lays them). -/
import Derived.Test.YtlnpfamngpjkoaaDoorClL
import Derived.Test.YtlnpfamngpjkoaaDoorLaw
namespace Go.Proofs.YtlnpfamngpjkoaaDoor.lawAnswers
open Go.ChangeShapes Go.WideShapes Go.ChangeAt Go.RowKit Reckon

set_option maxHeartbeats 4000000 in
theorem walk_ok (w : World) (hT : ClsTabs w) (A : Option Addr) (l : List Int) (c : Nat) (k : Int) (hl : l.length ≤ 5000) (h : Lies w w.heap.size A (ints .i64 l)) :
    Calls Tryd.prog 3 #[.slice A l.length c, .int .i64 k] w fun e w' => e = .returned (.bool true) ∧ Below w.heap.size w w' := by
  obtain ⟨W, hW⟩ : ∃ W, wordOf k = W := ⟨_, rfl⟩
  obtain ⟨S, hS⟩ : ∃ S, isStrong k = S := ⟨_, rfl⟩
  obtain ⟨O, hO⟩ : ∃ O, isOut k = O := ⟨_, rfl⟩
  obtain ⟨P, hP⟩ : ∃ P, isOpens k = P := ⟨_, rfl⟩
  obtain ⟨N, hN⟩ : ∃ N, isNeutral k = N := ⟨_, rfl⟩
  have HW := Lib.hid hW
  have HS := Lib.hid hS
  have HO := Lib.hid hO
  have HN := Lib.hid hN
  have HP := Lib.hid hP
  have HT := Lib.hid hT
  have H := Lib.hid h
  have hbig := hT.big
  clear hW hS hO hN hP hT h
  go_enter Tryd.func3, Tryd.ntmps3
  go_wp2_with fail
  refine (calive_any w HT.out).mono ?_
  rintro e w1 ⟨rfl, b1⟩
  have B1 := Lib.hid b1
  clear b1
  go_wp2_with fail
  go_loopw [5] (fun i wr => ∃ n : Nat, n ≤ l.length ∧ i = .int .i64 n ∧ Below w.heap.size w wr) (fun i _ => l.length - (intOf i).toNat)
  case atStart => exact ⟨0, by omega, rfl, B1.out⟩
  case round =>
    obtain ⟨n, hn, rfl, hb⟩ := hrel
    have HB := Lib.hid hb
    clear hb
    by_cases hlt : n < l.length
    · obtain ⟨p, rfl, _, hc⟩ := (H.out.below HB.out).int hlt
      obtain ⟨v, hv⟩ : ∃ v, l[n] = v := ⟨_, rfl⟩
      rw [hv] at hc
      clear hv
      have b0 : (0 : Int) ≤ (n : Int) := by omega
      have b1 : (n : Int) < (l.length : Int) := by omega
      go_wp2
      go_quiet ((first | (go_at_call 8; with_reducible exact quiet_same (of_any _ _)) | (go_at_call 9; with_reducible exact quiet_same (rof_any _ _))))
      go_wp2
      go_roundw
      case rel => exact ⟨n + 1, by omega, by go_num, below_drawn HB.out _⟩
      case measure => simp [intOf]; omega
    · go_wp2_with fail
      refine (all_any _ l _ _ (H.out.up HB.out) (by omega)).mono ?_
      rintro e w2 ⟨v2, rfl, o2, b2⟩
      obtain ⟨A2, c2, rfl, l2, _, _⟩ := o2.form
      have B2 := Lib.hid (below_then HB.out b2)
      have L2 := Lib.hid l2
      simp only [ints, List.length_map]
      clear o2 b2 l2
      go_wp2_with fail
      refine (rall_any _ l _ _ (H.out.up B2.out) (by omega)).mono ?_
      rintro e w3 ⟨v3, rfl, o3, b3⟩
      obtain ⟨A3, c3, rfl, l3, _, _⟩ := o3.form
      have B3 := Lib.hid (below_then B2.out b3)
      have L3 := Lib.hid l3
      have L2' := Lib.hid (L2.out.up b3)
      simp only [ints, List.length_map]
      clear o3 b3 l3 L2
      obtain ⟨m, hm⟩ : ∃ m, l.map cls = m := ⟨_, rfl⟩
      have hml : l.length = m.length := by rw [← hm]; simp
      have HM := Lib.hid hm
      have HI : Hid (∀ w', Below w3.heap.size w3 w' → Calls Tryd.prog 10 #[.slice A2 l.length c2, .slice A3 l.length c3] w' fun e w'' => e = .returned (.bool true) ∧ Below w'.heap.size w' w'') := fun w' hb => by
        rw [hml]
        exact ints_ok _ _ m _ _ _ (by have := L2'.out.up hb; rwa [HM.out] at this) (by have := L3.out.up hb; rwa [HM.out] at this) (by omega)
      clear hm hml HM L2' L3
      go_wp2_with fail
      refine (HI.out _ (Below.refl _ _)).mono ?_
      rintro e w4 ⟨rfl, b4⟩
      have B4 := Lib.hid (below_then B3.out b4)
      clear b4
      go_wp2_with (first
        | (go_at_call 13; refine (word_any _ _ (HT.out.below B4.out hbig)).mono ?_; rintro e w5 ⟨rfl, rfl⟩; rw [HW.out])
        | (go_at_call 14; refine (rword_any _ _).mono ?_; rintro e w6 ⟨rfl, b6⟩; rw [HW.out]; have B6 := Lib.hid b6; clear b6)
        | (go_at_call 15; refine (strong_any _ _).mono ?_; rintro e w7 ⟨rfl, b7⟩; rw [HS.out]; have B7 := Lib.hid b7; clear b7)
        | (go_at_call 16; refine (rstrong_any _ _).mono ?_; rintro e w5 ⟨rfl, rfl⟩; rw [HS.out])
        | (go_at_call 17; refine (out_any _ _).mono ?_; rintro e w8 ⟨rfl, b8⟩; rw [HO.out]; have B8 := Lib.hid b8; clear b8)
        | (go_at_call 18; refine (rout_any _ _).mono ?_; rintro e w5 ⟨rfl, rfl⟩; rw [HO.out])
        | (go_at_call 19; refine (opens_any _ _).mono ?_; rintro e w9 ⟨rfl, b9⟩; rw [HP.out]; have B9 := Lib.hid b9; clear b9)
        | (go_at_call 20; refine (ropens_any _ _).mono ?_; rintro e w5 ⟨rfl, rfl⟩; rw [HP.out])
        | (go_at_call 21; refine (neutral_any _ _).mono ?_; rintro e w10 ⟨rfl, b10⟩; rw [HN.out]; have B10 := Lib.hid b10; clear b10)
        | (go_at_call 22; refine (rneutral_any _ _).mono ?_; rintro e w5 ⟨rfl, rfl⟩; rw [HN.out]))
      go_ret
      exact ⟨rfl, below_then B4.out (below_then B6.out (below_then B7.out (below_then B8.out (below_then B9.out B10.out))))⟩

set_option maxHeartbeats 1000000 in
theorem walk_long (w : World) (hT : ClsTabs w) (A : Option Addr) (l : List Int) (c : Nat) (k : Int) (hl : l.length ≤ 9223372036854775807) (hh : 5000 < l.length) :
    Calls Tryd.prog 3 #[.slice A l.length c, .int .i64 k] w fun e w' => e = .returned (.bool true) ∧ Below w.heap.size w w' := by
  have HT := Lib.hid hT
  clear hT
  go_enter Tryd.func3, Tryd.ntmps3
  go_wp2_with fail
  refine (calive_any w HT.out).mono ?_
  rintro e w1 ⟨rfl, b1⟩
  go_wp2
  go_ret
  exact ⟨rfl, b1⟩

theorem walk (w : World) (hT : ClsTabs w) (A : Option Addr) (l : List Int) (c : Nat) (hc : l.length ≤ c) (hm : c ≤ maxLen) (h : Lies w w.heap.size A (ints .i64 l)) (_ : ∀ n ∈ l, (Lit.int .i64 n).wf = true)
    (k : Int) (_ : (Lit.int .i64 k).wf = true) :
    Calls Tryd.prog 3 #[.slice A l.length c, .int .i64 k] w fun e w' => e = .returned (.bool true) ∧ Below w.heap.size w w' := by
  unfold maxLen at hm
  by_cases hh : 5000 < l.length
  · exact walk_long w hT A l c k (by omega) hh
  · exact walk_ok w hT A l c k (by omega) h
-- WRAP
theorem spec : LawSpec Rows.classAnswersSpec 2 := ⟨rfl, fun H ds h => by
  match ds, h with
  | [d0, d1], _ => rfl⟩
theorem params_ok : ∀ t ∈ Tryd.f3.params.toList, Tryd.prog.readableRec t = true ∧ t < Tryd.prog.types.size := by
  rw [Tryd.params3]
  intro t ht
  simp only [List.mem_cons, List.mem_nil_iff, or_false] at ht
  rcases ht with rfl | rfl
  all_goals exact ⟨by kernel_rfl, of_decide_eq_true (by kernel_rfl)⟩

theorem contract (H : Type) (enc : TypeId × Value → H) (W : World) (base : Nat) (args : Array Value) (ds gs : List (DataW H)) (before : List MemPlace)
    (hval : ∀ (j : Nat) t v, Tryd.f3.params[j]? = some t → args[j]? = some v → Value.okWide Tryd.prog W .any base t v)
    (hW : DataW.Whole enc Tryd.prog Tryd.f3.params.toList Rows.classAnswersSpec.vars false W args.toList ds gs before) (hL : laidMetH Tryd.prog laidList W) :
    Calls Tryd.prog 3 args W fun e W' => ∃ v, e = .returned v ∧ Rows.classAnswersSpec.post enc Tryd.prog Tryd.f3 false true false false W args v W' := by
  have hW' := hW
  obtain ⟨p, q, hA0, hV, rfl, hfz, hnd⟩ := hW
  have hA : DataW.TrodAll enc Tryd.prog W 0 (fun _ => true) true Tryd.f3.params.toList args.toList ds p := hA0
  rw [Tryd.params3] at hA hval
  obtain ⟨v0, vs0, d0, ds0, p0, q0, hargs, rfl, rfl, h0, r0⟩ := trodAll_cons hA
  obtain ⟨v1, vs1, d1, ds1, p1, q1, rfl, rfl, rfl, h1, r1⟩ := trodAll_cons r0
  obtain ⟨rfl, rfl, rfl⟩ := trodAll_nil r1
  obtain rfl : args = #[v0, v1] := by cases args; simp_all
  obtain ⟨A0, l0, c0, rfl, hc0, hm0, hl0, wf0⟩ := open_list Tryd.underlying22 Tryd.underlying3 (by kernel_rfl) (hval 0 22 v0 rfl rfl) h0
  obtain ⟨a1, rfl, rfl, rfl, w1⟩ := open_int Tryd.underlying3 (hval 1 3 v1 rfl rfl) h1
  exact (walk W (tabs_of hL) A0 l0 c0 hc0 hm0 hl0 wf0 a1 w1).mono fun e W' ⟨he, hg⟩ => ⟨_, he, law_post spec (by rw [Tryd.params3]; rfl) (by kernel_rfl) params_ok (by kernel_rfl) Tryd.underlying4 hW' hg⟩

theorem laid_met (os : Os) : laidMet Tryd.prog Rows.classAnswersRow.laid ((laidWorld os #[.slice none 0 0, .int .i64 0]).forCall (fun _ _ => 0) ⟨#[], #[.slice none 0 0, .int .i64 0], []⟩).memory :=
  laidMet_of_run' 8 (by kernel_rfl) (by kernel_rfl)
theorem reads (os : Os) {H : Type} (enc : TypeId × Value → H) : ∃ places, DataW.whole enc Tryd.prog ((laidWorld os #[.slice none 0 0, .int .i64 0]).forCall (fun _ _ => 0) ⟨#[], #[.slice none 0 0, .int .i64 0], []⟩).memory Tryd.f3.params.toList Rows.classAnswersSpec.vars false #[.slice none 0 0, .int .i64 0].toList 8 = some ([.nil, .lit (.int .i64 0)], [], places) :=
  ⟨[], by kernel_rfl⟩
set_option maxRecDepth 100000 in
theorem lifted (os : Os) (started : os.Started) (H : Type) (enc : TypeId × Value → H) (F : Stop.Interp) :
    ReturnsInHanded {} Tryd.checked os 3 .any ((OpenSpec.ofChange Rows.classAnswersSpec).preRow enc Tryd.prog Tryd.f3 Rows.classAnswersRow.domain false Rows.classAnswersRow.laid) (((OpenSpec.ofChange Rows.classAnswersSpec).at F).post enc Tryd.prog Tryd.f3 false true false false) := by
  obtain ⟨places, hx⟩ := reads os enc
  refine returnsInHanded_of_row (C := Tryd.checked) (s := OpenSpec.ofChange Rows.classAnswersSpec) own started (by kernel_rfl) Tryd.func3
    (witness_row_at (enc := enc) (C := Tryd.checked) false (laidWorld os #[.slice none 0 0, .int .i64 0]) #[.slice none 0 0, .int .i64 0] rfl (by kernel_rfl) (by kernel_rfl) (by kernel_rfl)
      (OpenSpec.preRow_of_cond 8 hx (by kernel_rfl) (fun k hk => by cases hk) (by kernel_rfl) (laid_met os))) ?_
  intro W base args ds gs before hval hW _ _ _ hL _ _
  exact contract H enc W base args ds gs before hval hW hL
theorem said : Rows.ClassAnswersSaid :=
  OpenClaim.holds_of_cond 3 Tryd.f3 rfl rfl rfl rfl rfl rfl rfl ⟨rfl, rfl, rfl, rfl, rfl⟩ rfl rfl rfl rfl rfl (by kernel_rfl) Tryd.func3 (by kernel_rfl)
    (of_decide_eq_true (by kernel_rfl)) (by unfold Func.isWrapper; first | (rw [if_pos (by decide +kernel)]; kernel_rfl) | (rw [if_neg (by decide +kernel)]; exact ⟨rfl, rfl⟩))
    (fun os started H enc _ F => by rw [OpenClaim.pre_eq_preRow]; exact lifted os started H enc F)
theorem card : Rows.ClassAnswersCardSaid :=
  Claim7.holds_tied_plain_at .later [] _ _ _ _ said (fun _ h => by cases h) (by kernel_rfl) (fun _ h => by cases h) classAnswers_row_tie rfl ⟨rfl, rfl⟩ (by kernel_rfl) rfl
    (plainOf "ductus/ductuslaw02.ClassAnswers" 3 Tryd.f3 (by kernel_rfl) Tryd.func3 (by kernel_rfl) (fun j t ht => by
      rw [Tryd.params3] at ht
      have hm := Array.mem_of_getElem? ht
      simp only [List.mem_toArray, List.mem_cons, List.mem_nil_iff, or_false] at hm
      rcases hm with rfl | rfl
      all_goals (show Tryd.prog.wantsStandIn _ = false; kernel_rfl))) (by kernel_rfl)
end Go.Proofs.YtlnpfamngpjkoaaDoor.lawAnswers
