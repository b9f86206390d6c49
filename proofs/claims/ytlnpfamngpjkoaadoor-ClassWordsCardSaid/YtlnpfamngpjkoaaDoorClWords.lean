/- ClassWords: each class has its own name, and all else none. Conditions: none beyond the row's own (the classes' names as the program's text lays them). -/
import Derived.Test.YtlnpfamngpjkoaaDoorClL
import Derived.Test.YtlnpfamngpjkoaaDoorLaw
namespace Go.Proofs.YtlnpfamngpjkoaaDoor.lawWords
open Go.ChangeShapes Go.WideShapes Go.ChangeAt Go.RowKit Reckon

theorem word_in (k : Int) (h : 0 ≤ k ∧ k ≤ 22) : ((wordOf k).toList == []) = false := by
  have hk : ∀ m : Fin 23, ((wordOf (m.val : Int)).toList == []) = false := by decide +kernel
  have := hk ⟨k.toNat, by omega⟩
  have e : ((k.toNat : Nat) : Int) = k := by omega
  simp only [e] at this
  exact this
theorem word_out (k : Int) (h : k < 0 ∨ 22 < k) : wordOf k = ⟨#[]⟩ := by rw [wordOf, if_neg (by omega)]
theorem word_two (a b : Int) (h : 0 ≤ a ∧ a ≤ 22) (h' : 0 ≤ b ∧ b ≤ 22) (hn : a ≠ b) : ((wordOf a).toList == (wordOf b).toList) = false := by
  have hk : ∀ m n : Fin 23, m ≠ n → ((wordOf (m.val : Int)).toList == (wordOf (n.val : Int)).toList) = false := by decide +kernel
  have := hk ⟨a.toNat, by omega⟩ ⟨b.toNat, by omega⟩ (by simp; omega)
  have e : ((a.toNat : Nat) : Int) = a := by omega
  have e' : ((b.toNat : Nat) : Int) = b := by omega
  simp only [e, e'] at this
  exact this
theorem sets_out (a : Int) (h : a < 0 ∨ 22 < a) : isStrong a = false ∧ isOut a = false ∧ isOpens a = false ∧ isNeutral a = false := by
  simp [isStrong, isOut, isOpens, isNeutral]; omega

set_option maxHeartbeats 2000000 in
theorem walk_out (w : World) (hT : ClsTabs w) (a b : Int) (h : a < 0 ∨ 22 < a) :
    Calls Tryd.prog 6 #[.int .i64 a, .int .i64 b] w fun e w' => e = .returned (.bool true) ∧ Below w.heap.size w w' := by
  obtain ⟨hS, hO, hP, hN⟩ := sets_out a h
  have hW := word_out a h
  have HW := Lib.hid hW
  have HS := Lib.hid hS
  have HO := Lib.hid hO
  have HN := Lib.hid hN
  have HP := Lib.hid hP
  have HT := Lib.hid hT
  have hbig := hT.big
  clear hW hS hO hN hP hT
  have h2 : a < 0 ∨ 22 < a ∧ decide (a ≤ 22) = false := h.imp id fun u => ⟨u, by simp; omega⟩
  clear h
  rcases h2 with h | ⟨h, hd⟩
  all_goals
    go_enter Tryd.func6, Tryd.ntmps6
    go_wp2_with fail
    refine (calive_any w HT.out).mono ?_
    rintro e w1 ⟨rfl, b1⟩
    have B1 := Lib.hid b1
    clear b1
    go_wp2_with fail
    refine (word_any _ _ (HT.out.below B1.out hbig)).mono ?_
    rintro e w2 ⟨rfl, rfl⟩
    rw [HW.out]
    go_wp2_with (first
      | (go_at_call 15; refine (strong_any _ _).mono ?_; rintro e w3 ⟨rfl, b3⟩; rw [HS.out]; have B3 := Lib.hid b3; clear b3)
      | (go_at_call 17; refine (out_any _ _).mono ?_; rintro e w4 ⟨rfl, b4⟩; rw [HO.out]; have B4 := Lib.hid b4; clear b4)
      | (go_at_call 19; refine (opens_any _ _).mono ?_; rintro e w5 ⟨rfl, b5⟩; rw [HP.out]; have B5 := Lib.hid b5; clear b5)
      | (go_at_call 21; refine (neutral_any _ _).mono ?_; rintro e w6 ⟨rfl, b6⟩; rw [HN.out]; have B6 := Lib.hid b6; clear b6))
    go_ret
    exact ⟨rfl, below_then B1.out (below_then B3.out (below_then B4.out (below_then B5.out B6.out)))⟩

set_option maxHeartbeats 2000000 in
theorem walk_none (w : World) (hT : ClsTabs w) (a b : Int) (h0 : 0 ≤ a) (h1 : a ≤ 22) (h : b < 0 ∨ 22 < b) :
    Calls Tryd.prog 6 #[.int .i64 a, .int .i64 b] w fun e w' => e = .returned (.bool true) ∧ Below w.heap.size w w' := by
  have HW := Lib.hid (word_out b h)
  have hU := word_in a ⟨h0, h1⟩
  obtain ⟨U, hUe⟩ : ∃ U, wordOf a = U := ⟨_, rfl⟩
  rw [hUe] at hU
  have HU := Lib.hid hUe
  have HT := Lib.hid hT
  have hbig := hT.big
  clear hUe hT h
  go_enter Tryd.func6, Tryd.ntmps6
  go_wp2_with fail
  refine (calive_any w HT.out).mono ?_
  rintro e w1 ⟨rfl, b1⟩
  have B1 := Lib.hid b1
  clear b1
  go_wp2_with fail
  refine (word_any a _ (HT.out.below B1.out hbig)).mono ?_
  rintro e w2 ⟨rfl, rfl⟩
  rw [HU.out]
  go_wp2_with fail
  refine (word_any b _ (HT.out.below B1.out hbig)).mono ?_
  rintro e w2 ⟨rfl, rfl⟩
  rw [HW.out]
  go_wp2
  go_ret
  exact ⟨rfl, B1.out⟩

set_option maxHeartbeats 2000000 in
theorem walk_two (w : World) (hT : ClsTabs w) (a b : Int) (U W : ByteArray) (HU : Hid (wordOf a = U)) (HW : Hid (wordOf b = W)) (hU : (U.toList == []) = false) (hW : (W.toList == []) = false)
    (h : (U.toList == W.toList) = true ∧ (a == b) = true ∨ (U.toList == W.toList) = false ∧ (a == b) = false) (h0 : 0 ≤ a) (h1 : a ≤ 22) :
    Calls Tryd.prog 6 #[.int .i64 a, .int .i64 b] w fun e w' => e = .returned (.bool true) ∧ Below w.heap.size w w' := by
  have HT := Lib.hid hT
  have hbig := hT.big
  clear hT
  rcases h with ⟨k1, k2⟩ | ⟨k1, k2⟩
  all_goals
    go_enter Tryd.func6, Tryd.ntmps6
    go_wp2_with fail
    refine (calive_any w HT.out).mono ?_
    rintro e w1 ⟨rfl, b1⟩
    have B1 := Lib.hid b1
    clear b1
    go_wp2_with fail
    refine (word_any a _ (HT.out.below B1.out hbig)).mono ?_
    rintro e w2 ⟨rfl, rfl⟩
    rw [HU.out]
    go_wp2_with fail
    refine (word_any b _ (HT.out.below B1.out hbig)).mono ?_
    rintro e w2 ⟨rfl, rfl⟩
    rw [HW.out]
    go_wp2_with fail
    refine (word_any a _ (HT.out.below B1.out hbig)).mono ?_
    rintro e w2 ⟨rfl, rfl⟩
    rw [HU.out]
    go_wp2_with fail
    refine (word_any b _ (HT.out.below B1.out hbig)).mono ?_
    rintro e w2 ⟨rfl, rfl⟩
    rw [HW.out]
    go_wp2
    go_ret
    exact ⟨rfl, B1.out⟩

theorem walk (w : World) (hT : ClsTabs w) (a : Int) (_ : (Lit.int .i64 a).wf = true) (b : Int) (_ : (Lit.int .i64 b).wf = true) :
    Calls Tryd.prog 6 #[.int .i64 a, .int .i64 b] w fun e w' => e = .returned (.bool true) ∧ Below w.heap.size w w' := by
  by_cases ha : a < 0 ∨ 22 < a
  · exact walk_out w hT a b ha
  by_cases hb : b < 0 ∨ 22 < b
  · exact walk_none w hT a b (by omega) (by omega) hb
  refine walk_two w hT a b _ _ rfl rfl (word_in a (by omega)) (word_in b (by omega)) ?_ (by omega) (by omega)
  by_cases e : a = b
  · subst e; exact .inl ⟨by simp, by simp⟩
  · exact .inr ⟨word_two a b (by omega) (by omega) e, by simpa using e⟩
-- WRAP
theorem spec : LawSpec Rows.classWordsSpec 2 := ⟨rfl, fun H ds h => by
  match ds, h with
  | [d0, d1], _ => rfl⟩
theorem params_ok : ∀ t ∈ Tryd.f6.params.toList, Tryd.prog.readableRec t = true ∧ t < Tryd.prog.types.size := by
  rw [Tryd.params6]
  intro t ht
  simp only [List.mem_cons, List.mem_nil_iff, or_false] at ht
  rcases ht with rfl | rfl
  all_goals exact ⟨by kernel_rfl, of_decide_eq_true (by kernel_rfl)⟩

theorem contract (H : Type) (enc : TypeId × Value → H) (W : World) (base : Nat) (args : Array Value) (ds gs : List (DataW H)) (before : List MemPlace)
    (hval : ∀ (j : Nat) t v, Tryd.f6.params[j]? = some t → args[j]? = some v → Value.okWide Tryd.prog W .any base t v)
    (hW : DataW.Whole enc Tryd.prog Tryd.f6.params.toList Rows.classWordsSpec.vars false W args.toList ds gs before) (hL : laidMetH Tryd.prog laidList W) :
    Calls Tryd.prog 6 args W fun e W' => ∃ v, e = .returned v ∧ Rows.classWordsSpec.post enc Tryd.prog Tryd.f6 false true false false W args v W' := by
  have hW' := hW
  obtain ⟨p, q, hA0, hV, rfl, hfz, hnd⟩ := hW
  have hA : DataW.TrodAll enc Tryd.prog W 0 (fun _ => true) true Tryd.f6.params.toList args.toList ds p := hA0
  rw [Tryd.params6] at hA hval
  obtain ⟨v0, vs0, d0, ds0, p0, q0, hargs, rfl, rfl, h0, r0⟩ := trodAll_cons hA
  obtain ⟨v1, vs1, d1, ds1, p1, q1, rfl, rfl, rfl, h1, r1⟩ := trodAll_cons r0
  obtain ⟨rfl, rfl, rfl⟩ := trodAll_nil r1
  obtain rfl : args = #[v0, v1] := by cases args; simp_all
  obtain ⟨a0, rfl, rfl, rfl, w0⟩ := open_int Tryd.underlying3 (hval 0 3 v0 rfl rfl) h0
  obtain ⟨a1, rfl, rfl, rfl, w1⟩ := open_int Tryd.underlying3 (hval 1 3 v1 rfl rfl) h1
  exact (walk W (tabs_of hL) a0 w0 a1 w1).mono fun e W' ⟨he, hg⟩ => ⟨_, he, law_post spec (by rw [Tryd.params6]; rfl) (by kernel_rfl) params_ok (by kernel_rfl) Tryd.underlying4 hW' hg⟩

theorem laid_met (os : Os) : laidMet Tryd.prog Rows.classWordsRow.laid ((laidWorld os #[.int .i64 0, .int .i64 0]).forCall (fun _ _ => 0) ⟨#[], #[.int .i64 0, .int .i64 0], []⟩).memory :=
  laidMet_of_run' 8 (by kernel_rfl) (by kernel_rfl)
theorem reads (os : Os) {H : Type} (enc : TypeId × Value → H) : ∃ places, DataW.whole enc Tryd.prog ((laidWorld os #[.int .i64 0, .int .i64 0]).forCall (fun _ _ => 0) ⟨#[], #[.int .i64 0, .int .i64 0], []⟩).memory Tryd.f6.params.toList Rows.classWordsSpec.vars false #[.int .i64 0, .int .i64 0].toList 8 = some ([.lit (.int .i64 0), .lit (.int .i64 0)], [], places) :=
  ⟨[], by kernel_rfl⟩
set_option maxRecDepth 100000 in
theorem lifted (os : Os) (started : os.Started) (H : Type) (enc : TypeId × Value → H) (F : Stop.Interp) :
    ReturnsInHanded {} Tryd.checked os 6 .any ((OpenSpec.ofChange Rows.classWordsSpec).preRow enc Tryd.prog Tryd.f6 Rows.classWordsRow.domain false Rows.classWordsRow.laid) (((OpenSpec.ofChange Rows.classWordsSpec).at F).post enc Tryd.prog Tryd.f6 false true false false) := by
  obtain ⟨places, hx⟩ := reads os enc
  refine returnsInHanded_of_row (C := Tryd.checked) (s := OpenSpec.ofChange Rows.classWordsSpec) own started (by kernel_rfl) Tryd.func6
    (witness_row_at (enc := enc) (C := Tryd.checked) false (laidWorld os #[.int .i64 0, .int .i64 0]) #[.int .i64 0, .int .i64 0] rfl (by kernel_rfl) (by kernel_rfl) (by kernel_rfl)
      (OpenSpec.preRow_of_cond 8 hx (by kernel_rfl) (fun k hk => by cases hk) (by kernel_rfl) (laid_met os))) ?_
  intro W base args ds gs before hval hW _ _ _ hL _ _
  exact contract H enc W base args ds gs before hval hW hL
theorem said : Rows.ClassWordsSaid :=
  OpenClaim.holds_of_cond 6 Tryd.f6 rfl rfl rfl rfl rfl rfl rfl ⟨rfl, rfl, rfl, rfl, rfl⟩ rfl rfl rfl rfl rfl (by kernel_rfl) Tryd.func6 (by kernel_rfl)
    (of_decide_eq_true (by kernel_rfl)) (by unfold Func.isWrapper; first | (rw [if_pos (by decide +kernel)]; kernel_rfl) | (rw [if_neg (by decide +kernel)]; exact ⟨rfl, rfl⟩))
    (fun os started H enc _ F => by rw [OpenClaim.pre_eq_preRow]; exact lifted os started H enc F)
theorem card : Rows.ClassWordsCardSaid :=
  Claim7.holds_tied_plain_at .later [] _ _ _ _ said (fun _ h => by cases h) (by kernel_rfl) (fun _ h => by cases h) classWords_row_tie rfl ⟨rfl, rfl⟩ (by kernel_rfl) rfl
    (plainOf "ductus/ductuslaw02.ClassWords" 6 Tryd.f6 (by kernel_rfl) Tryd.func6 (by kernel_rfl) (fun j t ht => by
      rw [Tryd.params6] at ht
      have hm := Array.mem_of_getElem? ht
      simp only [List.mem_toArray, List.mem_cons, List.mem_nil_iff, or_false] at hm
      rcases hm with rfl | rfl
      all_goals (show Tryd.prog.wantsStandIn _ = false; kernel_rfl))) (by kernel_rfl)
end Go.Proofs.YtlnpfamngpjkoaaDoor.lawWords
