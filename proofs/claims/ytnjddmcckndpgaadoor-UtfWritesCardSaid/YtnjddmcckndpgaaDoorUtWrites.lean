/- UtfWrites: for every list of numbers and every number, they are written as the document says, or refused. Conditions: none beyond the row's own (Go's two tables as its text lays them). -/
import Derived.Test.YtnjddmcckndpgaaDoorUtL
import Derived.Test.YtnjddmcckndpgaaDoorUtN
import Derived.Test.YtnjddmcckndpgaaDoorLaw
namespace Go.Proofs.YtnjddmcckndpgaaDoor.lawWrites
open Go.ChangeShapes Go.WideShapes Go.ChangeAt Go.RowKit

theorem sz_byt (c : Int) : szCh c = ((bytL c).length : Int) := by
  rcases h : isCh c with _ | _
  · simp [szCh, bytL, h]
  · rw [szCh_len c h]; simp [bytL, h]

set_option maxHeartbeats 1500000 in
theorem walk_ok (A : Option Addr) (l : List Int) (k : Nat) (c : Int) (w : World) (hl : l.length ≤ 5000) (h : Lies w w.heap.size A (ints .i64 l)) (hT : Tabs w) :
    Calls Tryd.prog 4 #[.slice A l.length k, .int .i64 c] w fun e w' => e = .returned (.bool true) ∧ Below w.heap.size w w' := by
  have HT := Lib.hid hT
  have H := Lib.hid h
  clear hT h
  obtain ⟨X, hX⟩ : ∃ X, (encL l).1 = X := ⟨_, rfl⟩
  obtain ⟨E, hE⟩ : ∃ E, (encL l).2 = E := ⟨_, rfl⟩
  have HX := Lib.hid hX
  have HE := Lib.hid hE
  clear hX hE
  go_enter Tryd.func4, Tryd.ntmps4
  go_wp2_with fail
  refine (alive_any w HT.out).mono ?_
  rintro e w1 ⟨rfl, b1⟩
  have B1 := Lib.hid b1
  clear b1
  go_wp2_with fail
  refine (encode_any _ l _ _ (H.out.up B1.out) hl).mono ?_
  rintro e w2 ⟨v, rfl, o, b2⟩
  have B2 := Lib.hid (below_then B1.out b2)
  rw [HX.out] at o
  rw [HE.out]
  obtain ⟨A3, c3, rfl, l3, _, _⟩ := o.form
  have L3 := Lib.hid l3
  simp only [ints, List.length_map]
  clear b2 o l3
  go_wp2_with fail
  refine (rencode_any _ l _ _ (H.out.up B2.out) hl).mono ?_
  rintro e w3 ⟨v, rfl, o, b3⟩
  have B3 := Lib.hid (below_then B2.out b3)
  rw [HX.out] at o
  rw [HE.out]
  obtain ⟨A4, c4, rfl, l4, _, _⟩ := o.form
  have s3 := conv_string (P := Tryd.prog) 22 5 9 c3 Tryd.underlying22 Tryd.underlying5 Tryd.underlying9 (L3.out.up b3)
  have s4 := conv_string (P := Tryd.prog) 22 5 9 c4 Tryd.underlying22 Tryd.underlying5 Tryd.underlying9 l4
  simp only [ints, List.length_map]
  clear b3 o l4
  go_wp2_with fail
  refine (right_any c _).mono ?_
  rintro e w4 ⟨rfl, rfl⟩
  go_wp2_with fail
  refine (rright_any c _).mono ?_
  rintro e w4 ⟨rfl, rfl⟩
  go_wp2_with fail
  refine (size_any c _).mono ?_
  rintro e w4 ⟨rfl, rfl⟩
  rw [sz_byt]
  go_wp2_with fail
  refine (rsize_any c _).mono ?_
  rintro e w4 ⟨rfl, b4⟩
  have B4 := Lib.hid (below_then B3.out b4)
  clear b4 s3 s4
  go_wp2
  go_ret
  exact ⟨rfl, B4.out⟩

set_option maxHeartbeats 1000000 in
theorem walk_long (A : Option Addr) (l : List Int) (k : Nat) (c : Int) (w : World) (hl : l.length ≤ 9223372036854775807) (hT : Tabs w) (hh : 5000 < l.length) :
    Calls Tryd.prog 4 #[.slice A l.length k, .int .i64 c] w fun e w' => e = .returned (.bool true) ∧ Below w.heap.size w w' := by
  have HT := Lib.hid hT
  clear hT
  go_enter Tryd.func4, Tryd.ntmps4
  go_wp2_with fail
  refine (alive_any w HT.out).mono ?_
  rintro e w1 ⟨rfl, b1⟩
  go_wp2
  go_ret
  exact ⟨rfl, b1⟩

theorem walk (w : World) (hT : Tabs w) (A : Option Addr) (l : List Int) (k : Nat) (hc : l.length ≤ k) (hm : k ≤ maxLen) (h : Lies w w.heap.size A (ints .i64 l)) (_ : ∀ n ∈ l, (Lit.int .i64 n).wf = true)
    (c : Int) (_ : (Lit.int .i64 c).wf = true) :
    Calls Tryd.prog 4 #[.slice A l.length k, .int .i64 c] w fun e w' => e = .returned (.bool true) ∧ Below w.heap.size w w' := by
  unfold maxLen at hm
  by_cases hh : 5000 < l.length
  · exact walk_long A l k c w (by omega) hT hh
  · exact walk_ok A l k c w (by omega) h hT
-- WRAP
theorem spec : LawSpec Rows.utfWritesSpec 2 := ⟨rfl, fun H ds h => by
  match ds, h with
  | [d0, d1], _ => rfl⟩
theorem params_ok : ∀ t ∈ Tryd.f4.params.toList, Tryd.prog.readableRec t = true ∧ t < Tryd.prog.types.size := by
  rw [Tryd.params4]
  intro t ht
  simp only [List.mem_cons, List.mem_nil_iff, or_false] at ht
  rcases ht with rfl | rfl
  all_goals exact ⟨by kernel_rfl, of_decide_eq_true (by kernel_rfl)⟩

theorem contract (H : Type) (enc : TypeId × Value → H) (W : World) (base : Nat) (args : Array Value) (ds gs : List (DataW H)) (before : List MemPlace)
    (hval : ∀ (j : Nat) t v, Tryd.f4.params[j]? = some t → args[j]? = some v → Value.okWide Tryd.prog W .any base t v)
    (hW : DataW.Whole enc Tryd.prog Tryd.f4.params.toList Rows.utfWritesSpec.vars false W args.toList ds gs before) (hL : laidMetH Tryd.prog laidList W) :
    Calls Tryd.prog 4 args W fun e W' => ∃ v, e = .returned v ∧ Rows.utfWritesSpec.post enc Tryd.prog Tryd.f4 false true false false W args v W' := by
  have hW' := hW
  obtain ⟨p, q, hA0, hV, rfl, hfz, hnd⟩ := hW
  have hA : DataW.TrodAll enc Tryd.prog W 0 (fun _ => true) true Tryd.f4.params.toList args.toList ds p := hA0
  rw [Tryd.params4] at hA hval
  obtain ⟨v0, vs0, d0, ds0, p0, q0, hargs, rfl, rfl, h0, r0⟩ := trodAll_cons hA
  obtain ⟨v1, vs1, d1, ds1, p1, q1, rfl, rfl, rfl, h1, r1⟩ := trodAll_cons r0
  obtain ⟨rfl, rfl, rfl⟩ := trodAll_nil r1
  obtain rfl : args = #[v0, v1] := by cases args; simp_all
  obtain ⟨A0, l0, c0, rfl, hc0, hm0, hl0, wf0⟩ := open_list Tryd.underlying24 Tryd.underlying3 (by kernel_rfl) (hval 0 24 v0 rfl rfl) h0
  obtain ⟨a1, rfl, rfl, rfl, w1⟩ := open_int Tryd.underlying3 (hval 1 3 v1 rfl rfl) h1
  exact (walk W (tabs_of hL) A0 l0 c0 hc0 hm0 hl0 wf0 a1 w1).mono fun e W' ⟨he, hg⟩ => ⟨_, he, law_post spec (by rw [Tryd.params4]; rfl) (by kernel_rfl) params_ok (by kernel_rfl) Tryd.underlying4 hW' hg⟩

theorem laid_met (os : Os) : laidMet Tryd.prog Rows.utfWritesRow.laid ((laidWorld os #[.slice none 0 0, .int .i64 0]).forCall (fun _ _ => 0) ⟨#[], #[.slice none 0 0, .int .i64 0], []⟩).memory :=
  laidMet_of_run' 8 (by kernel_rfl) (by kernel_rfl)
theorem reads (os : Os) {H : Type} (enc : TypeId × Value → H) : ∃ places, DataW.whole enc Tryd.prog ((laidWorld os #[.slice none 0 0, .int .i64 0]).forCall (fun _ _ => 0) ⟨#[], #[.slice none 0 0, .int .i64 0], []⟩).memory Tryd.f4.params.toList Rows.utfWritesSpec.vars false #[.slice none 0 0, .int .i64 0].toList 8 = some ([.nil, .lit (.int .i64 0)], [], places) :=
  ⟨[], by kernel_rfl⟩
set_option maxRecDepth 100000 in
theorem lifted (os : Os) (started : os.Started) (H : Type) (enc : TypeId × Value → H) (F : Stop.Interp) :
    ReturnsInHanded {} Tryd.checked os 4 .any ((OpenSpec.ofChange Rows.utfWritesSpec).preRow enc Tryd.prog Tryd.f4 Rows.utfWritesRow.domain false Rows.utfWritesRow.laid) (((OpenSpec.ofChange Rows.utfWritesSpec).at F).post enc Tryd.prog Tryd.f4 false true false false) := by
  obtain ⟨places, hx⟩ := reads os enc
  refine returnsInHanded_of_row (C := Tryd.checked) (s := OpenSpec.ofChange Rows.utfWritesSpec) own started (by kernel_rfl) Tryd.func4
    (witness_row_at (enc := enc) (C := Tryd.checked) false (laidWorld os #[.slice none 0 0, .int .i64 0]) #[.slice none 0 0, .int .i64 0] rfl (by kernel_rfl) (by kernel_rfl) (by kernel_rfl)
      (OpenSpec.preRow_of_cond 8 hx (by kernel_rfl) (fun k hk => by cases hk) (by kernel_rfl) (laid_met os))) ?_
  intro W base args ds gs before hval hW _ _ _ hL _ _
  exact contract H enc W base args ds gs before hval hW hL
theorem said : Rows.UtfWritesSaid :=
  OpenClaim.holds_of_cond 4 Tryd.f4 rfl rfl rfl rfl rfl rfl rfl ⟨rfl, rfl, rfl, rfl, rfl⟩ rfl rfl rfl rfl rfl (by kernel_rfl) Tryd.func4 (by kernel_rfl)
    (of_decide_eq_true (by kernel_rfl)) (by unfold Func.isWrapper; first | (rw [if_pos (by decide +kernel)]; kernel_rfl) | (rw [if_neg (by decide +kernel)]; exact ⟨rfl, rfl⟩))
    (fun os started H enc _ F => by rw [OpenClaim.pre_eq_preRow]; exact lifted os started H enc F)
theorem card : Rows.UtfWritesCardSaid :=
  Claim7.holds_tied_plain_at .later [] _ _ _ _ said (fun _ h => by cases h) (by kernel_rfl) (fun _ h => by cases h) utfWrites_row_tie rfl ⟨rfl, rfl⟩ (by kernel_rfl) rfl
    (plainOf "ductus/ductuslaw01.UtfWrites" 4 Tryd.f4 (by kernel_rfl) Tryd.func4 (by kernel_rfl) (fun j t ht => by
      rw [Tryd.params4] at ht
      have hm := Array.mem_of_getElem? ht
      simp only [List.mem_toArray, List.mem_cons, List.mem_nil_iff, or_false] at hm
      rcases hm with rfl | rfl
      all_goals (show Tryd.prog.wantsStandIn _ = false; kernel_rfl))) (by kernel_rfl)
end Go.Proofs.YtnjddmcckndpgaaDoor.lawWrites
