/- UtfReads: for every bytes and every number, they are read as the document says, or are too many. Conditions: none beyond the row's own (Go's two tables as its text lays them). -/
import Derived.Test.YtnjddmcckndpgaaDoorUtL
import Derived.Test.YtnjddmcckndpgaaDoorUtR
import Derived.Test.YtnjddmcckndpgaaDoorLaw
namespace Go.Proofs.YtnjddmcckndpgaaDoor.lawReads
open Go.ChangeShapes Go.WideShapes Go.ChangeAt Go.RowKit

theorem bytes_of (l : List Int) (h : ∀ n ∈ l, (Lit.int .u8 n).wf = true) : ∃ bs : List UInt8, l = u8s bs := by
  refine ⟨toB l, (u8s_toB l fun n hn => ?_).symm⟩
  have := h n hn
  have e1 : IntKind.u8.min = 0 := rfl
  have e2 : IntKind.u8.max = 255 := rfl
  simp only [Lit.wf, e1, e2, Bool.and_eq_true, decide_eq_true_eq] at this
  omega

/-- what reading tells, whole -/
def readC (l : List UInt8) : List Int := if l.length ≤ 4000 then decC l else []
def readA (l : List UInt8) : List Int := if l.length ≤ 4000 then decA l else []
def readE (l : List UInt8) : Int := if l.length ≤ 4000 then 0 else 2
theorem read_len (l : List UInt8) : (readC l).length ≤ 4000 ∧ (readA l).length ≤ 4001 := by
  unfold readC readA
  split
  · rename_i h
    have := decAt_len 0 l
    simp only [decC, decA, List.length_append, List.length_map, List.length_singleton]
    omega
  · simp
theorem decode_all (A : Option Addr) (l : List UInt8) (c : Nat) (w : World) (h : Lies w w.heap.size A (ints .u8 (u8s l))) (hm : l.length ≤ 9223372036854775807) :
    Calls Tryd.prog 9 #[.slice A l.length c] w (Rowed3 w w.heap.size 3 (ints .i64 (readC l)) (ints .i64 (readA l)) (readE l)) := by
  by_cases hl : l.length ≤ 4000
  · have := decode_any A l c w h hl
    rw [u8s_length] at this
    simpa [readC, readA, readE, hl] using this
  · have := decode_long A l c w (by omega) hm
    rw [u8s_length] at this
    simpa [readC, readA, readE, hl] using this
theorem rdecode_all (A : Option Addr) (l : List UInt8) (c : Nat) (w : World) (h : Lies w w.heap.size A (ints .u8 (u8s l))) (hc : l.length ≤ c) (hm : l.length ≤ 9223372036854775807) :
    Calls Tryd.prog 10 #[.slice A l.length c] w (Rowed3 w w.heap.size 3 (ints .i64 (readC l)) (ints .i64 (readA l)) (readE l)) := by
  by_cases hl : l.length ≤ 4000
  · have := rdecode_any A l c w h hc hl
    simpa [readC, readA, readE, hl] using this
  · have := rdecode_long A l c w (by omega) hm
    simpa [readC, readA, readE, hl] using this

set_option maxHeartbeats 1500000 in
theorem walk_ok (A : Option Addr) (l : List UInt8) (k : Nat) (n : Int) (w : World) (hl : l.length ≤ 5000) (hk : l.length ≤ k) (h : Lies w w.heap.size A (ints .u8 (u8s l))) (hT : Tabs w) :
    Calls Tryd.prog 3 #[.slice A l.length k, .int .i64 n] w fun e w' => e = .returned (.bool true) ∧ Below w.heap.size w w' := by
  have HT := Lib.hid hT
  have hbig := hT.big
  have H := Lib.hid h
  clear hT h
  have rl := read_len l
  obtain ⟨X, hX⟩ : ∃ X, readC l = X := ⟨_, rfl⟩
  obtain ⟨Y, hY⟩ : ∃ Y, readA l = Y := ⟨_, rfl⟩
  obtain ⟨E, hE⟩ : ∃ E, readE l = E := ⟨_, rfl⟩
  rw [hX, hY] at rl
  have xl := rl.1
  have yl := rl.2
  have HX := Lib.hid hX
  have HY := Lib.hid hY
  have HE := Lib.hid hE
  clear hX hY hE rl
  go_enter Tryd.func3, Tryd.ntmps3
  go_wp2_with fail
  refine (alive_any w HT.out).mono ?_
  rintro e w1 ⟨rfl, b1⟩
  have B1 := Lib.hid b1
  clear b1
  go_wp2_with fail
  refine (decode_all _ l _ _ (H.out.up B1.out) (by omega)).mono ?_
  rintro e w2 ⟨v1, v2, rfl, o1, o2, b2⟩
  have B2 := Lib.hid (below_then B1.out b2)
  rw [HX.out] at o1
  rw [HY.out] at o2
  rw [HE.out]
  obtain ⟨A1, c1, rfl, l1, _, _⟩ := o1.form
  obtain ⟨A2, c2, rfl, l2, _, _⟩ := o2.form
  have L1 := Lib.hid l1
  have L2 := Lib.hid l2
  simp only [ints, List.length_map]
  clear b2 o1 o2 l1 l2
  go_wp2_with fail
  refine (rdecode_all _ l _ _ (H.out.up B2.out) hk (by omega)).mono ?_
  rintro e w3 ⟨v1, v2, rfl, o1, o2, b3⟩
  have B3 := Lib.hid (below_then B2.out b3)
  rw [HX.out] at o1
  rw [HY.out] at o2
  rw [HE.out]
  obtain ⟨A3, c3, rfl, l3, _, _⟩ := o1.form
  obtain ⟨A4, c4, rfl, l4, _, _⟩ := o2.form
  have L1' := Lib.hid (L1.out.up b3)
  have L2' := Lib.hid (L2.out.up b3)
  have L3 := Lib.hid l3
  have L4 := Lib.hid l4
  simp only [ints, List.length_map]
  clear b3 o1 o2 l3 l4 L1 L2
  go_wp2_with fail
  refine (ints_ok A1 A3 X c1 c3 w3 L1'.out L3.out (by omega)).mono ?_
  rintro e w4 ⟨rfl, b4⟩
  have B4 := Lib.hid (below_then B3.out b4)
  have M2 := Lib.hid (L2'.out.up b4)
  have M4 := Lib.hid (L4.out.up b4)
  clear b4 L1' L2' L3 L4
  go_wp2_with fail
  refine (ints_ok A2 A4 Y c2 c4 w4 M2.out M4.out (by omega)).mono ?_
  rintro e w5 ⟨rfl, b5⟩
  have B5 := Lib.hid (below_then B4.out b5)
  have N2 := Lib.hid (M2.out.up b5)
  have N4 := Lib.hid (M4.out.up b5)
  clear b5 M2 M4
  go_wp2_with fail
  refine (valid_any A l k w5 (H.out.up B5.out) (HT.out.below B5.out hbig) hk).mono ?_
  rintro e w6 ⟨rfl, b6⟩
  have B6 := Lib.hid (below_then B5.out b6)
  have P2 := Lib.hid (N2.out.up b6)
  have P4 := Lib.hid (N4.out.up b6)
  clear b6 N2 N4
  go_wp2_with fail
  refine (rvalid_any A l k w6 (H.out.up B6.out) hk (by omega)).mono ?_
  rintro e w7 ⟨rfl, b7⟩
  have B7 := Lib.hid (below_then B6.out b7)
  have R2 := Lib.hid (P2.out.up b7)
  have R4 := Lib.hid (P4.out.up b7)
  clear b7 P2 P4
  go_wp2_with fail
  refine (offset_any A2 Y c2 n _ w7 R2.out).mono ?_
  rintro e w8 ⟨rfl, rfl⟩
  go_wp2_with fail
  refine (roffset_any A4 Y c4 n _ w7 R4.out).mono ?_
  rintro e w8 ⟨rfl, rfl⟩
  go_wp2
  go_ret
  exact ⟨rfl, B7.out⟩

set_option maxHeartbeats 1000000 in
theorem walk_long (A : Option Addr) (m k : Nat) (n : Int) (w : World) (hl : m ≤ 9223372036854775807) (hT : Tabs w) (hh : 5000 < m) :
    Calls Tryd.prog 3 #[.slice A m k, .int .i64 n] w fun e w' => e = .returned (.bool true) ∧ Below w.heap.size w w' := by
  have HT := Lib.hid hT
  clear hT
  go_enter Tryd.func3, Tryd.ntmps3
  go_wp2_with fail
  refine (alive_any w HT.out).mono ?_
  rintro e w1 ⟨rfl, b1⟩
  go_wp2
  go_ret
  exact ⟨rfl, b1⟩

theorem walk (w : World) (hT : Tabs w) (A : Option Addr) (l : List Int) (k : Nat) (hc : l.length ≤ k) (hm : k ≤ maxLen) (h : Lies w w.heap.size A (ints .u8 l)) (wf : ∀ n ∈ l, (Lit.int .u8 n).wf = true)
    (n : Int) (_ : (Lit.int .i64 n).wf = true) :
    Calls Tryd.prog 3 #[.slice A l.length k, .int .i64 n] w fun e w' => e = .returned (.bool true) ∧ Below w.heap.size w w' := by
  obtain ⟨b, rfl⟩ := bytes_of l wf
  unfold maxLen at hm
  rw [u8s_length] at hc ⊢
  by_cases hh : 5000 < b.length
  · exact walk_long A b.length k n w (by omega) hT hh
  · exact walk_ok A b k n w (by omega) hc h hT
-- WRAP
theorem spec : LawSpec Rows.utfReadsSpec 2 := ⟨rfl, fun H ds h => by
  match ds, h with
  | [d0, d1], _ => rfl⟩
theorem params_ok : ∀ t ∈ Tryd.f3.params.toList, Tryd.prog.readableRec t = true ∧ t < Tryd.prog.types.size := by
  rw [Tryd.params3]
  intro t ht
  simp only [List.mem_cons, List.mem_nil_iff, or_false] at ht
  rcases ht with rfl | rfl
  all_goals exact ⟨by kernel_rfl, of_decide_eq_true (by kernel_rfl)⟩

theorem contract (H : Type) (enc : TypeId × Value → H) (W : World) (base : Nat) (args : Array Value) (ds gs : List (DataW H)) (before : List MemPlace)
    (hval : ∀ (j : Nat) t v, Tryd.f3.params[j]? = some t → args[j]? = some v → Value.okWide Tryd.prog W .any base t v)
    (hW : DataW.Whole enc Tryd.prog Tryd.f3.params.toList Rows.utfReadsSpec.vars false W args.toList ds gs before) (hL : laidMetH Tryd.prog laidList W) :
    Calls Tryd.prog 3 args W fun e W' => ∃ v, e = .returned v ∧ Rows.utfReadsSpec.post enc Tryd.prog Tryd.f3 false true false false W args v W' := by
  have hW' := hW
  obtain ⟨p, q, hA0, hV, rfl, hfz, hnd⟩ := hW
  have hA : DataW.TrodAll enc Tryd.prog W 0 (fun _ => true) true Tryd.f3.params.toList args.toList ds p := hA0
  rw [Tryd.params3] at hA hval
  obtain ⟨v0, vs0, d0, ds0, p0, q0, hargs, rfl, rfl, h0, r0⟩ := trodAll_cons hA
  obtain ⟨v1, vs1, d1, ds1, p1, q1, rfl, rfl, rfl, h1, r1⟩ := trodAll_cons r0
  obtain ⟨rfl, rfl, rfl⟩ := trodAll_nil r1
  obtain rfl : args = #[v0, v1] := by cases args; simp_all
  obtain ⟨A0, l0, c0, rfl, hc0, hm0, hl0, wf0⟩ := open_list Tryd.underlying22 Tryd.underlying5 (by kernel_rfl) (hval 0 22 v0 rfl rfl) h0
  obtain ⟨a1, rfl, rfl, rfl, w1⟩ := open_int Tryd.underlying3 (hval 1 3 v1 rfl rfl) h1
  exact (walk W (tabs_of hL) A0 l0 c0 hc0 hm0 hl0 wf0 a1 w1).mono fun e W' ⟨he, hg⟩ => ⟨_, he, law_post spec (by rw [Tryd.params3]; rfl) (by kernel_rfl) params_ok (by kernel_rfl) Tryd.underlying4 hW' hg⟩

theorem laid_met (os : Os) : laidMet Tryd.prog Rows.utfReadsRow.laid ((laidWorld os #[.slice none 0 0, .int .i64 0]).forCall (fun _ _ => 0) ⟨#[], #[.slice none 0 0, .int .i64 0], []⟩).memory :=
  laidMet_of_run' 8 (by kernel_rfl) (by kernel_rfl)
theorem reads (os : Os) {H : Type} (enc : TypeId × Value → H) : ∃ places, DataW.whole enc Tryd.prog ((laidWorld os #[.slice none 0 0, .int .i64 0]).forCall (fun _ _ => 0) ⟨#[], #[.slice none 0 0, .int .i64 0], []⟩).memory Tryd.f3.params.toList Rows.utfReadsSpec.vars false #[.slice none 0 0, .int .i64 0].toList 8 = some ([.nil, .lit (.int .i64 0)], [], places) :=
  ⟨[], by kernel_rfl⟩
set_option maxRecDepth 100000 in
theorem lifted (os : Os) (started : os.Started) (H : Type) (enc : TypeId × Value → H) (F : Stop.Interp) :
    ReturnsInHanded {} Tryd.checked os 3 .any ((OpenSpec.ofChange Rows.utfReadsSpec).preRow enc Tryd.prog Tryd.f3 Rows.utfReadsRow.domain false Rows.utfReadsRow.laid) (((OpenSpec.ofChange Rows.utfReadsSpec).at F).post enc Tryd.prog Tryd.f3 false true false false) := by
  obtain ⟨places, hx⟩ := reads os enc
  refine returnsInHanded_of_row (C := Tryd.checked) (s := OpenSpec.ofChange Rows.utfReadsSpec) own started (by kernel_rfl) Tryd.func3
    (witness_row_at (enc := enc) (C := Tryd.checked) false (laidWorld os #[.slice none 0 0, .int .i64 0]) #[.slice none 0 0, .int .i64 0] rfl (by kernel_rfl) (by kernel_rfl) (by kernel_rfl)
      (OpenSpec.preRow_of_cond 8 hx (by kernel_rfl) (fun k hk => by cases hk) (by kernel_rfl) (laid_met os))) ?_
  intro W base args ds gs before hval hW _ _ _ hL _ _
  exact contract H enc W base args ds gs before hval hW hL
theorem said : Rows.UtfReadsSaid :=
  OpenClaim.holds_of_cond 3 Tryd.f3 rfl rfl rfl rfl rfl rfl rfl ⟨rfl, rfl, rfl, rfl, rfl⟩ rfl rfl rfl rfl rfl (by kernel_rfl) Tryd.func3 (by kernel_rfl)
    (of_decide_eq_true (by kernel_rfl)) (by unfold Func.isWrapper; first | (rw [if_pos (by decide +kernel)]; kernel_rfl) | (rw [if_neg (by decide +kernel)]; exact ⟨rfl, rfl⟩))
    (fun os started H enc _ F => by rw [OpenClaim.pre_eq_preRow]; exact lifted os started H enc F)
theorem card : Rows.UtfReadsCardSaid :=
  Claim7.holds_tied_plain_at .later [] _ _ _ _ said (fun _ h => by cases h) (by kernel_rfl) (fun _ h => by cases h) utfReads_row_tie rfl ⟨rfl, rfl⟩ (by kernel_rfl) rfl
    (plainOf "ductus/ductuslaw01.UtfReads" 3 Tryd.f3 (by kernel_rfl) Tryd.func3 (by kernel_rfl) (fun j t ht => by
      rw [Tryd.params3] at ht
      have hm := Array.mem_of_getElem? ht
      simp only [List.mem_toArray, List.mem_cons, List.mem_nil_iff, or_false] at hm
      rcases hm with rfl | rfl
      all_goals (show Tryd.prog.wantsStandIn _ = false; kernel_rfl))) (by kernel_rfl)
end Go.Proofs.YtnjddmcckndpgaaDoor.lawReads
