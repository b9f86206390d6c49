/- The fixed fact of layer 2. -/
import Derived.Test.YtlnpfamngpjkoaaDoorClD
namespace Go.Proofs.YtlnpfamngpjkoaaDoor
open Go.RowKit Reckon

set_option maxHeartbeats 2000000 in
theorem calive_any (w : World) (hT : ClsTabs w) : Calls Tryd.prog 7 #[] w fun e w' => e = .returned (.bool true) ∧ Below w.heap.size w w' := by
  have HT := Lib.hid hT
  have hbig := hT.big
  clear hT
  go_enter Tryd.func7, Tryd.ntmps7
  go_wp2_with fail
  refine (all_any _ [97, 53, 1488, 1575, 1633, 8295, 768, 40, 8236] _ _ (Lies.litUp #[.int .i64 97, .int .i64 53, .int .i64 1488, .int .i64 1575, .int .i64 1633, .int .i64 8295, .int .i64 768, .int .i64 40, .int .i64 8236]) (by decide)).mono ?_
  rintro e w1 ⟨v1, rfl, o1, b1⟩
  rw [show ([97, 53, 1488, 1575, 1633, 8295, 768, 40, 8236] : List Int).map cls = [0, 3, 1, 2, 6, 20, 8, 13, 18] by decide +kernel] at o1
  obtain ⟨A1, c1, rfl, l1, _, _⟩ := o1.form
  have B1 := Lib.hid (below_then (below_alloc w _) b1)
  have L1 := Lib.hid l1
  clear o1 b1 l1
  go_wp2_with fail
  refine (ints_ok _ _ [0, 3, 1, 2, 6, 20, 8, 13, 18] _ _ _ (L1.out.up (below_alloc _ _)) (Lies.litUp #[.int .i64 0, .int .i64 3, .int .i64 1, .int .i64 2, .int .i64 6, .int .i64 20, .int .i64 8, .int .i64 13, .int .i64 18]) (by decide)).mono ?_
  rintro e w2 ⟨rfl, b2⟩
  have B2 := Lib.hid (below_then B1.out (below_then (below_alloc _ _) b2))
  clear b2
  go_wp2_with fail
  refine (word_any 21 _ (HT.out.below B2.out hbig)).mono ?_
  rintro e w3 ⟨rfl, rfl⟩
  rw [show wordOf 21 = ⟨#[70, 83, 73]⟩ by decide +kernel]
  go_wp2_with fail
  refine (strong_any 2 _).mono ?_
  rintro e w3 ⟨rfl, b3⟩
  rw [show isStrong 2 = true by decide]
  have B3 := Lib.hid (below_then B2.out b3)
  clear b3
  go_wp2_with fail
  refine (out_any 18 _).mono ?_
  rintro e w4 ⟨rfl, b4⟩
  rw [show isOut 18 = true by decide]
  have B4 := Lib.hid (below_then B3.out b4)
  clear b4
  go_wp2_with fail
  refine (opens_any 19 _).mono ?_
  rintro e w5 ⟨rfl, b5⟩
  rw [show isOpens 19 = true by decide]
  have B5 := Lib.hid (below_then B4.out b5)
  clear b5
  go_wp2_with fail
  refine (neutral_any 22 _).mono ?_
  rintro e w6 ⟨rfl, b6⟩
  rw [show isNeutral 22 = true by decide]
  have B6 := Lib.hid (below_then B5.out b6)
  clear b6
  go_wp2_with fail
  refine (neutral_any 18 _).mono ?_
  rintro e w7 ⟨rfl, b7⟩
  rw [show isNeutral 18 = false by decide]
  have B7 := Lib.hid (below_then B6.out b7)
  clear b7
  go_wp2
  go_ret
  exact ⟨rfl, B7.out⟩
end Go.Proofs.YtlnpfamngpjkoaaDoor
