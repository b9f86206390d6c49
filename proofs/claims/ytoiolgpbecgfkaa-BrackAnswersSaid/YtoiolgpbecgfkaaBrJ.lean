/- Layer 10: the program's become (what a pair becomes). -/
import Derived.Test.YtoiolgpbecgfkaaBrL
import Derived.Test.YtoiolgpbecgfkaaSqDir
namespace Go.Proofs.Ytoiolgpbecgfkaa
open Go.RowKit

theorem side_ahead {l : List Int} {e sos : Int} {p : Int × Int} (h1 : sameS l e p = false) (h2 : otherS l e p = true) : sideOf l e sos p = some (aheadS l sos p.1.toNat) := by
  rw [sideOf, h1, h2]
  by_cases h : aheadS l sos p.1.toNat ≠ e
  · simp only [if_pos h]
  · simp only [if_neg h]
    rw [Classical.not_not.1 h]
set_option maxHeartbeats 4000000 in
theorem become_any (A : Option Addr) (l : List Int) (c : Nat) (a b : Nat) (e sos : Int) (w : World) (h : Lies w w.heap.size A (ints .i64 l)) (hl : l.length ≤ 1000) (hc : l.length ≤ c) (hab : a < b) (hb : b < l.length) (he : e = 0 ∨ e = 1) :
    Calls Try.prog 28 #[.slice A l.length c, .agg #[.int .i64 (a : Int), .int .i64 (b : Int)], .int .i64 e, .int .i64 sos] w fun ed w' => ed = .returned (.int .i64 ((sideOf l e sos ((a : Int), (b : Int))).getD (-1))) ∧ Below w.heap.size w w' := by
  have H := Lib.hid h
  obtain ⟨w0, hw0⟩ : ∃ u, w.alloc (.cells #[.int .i64 (a : Int), .int .i64 (b : Int)] 37) = u := ⟨_, rfl⟩
  have B0 : Hid (Below w.heap.size w w0) := Lib.hid (hw0 ▸ below_alloc w _)
  have SB : Hid (∀ w', Below w0.heap.size w0 w' → w'.cell? ⟨w.heap.size, 0, none⟩ = some (.int .i64 (a : Int)) ∧ w'.cell? ⟨w.heap.size, 1, none⟩ = some (.int .i64 (b : Int))) := Lib.hid fun w' hb => ⟨boxed (hw0 ▸ hb) rfl, boxed (hw0 ▸ hb) rfl⟩
  have HW := Lib.hid hw0
  have H0 := Lib.hid (h.up B0.out)
  have hw1 : IntKind.i64.wrap ((a : Int) + 1) = (a : Int) + 1 := IntWalk.i64_in _ (by omega)
  obtain ⟨lf, hlf⟩ : ∃ z, hasL l ((a : Int) + 1) (b : Int) = z := ⟨_, rfl⟩
  obtain ⟨rt, hrt⟩ : ∃ z, hasR l ((a : Int) + 1) (b : Int) = z := ⟨_, rfl⟩
  have HLF := Lib.hid hlf
  have HRT := Lib.hid hrt
  obtain ⟨s, hs⟩ : ∃ s, (sideOf l e sos ((a : Int), (b : Int))).getD (-1) = s := ⟨_, rfl⟩
  have HS := Lib.hid hs
  rw [hs]
  have hta : (l.take a).length = a := by rw [List.length_take]; omega
  have hcon : Hid (∀ u, Below w0.heap.size w0 u → Calls Try.prog 41 #[.slice A a c, .int .i64 sos] u fun ed w' => ed = .returned (.int .i64 (aheadS l sos a)) ∧ Below u.heap.size u w') := Lib.hid fun u hu => by
    have := ahead_any A (l.take a) c sos u ((H0.out.up hu).short a) (by omega)
    rw [hta, ahead_take l sos a a (Nat.le_refl _)] at this
    exact this
  have a0 : (0 : Int) ≤ (a : Int) := by omega
  have a1 : (a : Int) ≤ (c : Int) := by omega
  clear h hw0 hlf hrt hs hta
  have hsd := Lib.hid (bsides_any A l c ((a : Int) + 1) (b : Int) w0 H0.out hl (by omega) (by omega))
  have SB0 := SB.out w0 (Below.refl _ _)
  rcases he with rfl | rfl
  · rcases hl2 : lf with _ | _
    · rcases hr2 : rt with _ | _
      · have HSM : Hid (sameS l 0 ((a : Int), (b : Int)) = false ∧ otherS l 0 ((a : Int), (b : Int)) = false) := Lib.hid ⟨by rw [sameS]; exact HLF.out.trans hl2, by rw [otherS]; exact HRT.out.trans hr2⟩
        have HV : Hid (s = -1) := Lib.hid (by rw [← HS.out, sideOf, HSM.out.1, HSM.out.2]; rfl)
        subst hl2 hr2
        go_enter Try.func28, Try.ntmps28
        go_wp2_with fail
        rw [HW.out]
        go_wp2_with fail
        refine hsd.out.mono ?_
        rintro ed w1 ⟨rfl, b1⟩
        rw [HLF.out, HRT.out]
        have B1 := Lib.hid b1
        have SB1 := SB.out w1 b1
        clear b1
        go_wp2_with fail
        go_ret
        exact ⟨ret_int HV.out.symm, B0.out.trans (B1.out.mono B0.out.size)⟩
      · have HSM : Hid (sameS l 0 ((a : Int), (b : Int)) = false ∧ otherS l 0 ((a : Int), (b : Int)) = true) := Lib.hid ⟨by rw [sameS]; exact HLF.out.trans hl2, by rw [otherS]; exact HRT.out.trans hr2⟩
        have HV : Hid (s = aheadS l sos a) := Lib.hid (by rw [← HS.out, side_ahead HSM.out.1 HSM.out.2]; rfl)
        subst hl2 hr2
        go_enter Try.func28, Try.ntmps28
        go_wp2_with fail
        rw [HW.out]
        go_wp2_with fail
        refine hsd.out.mono ?_
        rintro ed w1 ⟨rfl, b1⟩
        rw [HLF.out, HRT.out]
        have B1 := Lib.hid b1
        have SB1 := SB.out w1 b1
        clear b1
        go_wp2_with fail
        refine (hcon.out w1 B1.out).mono ?_
        rintro ed w2 ⟨rfl, b2⟩
        rw [← HV.out]
        have B2 := Lib.hid b2
        clear b2
        go_wp2_with fail
        go_ret
        exact ⟨rfl, B0.out.trans ((B1.out.trans (B2.out.mono B1.out.size)).mono B0.out.size)⟩
    · rcases hr2 : rt with _ | _
      · have HSM : Hid (sameS l 0 ((a : Int), (b : Int)) = true ∧ otherS l 0 ((a : Int), (b : Int)) = false) := Lib.hid ⟨by rw [sameS]; exact HLF.out.trans hl2, by rw [otherS]; exact HRT.out.trans hr2⟩
        have HV : Hid (s = 0) := Lib.hid (by rw [← HS.out, sideOf, HSM.out.1]; rfl)
        subst hl2 hr2
        go_enter Try.func28, Try.ntmps28
        go_wp2_with fail
        rw [HW.out]
        go_wp2_with fail
        refine hsd.out.mono ?_
        rintro ed w1 ⟨rfl, b1⟩
        rw [HLF.out, HRT.out]
        have B1 := Lib.hid b1
        have SB1 := SB.out w1 b1
        clear b1
        go_wp2_with fail
        go_ret
        exact ⟨ret_int HV.out.symm, B0.out.trans (B1.out.mono B0.out.size)⟩
      · have HSM : Hid (sameS l 0 ((a : Int), (b : Int)) = true ∧ otherS l 0 ((a : Int), (b : Int)) = true) := Lib.hid ⟨by rw [sameS]; exact HLF.out.trans hl2, by rw [otherS]; exact HRT.out.trans hr2⟩
        have HV : Hid (s = 0) := Lib.hid (by rw [← HS.out, sideOf, HSM.out.1]; rfl)
        subst hl2 hr2
        go_enter Try.func28, Try.ntmps28
        go_wp2_with fail
        rw [HW.out]
        go_wp2_with fail
        refine hsd.out.mono ?_
        rintro ed w1 ⟨rfl, b1⟩
        rw [HLF.out, HRT.out]
        have B1 := Lib.hid b1
        have SB1 := SB.out w1 b1
        clear b1
        go_wp2_with fail
        go_ret
        exact ⟨ret_int HV.out.symm, B0.out.trans (B1.out.mono B0.out.size)⟩
  · rcases hl2 : lf with _ | _
    · rcases hr2 : rt with _ | _
      · have HSM : Hid (sameS l 1 ((a : Int), (b : Int)) = false ∧ otherS l 1 ((a : Int), (b : Int)) = false) := Lib.hid ⟨by rw [sameS]; exact HRT.out.trans hr2, by rw [otherS]; exact HLF.out.trans hl2⟩
        have HV : Hid (s = -1) := Lib.hid (by rw [← HS.out, sideOf, HSM.out.1, HSM.out.2]; rfl)
        subst hl2 hr2
        go_enter Try.func28, Try.ntmps28
        go_wp2_with fail
        rw [HW.out]
        go_wp2_with fail
        refine hsd.out.mono ?_
        rintro ed w1 ⟨rfl, b1⟩
        rw [HLF.out, HRT.out]
        have B1 := Lib.hid b1
        have SB1 := SB.out w1 b1
        clear b1
        go_wp2_with fail
        go_ret
        exact ⟨ret_int HV.out.symm, B0.out.trans (B1.out.mono B0.out.size)⟩
      · have HSM : Hid (sameS l 1 ((a : Int), (b : Int)) = true ∧ otherS l 1 ((a : Int), (b : Int)) = false) := Lib.hid ⟨by rw [sameS]; exact HRT.out.trans hr2, by rw [otherS]; exact HLF.out.trans hl2⟩
        have HV : Hid (s = 1) := Lib.hid (by rw [← HS.out, sideOf, HSM.out.1]; rfl)
        subst hl2 hr2
        go_enter Try.func28, Try.ntmps28
        go_wp2_with fail
        rw [HW.out]
        go_wp2_with fail
        refine hsd.out.mono ?_
        rintro ed w1 ⟨rfl, b1⟩
        rw [HLF.out, HRT.out]
        have B1 := Lib.hid b1
        have SB1 := SB.out w1 b1
        clear b1
        go_wp2_with fail
        go_ret
        exact ⟨ret_int HV.out.symm, B0.out.trans (B1.out.mono B0.out.size)⟩
    · rcases hr2 : rt with _ | _
      · have HSM : Hid (sameS l 1 ((a : Int), (b : Int)) = false ∧ otherS l 1 ((a : Int), (b : Int)) = true) := Lib.hid ⟨by rw [sameS]; exact HRT.out.trans hr2, by rw [otherS]; exact HLF.out.trans hl2⟩
        have HV : Hid (s = aheadS l sos a) := Lib.hid (by rw [← HS.out, side_ahead HSM.out.1 HSM.out.2]; rfl)
        subst hl2 hr2
        go_enter Try.func28, Try.ntmps28
        go_wp2_with fail
        rw [HW.out]
        go_wp2_with fail
        refine hsd.out.mono ?_
        rintro ed w1 ⟨rfl, b1⟩
        rw [HLF.out, HRT.out]
        have B1 := Lib.hid b1
        have SB1 := SB.out w1 b1
        clear b1
        go_wp2_with fail
        refine (hcon.out w1 B1.out).mono ?_
        rintro ed w2 ⟨rfl, b2⟩
        rw [← HV.out]
        have B2 := Lib.hid b2
        clear b2
        go_wp2_with fail
        go_ret
        exact ⟨rfl, B0.out.trans ((B1.out.trans (B2.out.mono B1.out.size)).mono B0.out.size)⟩
      · have HSM : Hid (sameS l 1 ((a : Int), (b : Int)) = true ∧ otherS l 1 ((a : Int), (b : Int)) = true) := Lib.hid ⟨by rw [sameS]; exact HRT.out.trans hr2, by rw [otherS]; exact HLF.out.trans hl2⟩
        have HV : Hid (s = 1) := Lib.hid (by rw [← HS.out, sideOf, HSM.out.1]; rfl)
        subst hl2 hr2
        go_enter Try.func28, Try.ntmps28
        go_wp2_with fail
        rw [HW.out]
        go_wp2_with fail
        refine hsd.out.mono ?_
        rintro ed w1 ⟨rfl, b1⟩
        rw [HLF.out, HRT.out]
        have B1 := Lib.hid b1
        have SB1 := SB.out w1 b1
        clear b1
        go_wp2_with fail
        go_ret
        exact ⟨ret_int HV.out.symm, B0.out.trans (B1.out.mono B0.out.size)⟩
end Go.Proofs.Ytoiolgpbecgfkaa
