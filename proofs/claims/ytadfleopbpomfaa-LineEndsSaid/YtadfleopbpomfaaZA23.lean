/- Shared texts, shaken for one claim. -/
import Derived.Test.YtadfleopbpomfaaZA4
import Derived.Test.YtadfleopbpomfaaZA10
import Derived.Test.YtadfleopbpomfaaZA22
namespace Go.Proofs.Ytadfleopbpomfaa
open Go.RowKit
set_option maxRecDepth 20000 in
set_option maxHeartbeats 8000000 in
theorem rrule09_any (A : Option Addr) (l : List Int) (c : Nat) (sos : Int) (n : Nat) (w : World) (h : Lies w w.heap.size A (ints .i64 l)) (hl : l.length ≤ 1000000) (h1 : 1 ≤ n) (h7 : n ≤ 7) :
 Calls Try.prog 56 #[.slice A l.length c, .int .i64 sos, .int .i64 (n : Int)] w fun ed w' => Rowed w w.heap.size 3 (ints .i64 (ruleI l sos n)) ed w' := by
 have H := Lib.hid h
 obtain ⟨P, hP⟩ : ∃ P, plainL l = P := ⟨_, rfl⟩
 obtain ⟨s, hs⟩ : ∃ s, sideK sos = s := ⟨_, rfl⟩
 have hs01 : s = 0 ∨ s = 1 := hs ▸ sideK_two sos
 have HPL : Hid (P.length = l.length) := Lib.hid (by rw [← hP, plainL, List.length_map])
 have HPP : Hid (plainL P = P) := Lib.hid (by rw [← hP]; exact plainL_of (plainL_free l))
 have HSS : Hid (sideK s = s) := Lib.hid (by rcases hs01 with rfl | rfl <;> rfl)
 have HP := Lib.hid hP
 have HS := Lib.hid hs
 rw [ruleI, hP, hs]
 obtain ⟨L2, hL2⟩ : ∃ x, rulePlain P s n = x := ⟨_, rfl⟩
 rw [hL2]
 have HS01 := Lib.hid hs01
 clear h hP hs hs01
 have hn : n = 1 ∨ n = 2 ∨ n = 3 ∨ n = 4 ∨ n = 5 ∨ n = 6 ∨ n = 7 := by omega
 clear h1 h7
 rcases hn with rfl | rfl | rfl | rfl | rfl | rfl | rfl
 ·have HR2 : Hid (rulePlain P s 1 = L2) := Lib.hid hL2
  clear hL2
  go_enter Try.func56, Try.ntmps56
  go_wp2_with fail
  refine (rplain09_any A l c w H.out hl).mono ?_
  rintro e w1 ⟨v1, rfl, o1, b1⟩
  rw [HP.out] at o1
  obtain ⟨A1, c1, hv1, -, -, -⟩ := o1.form
  rw [ints, List.length_map, HPL.out] at hv1
  subst hv1
  have O1 := Lib.hid o1
  have B1 := Lib.hid b1
  have H1 := Lib.hid (H.out.up b1)
  clear o1 b1
  go_wp2_with fail
  refine (rside09_any sos w1).mono ?_
  rintro e wq ⟨rfl, rfl⟩
  rw [HS.out]
  go_wp2_with fail
  refine (rplain09_any A l c w1 H1.out hl).mono ?_
  rintro e w2 ⟨v2, rfl, o2, b2⟩
  rw [HP.out] at o2
  obtain ⟨A2, c2, hv2, -, -, -⟩ := o2.form
  rw [ints, List.length_map, HPL.out] at hv2
  subst hv2
  have O2 := Lib.hid o2
  have O1' := Lib.hid (O1.out.below b2 (Nat.le_refl _))
  have B2 := Lib.hid (below_then B1.out b2)
  clear o2 b2
  have HC : Hid (Calls Try.prog 77 #[.slice A1 l.length c1, .int .i64 s] w2 fun ed w' => ed = .returned (.tuple #[]) ∧ Own w' w.heap.size 3 (.slice A1 l.length c1) (ints .i64 L2) ∧ Below w.heap.size w2 w') := Lib.hid (by
   have h := rmarks09_any s HS01.out w.heap.size c1 A1 P w2 (by rw [HPL.out]; exact hl) B2.out.size (by rw [HPL.out]; exact O1'.out)
   rw [HPL.out] at h
   rw [← HR2.out]
   exact h)
  go_wp2_with fail
  refine HC.out.mono ?_
  rintro e w3 ⟨rfl, o3, b3⟩
  have O3 := Lib.hid o3
  have B3 : Hid (Below w.heap.size w w3) := Lib.hid (B2.out.trans b3)
  clear o3 b3
  go_wp2_with fail
  go_loopw [9] (fun iv wr => ∃ k : Nat, k ≤ l.length ∧ iv = .int .i64 k ∧ w3 = wr) (fun iv _ => l.length - (intOf iv).toNat)
  case atStart => exact ⟨0, by omega, rfl, rfl⟩
  case round =>
   obtain ⟨k, hk, rfl, rfl⟩ := hrel
   by_cases hlt : k < l.length
   ·have k1 : (k : Int) < (l.length : Int) := by omega
    go_wp2_with fail
    go_roundw
    case rel => exact ⟨k + 1, by omega, by go_num, by first | rfl | trivial⟩
    case measure => simp [intOf]; omega
   ·obtain rfl : k = l.length := by omega
    go_wp2
    go_ret
    exact ⟨_, rfl, O3.out, B3.out⟩
 ·have HR2 : Hid (rulePlain P s 2 = L2) := Lib.hid hL2
  clear hL2
  go_enter Try.func56, Try.ntmps56
  go_wp2_with fail
  refine (rplain09_any A l c w H.out hl).mono ?_
  rintro e w1 ⟨v1, rfl, o1, b1⟩
  rw [HP.out] at o1
  obtain ⟨A1, c1, hv1, -, -, -⟩ := o1.form
  rw [ints, List.length_map, HPL.out] at hv1
  subst hv1
  have O1 := Lib.hid o1
  have B1 := Lib.hid b1
  have H1 := Lib.hid (H.out.up b1)
  clear o1 b1
  go_wp2_with fail
  refine (rside09_any sos w1).mono ?_
  rintro e wq ⟨rfl, rfl⟩
  rw [HS.out]
  go_wp2_with fail
  refine (rplain09_any A l c w1 H1.out hl).mono ?_
  rintro e w2 ⟨v2, rfl, o2, b2⟩
  rw [HP.out] at o2
  obtain ⟨A2, c2, hv2, -, -, -⟩ := o2.form
  rw [ints, List.length_map, HPL.out] at hv2
  subst hv2
  have O2 := Lib.hid o2
  have O1' := Lib.hid (O1.out.below b2 (Nat.le_refl _))
  have B2 := Lib.hid (below_then B1.out b2)
  clear o2 b2
  have HL2 : Hid (L2.length = P.length) := Lib.hid (by rw [← HR2.out, rulePlain_length])
  have HAT : Hid (∀ k, k < P.length → L2.getD k 0 = (if P.getD k 0 = 3 ∧ lastStrong s (P.take k) = 2 then 6 else P.getD k 0)) := Lib.hid fun k hk => by rw [← HR2.out]; exact (wS_at 2 6 s P k hk).symm
  have O0 : Hid (Own w2 w.heap.size 3 (.slice A1 l.length c1) (ints .i64 (mixL P L2 0))) := Lib.hid (by rw [mixL_zero]; exact O1'.out)
  go_wp2_with fail
  go_loopw [9] (fun iv wr => ∃ k : Nat, k ≤ l.length ∧ iv = .int .i64 k ∧ Hid (Own wr w.heap.size 3 (.slice A1 l.length c1) (ints .i64 (mixL P L2 k))) ∧ Hid (Own wr w1.heap.size 3 (.slice A2 l.length c2) (ints .i64 P)) ∧ Hid (Below w.heap.size w wr)) (fun iv _ => l.length - (intOf iv).toNat)
  case atStart => exact ⟨0, by omega, rfl, O0, O2, B2⟩
  case round =>
   obtain ⟨k, hk, rfl, HO, HW, HB⟩ := hrel
   by_cases hlt : k < l.length
   ·have hkP : k < P.length := by rw [HPL.out]; exact hlt
    have hml : (mixL P L2 k).length = l.length := by rw [mixL_all HL2.out k, HPL.out]
    obtain ⟨g, c3, hv, hR⟩ := HO.out.inRow (by rw [ints, List.length_map, hml]; omega)
    injection hv with hA hx3 hc3
    clear hx3
    subst hA hc3
    obtain ⟨x, hx⟩ : ∃ x, P.getD k 0 = x := ⟨_, rfl⟩
    have hc : wr.cell? ⟨g, k, none⟩ = some (.int .i64 x) := row_int hR (by rw [mix_at HL2.out (by omega) (Nat.le_refl _), List.getElem?_eq_getElem hkP, ← getD_at hkP, hx])
    have hat := HAT.out k hkP
    rw [hx] at hat
    have HX := Lib.hid hx
    have HR := Lib.hid hR
    have HKP := Lib.hid hkP
    have HJL : Hid (k < (ints .i64 (mixL P L2 k)).length) := Lib.hid (by rw [ints, List.length_map, hml]; exact hlt)
    have HFAR : Hid ((Value.slice A2 l.length c2).ownBlock ≠ some g) := Lib.hid (fun e => by
     have h1 := (Own.inside HW.out g e).1
     have h2 := (Own.inside O1.out g rfl).2
     omega)
    have k0 : (0 : Int) ≤ (k : Int) := by omega
    have k1 : (k : Int) < (l.length : Int) := by omega
    clear hx hR hml hkP
    rcases e3 : (x == 3) with _ | _
    ·have HV : Hid (L2.getD k 0 = x) := Lib.hid (by rw [hat, if_neg]; simp only [beq_eq_false_iff_ne] at e3; exact fun h => e3 h.1)
     clear hat
     go_wp2_with fail
     go_roundw
     case rel => exact ⟨k + 1, by omega, by go_num, by rw [← mix_stay HL2.out HKP.out (by rw [HV.out, HX.out])]; exact HO, HW, HB⟩
     case measure => simp [intOf]; omega
    ·obtain ⟨r, hr⟩ : ∃ r, lastStrong s (P.take k) = r := ⟨_, rfl⟩
     rw [hr] at hat
     have HC : Hid (Calls Try.prog 80 #[.slice A2 l.length c2, .int .i64 (k : Int), .int .i64 s] wr fun ed w' => ed = .returned (.int .i64 r) ∧ Below wr.heap.size wr w') := Lib.hid (by
      obtain ⟨A4, c4, hv4, hl4, -, -⟩ := HW.out.form
      rw [ints, List.length_map, HPL.out] at hv4
      injection hv4 with hA4 _ hc4
      subst hA4 hc4
      have := rstrong09_any A2 P c2 k s wr hl4 (by rw [HPL.out]; exact hl) (by rw [HPL.out]; exact hk)
      rw [HPL.out, HPP.out, HSS.out, hr] at this
      exact this)
     go_wp2_with fail
     refine HC.out.mono ?_
     rintro e w4 ⟨rfl, b4⟩
     have HO4 := Lib.hid (HO.out.below b4 (Nat.le_refl _))
     have HW4 := Lib.hid (HW.out.below b4 (Nat.le_refl _))
     have HR4 := Lib.hid (HR.out.below b4 (Nat.le_refl _))
     have HB4 := Lib.hid (HB.out.trans (b4.mono HB.out.size))
     clear b4 hr
     rcases er : (r == 2) with _ | _
     ·have HV : Hid (L2.getD k 0 = x) := Lib.hid (by rw [hat, if_neg]; simp only [beq_eq_false_iff_ne] at er; exact fun h => er h.2)
      clear hat
      go_wp2_with fail
      go_roundw
      case rel => exact ⟨k + 1, by omega, by go_num, by rw [← mix_stay HL2.out HKP.out (by rw [HV.out, HX.out])]; exact HO4, HW4, HB4⟩
      case measure => simp [intOf]; omega
     ·have HV : Hid (L2.getD k 0 = 6) := Lib.hid (by rw [hat, if_pos ⟨by simpa using e3, by simpa using er⟩])
      clear hat
      go_wp2_with (first
       | (refine store_row intsT w4 w.heap.size _ _ g k c1 .i64 6 (ints .i64 (mixL P L2 k)) w rfl rfl rfl rfl rfl HR4.out HJL.out HB4.out ?_; intro w5 r5 b5 g5; have R5 := Lib.hid r5; have B5 := Lib.hid b5; have W5 := Lib.hid (HW4.out.keepRow g5 HFAR.out); clear r5 b5 g5)
       | fail)
      go_roundw
      case rel => exact ⟨k + 1, by omega, by go_num, Lib.hid (by have := R5.out; rw [ints_set, ← HV.out, mix_put HL2.out HKP.out, row_own (by rw [mixL_all HL2.out, HPL.out])] at this; exact this), W5, B5⟩
      case measure => simp [intOf]; omega
   ·obtain rfl : k = l.length := by omega
    go_wp2
    go_ret
    exact ⟨_, rfl, by have := HO.out; rw [mixL_end HL2.out (by rw [HPL.out]; exact Nat.le_refl _)] at this; exact this, HB.out⟩
 ·have HR2 : Hid (rulePlain P s 3 = L2) := Lib.hid hL2
  clear hL2
  go_enter Try.func56, Try.ntmps56
  go_wp2_with fail
  refine (rplain09_any A l c w H.out hl).mono ?_
  rintro e w1 ⟨v1, rfl, o1, b1⟩
  rw [HP.out] at o1
  obtain ⟨A1, c1, hv1, -, -, -⟩ := o1.form
  rw [ints, List.length_map, HPL.out] at hv1
  subst hv1
  have O1 := Lib.hid o1
  have B1 := Lib.hid b1
  have H1 := Lib.hid (H.out.up b1)
  clear o1 b1
  go_wp2_with fail
  refine (rside09_any sos w1).mono ?_
  rintro e wq ⟨rfl, rfl⟩
  rw [HS.out]
  go_wp2_with fail
  refine (rplain09_any A l c w1 H1.out hl).mono ?_
  rintro e w2 ⟨v2, rfl, o2, b2⟩
  rw [HP.out] at o2
  obtain ⟨A2, c2, hv2, -, -, -⟩ := o2.form
  rw [ints, List.length_map, HPL.out] at hv2
  subst hv2
  have O2 := Lib.hid o2
  have O1' := Lib.hid (O1.out.below b2 (Nat.le_refl _))
  have B2 := Lib.hid (below_then B1.out b2)
  clear o2 b2
  have HL2 : Hid (L2.length = P.length) := Lib.hid (by rw [← HR2.out, rulePlain_length])
  have HAT : Hid (∀ k, k < P.length → L2.getD k 0 = (if P.getD k 0 = 2 then 1 else P.getD k 0)) := Lib.hid fun k hk => by rw [← HR2.out]; exact (map_at (fun k => if k = 2 then 1 else k) hk).symm
  have O0 : Hid (Own w2 w.heap.size 3 (.slice A1 l.length c1) (ints .i64 (mixL P L2 0))) := Lib.hid (by rw [mixL_zero]; exact O1'.out)
  go_wp2_with fail
  go_loopw [9] (fun iv wr => ∃ k : Nat, k ≤ l.length ∧ iv = .int .i64 k ∧ Hid (Own wr w.heap.size 3 (.slice A1 l.length c1) (ints .i64 (mixL P L2 k))) ∧ Hid (Own wr w1.heap.size 3 (.slice A2 l.length c2) (ints .i64 P)) ∧ Hid (Below w.heap.size w wr)) (fun iv _ => l.length - (intOf iv).toNat)
  case atStart => exact ⟨0, by omega, rfl, O0, O2, B2⟩
  case round =>
   obtain ⟨k, hk, rfl, HO, HW, HB⟩ := hrel
   by_cases hlt : k < l.length
   ·have hkP : k < P.length := by rw [HPL.out]; exact hlt
    have hml : (mixL P L2 k).length = l.length := by rw [mixL_all HL2.out k, HPL.out]
    obtain ⟨g, c3, hv, hR⟩ := HO.out.inRow (by rw [ints, List.length_map, hml]; omega)
    injection hv with hA hx3 hc3
    clear hx3
    subst hA hc3
    obtain ⟨x, hx⟩ : ∃ x, P.getD k 0 = x := ⟨_, rfl⟩
    have hc : wr.cell? ⟨g, k, none⟩ = some (.int .i64 x) := row_int hR (by rw [mix_at HL2.out (by omega) (Nat.le_refl _), List.getElem?_eq_getElem hkP, ← getD_at hkP, hx])
    have hat := HAT.out k hkP
    rw [hx] at hat
    have HX := Lib.hid hx
    have HR := Lib.hid hR
    have HKP := Lib.hid hkP
    have HJL : Hid (k < (ints .i64 (mixL P L2 k)).length) := Lib.hid (by rw [ints, List.length_map, hml]; exact hlt)
    have HFAR : Hid ((Value.slice A2 l.length c2).ownBlock ≠ some g) := Lib.hid (fun e => by
     have h1 := (Own.inside HW.out g e).1
     have h2 := (Own.inside O1.out g rfl).2
     omega)
    have k0 : (0 : Int) ≤ (k : Int) := by omega
    have k1 : (k : Int) < (l.length : Int) := by omega
    clear hx hR hml hkP
    rcases e2 : (x == 2) with _ | _
    ·have HV : Hid (L2.getD k 0 = x) := Lib.hid (by rw [hat, if_neg (by simpa using e2)])
     clear hat
     go_wp2_with fail
     go_roundw
     case rel => exact ⟨k + 1, by omega, by go_num, by rw [← mix_stay HL2.out HKP.out (by rw [HV.out, HX.out])]; exact HO, HW, HB⟩
     case measure => simp [intOf]; omega
    ·have HV : Hid (L2.getD k 0 = 1) := Lib.hid (by rw [hat, if_pos (by simpa using e2)])
     clear hat
     go_wp2_with (first
      | (refine store_row intsT wr w.heap.size _ _ g k c1 .i64 1 (ints .i64 (mixL P L2 k)) w rfl rfl rfl rfl rfl HR.out HJL.out HB.out ?_; intro w5 r5 b5 g5; have R5 := Lib.hid r5; have B5 := Lib.hid b5; have W5 := Lib.hid (HW.out.keepRow g5 HFAR.out); clear r5 b5 g5)
      | fail)
     go_roundw
     case rel => exact ⟨k + 1, by omega, by go_num, Lib.hid (by have := R5.out; rw [ints_set, ← HV.out, mix_put HL2.out HKP.out, row_own (by rw [mixL_all HL2.out, HPL.out])] at this; exact this), W5, B5⟩
     case measure => simp [intOf]; omega
   ·obtain rfl : k = l.length := by omega
    go_wp2
    go_ret
    exact ⟨_, rfl, by have := HO.out; rw [mixL_end HL2.out (by rw [HPL.out]; exact Nat.le_refl _)] at this; exact this, HB.out⟩
 ·have HR2 : Hid (rulePlain P s 4 = L2) := Lib.hid hL2
  clear hL2
  go_enter Try.func56, Try.ntmps56
  go_wp2_with fail
  refine (rplain09_any A l c w H.out hl).mono ?_
  rintro e w1 ⟨v1, rfl, o1, b1⟩
  rw [HP.out] at o1
  obtain ⟨A1, c1, hv1, -, -, -⟩ := o1.form
  rw [ints, List.length_map, HPL.out] at hv1
  subst hv1
  have O1 := Lib.hid o1
  have B1 := Lib.hid b1
  have H1 := Lib.hid (H.out.up b1)
  clear o1 b1
  go_wp2_with fail
  refine (rside09_any sos w1).mono ?_
  rintro e wq ⟨rfl, rfl⟩
  rw [HS.out]
  go_wp2_with fail
  refine (rplain09_any A l c w1 H1.out hl).mono ?_
  rintro e w2 ⟨v2, rfl, o2, b2⟩
  rw [HP.out] at o2
  obtain ⟨A2, c2, hv2, -, -, -⟩ := o2.form
  rw [ints, List.length_map, HPL.out] at hv2
  subst hv2
  have O2 := Lib.hid o2
  have O1' := Lib.hid (O1.out.below b2 (Nat.le_refl _))
  have B2 := Lib.hid (below_then B1.out b2)
  clear o2 b2
  have HC : Hid (Calls Try.prog 78 #[.slice A1 l.length c1] w2 fun ed w' => ed = .returned (.tuple #[]) ∧ Own w' w.heap.size 3 (.slice A1 l.length c1) (ints .i64 L2) ∧ Below w.heap.size w2 w') := Lib.hid (by
   have h := rparts09_any w.heap.size c1 A1 P w2 (by rw [HPL.out]; exact hl) B2.out.size (by rw [HPL.out]; exact O1'.out)
   rw [HPL.out] at h
   rw [← HR2.out]
   exact h)
  go_wp2_with fail
  refine HC.out.mono ?_
  rintro e w3 ⟨rfl, o3, b3⟩
  have O3 := Lib.hid o3
  have B3 : Hid (Below w.heap.size w w3) := Lib.hid (B2.out.trans b3)
  clear o3 b3
  go_wp2_with fail
  go_loopw [9] (fun iv wr => ∃ k : Nat, k ≤ l.length ∧ iv = .int .i64 k ∧ w3 = wr) (fun iv _ => l.length - (intOf iv).toNat)
  case atStart => exact ⟨0, by omega, rfl, rfl⟩
  case round =>
   obtain ⟨k, hk, rfl, rfl⟩ := hrel
   by_cases hlt : k < l.length
   ·have k1 : (k : Int) < (l.length : Int) := by omega
    go_wp2_with fail
    go_roundw
    case rel => exact ⟨k + 1, by omega, by go_num, by first | rfl | trivial⟩
    case measure => simp [intOf]; omega
   ·obtain rfl : k = l.length := by omega
    go_wp2
    go_ret
    exact ⟨_, rfl, O3.out, B3.out⟩
 ·have HR2 : Hid (rulePlain P s 5 = L2) := Lib.hid hL2
  clear hL2
  go_enter Try.func56, Try.ntmps56
  go_wp2_with fail
  refine (rplain09_any A l c w H.out hl).mono ?_
  rintro e w1 ⟨v1, rfl, o1, b1⟩
  rw [HP.out] at o1
  obtain ⟨A1, c1, hv1, -, -, -⟩ := o1.form
  rw [ints, List.length_map, HPL.out] at hv1
  subst hv1
  have O1 := Lib.hid o1
  have B1 := Lib.hid b1
  have H1 := Lib.hid (H.out.up b1)
  clear o1 b1
  go_wp2_with fail
  refine (rside09_any sos w1).mono ?_
  rintro e wq ⟨rfl, rfl⟩
  rw [HS.out]
  go_wp2_with fail
  refine (rplain09_any A l c w1 H1.out hl).mono ?_
  rintro e w2 ⟨v2, rfl, o2, b2⟩
  rw [HP.out] at o2
  obtain ⟨A2, c2, hv2, -, -, -⟩ := o2.form
  rw [ints, List.length_map, HPL.out] at hv2
  subst hv2
  have O2 := Lib.hid o2
  have O1' := Lib.hid (O1.out.below b2 (Nat.le_refl _))
  have B2 := Lib.hid (below_then B1.out b2)
  clear o2 b2
  have HC : Hid (Calls Try.prog 79 #[.slice A1 l.length c1] w2 fun ed w' => ed = .returned (.tuple #[]) ∧ Own w' w.heap.size 3 (.slice A1 l.length c1) (ints .i64 L2) ∧ Below w.heap.size w2 w') := Lib.hid (by
   have h := rends09_any w.heap.size c1 A1 P w2 (by rw [HPL.out]; exact hl) B2.out.size (by rw [HPL.out]; exact O1'.out)
   rw [HPL.out] at h
   rw [← HR2.out]
   exact h)
  go_wp2_with fail
  refine HC.out.mono ?_
  rintro e w3 ⟨rfl, o3, b3⟩
  have O3 := Lib.hid o3
  have B3 : Hid (Below w.heap.size w w3) := Lib.hid (B2.out.trans b3)
  clear o3 b3
  go_wp2_with fail
  go_loopw [9] (fun iv wr => ∃ k : Nat, k ≤ l.length ∧ iv = .int .i64 k ∧ w3 = wr) (fun iv _ => l.length - (intOf iv).toNat)
  case atStart => exact ⟨0, by omega, rfl, rfl⟩
  case round =>
   obtain ⟨k, hk, rfl, rfl⟩ := hrel
   by_cases hlt : k < l.length
   ·have k1 : (k : Int) < (l.length : Int) := by omega
    go_wp2_with fail
    go_roundw
    case rel => exact ⟨k + 1, by omega, by go_num, by first | rfl | trivial⟩
    case measure => simp [intOf]; omega
   ·obtain rfl : k = l.length := by omega
    go_wp2
    go_ret
    exact ⟨_, rfl, O3.out, B3.out⟩
 ·have HR2 : Hid (rulePlain P s 6 = L2) := Lib.hid hL2
  clear hL2
  go_enter Try.func56, Try.ntmps56
  go_wp2_with fail
  refine (rplain09_any A l c w H.out hl).mono ?_
  rintro e w1 ⟨v1, rfl, o1, b1⟩
  rw [HP.out] at o1
  obtain ⟨A1, c1, hv1, -, -, -⟩ := o1.form
  rw [ints, List.length_map, HPL.out] at hv1
  subst hv1
  have O1 := Lib.hid o1
  have B1 := Lib.hid b1
  have H1 := Lib.hid (H.out.up b1)
  clear o1 b1
  go_wp2_with fail
  refine (rside09_any sos w1).mono ?_
  rintro e wq ⟨rfl, rfl⟩
  rw [HS.out]
  go_wp2_with fail
  refine (rplain09_any A l c w1 H1.out hl).mono ?_
  rintro e w2 ⟨v2, rfl, o2, b2⟩
  rw [HP.out] at o2
  obtain ⟨A2, c2, hv2, -, -, -⟩ := o2.form
  rw [ints, List.length_map, HPL.out] at hv2
  subst hv2
  have O2 := Lib.hid o2
  have O1' := Lib.hid (O1.out.below b2 (Nat.le_refl _))
  have B2 := Lib.hid (below_then B1.out b2)
  clear o2 b2
  have HL2 : Hid (L2.length = P.length) := Lib.hid (by rw [← HR2.out, rulePlain_length])
  have HAT : Hid (∀ k, k < P.length → L2.getD k 0 = (if P.getD k 0 = 4 ∨ P.getD k 0 = 5 ∨ P.getD k 0 = 7 then 13 else P.getD k 0)) := Lib.hid fun k hk => by rw [← HR2.out]; exact (map_at (fun k => if k = 4 ∨ k = 5 ∨ k = 7 then 13 else k) hk).symm
  have O0 : Hid (Own w2 w.heap.size 3 (.slice A1 l.length c1) (ints .i64 (mixL P L2 0))) := Lib.hid (by rw [mixL_zero]; exact O1'.out)
  go_wp2_with fail
  go_loopw [9] (fun iv wr => ∃ k : Nat, k ≤ l.length ∧ iv = .int .i64 k ∧ Hid (Own wr w.heap.size 3 (.slice A1 l.length c1) (ints .i64 (mixL P L2 k))) ∧ Hid (Own wr w1.heap.size 3 (.slice A2 l.length c2) (ints .i64 P)) ∧ Hid (Below w.heap.size w wr)) (fun iv _ => l.length - (intOf iv).toNat)
  case atStart => exact ⟨0, by omega, rfl, O0, O2, B2⟩
  case round =>
   obtain ⟨k, hk, rfl, HO, HW, HB⟩ := hrel
   by_cases hlt : k < l.length
   ·have hkP : k < P.length := by rw [HPL.out]; exact hlt
    have hml : (mixL P L2 k).length = l.length := by rw [mixL_all HL2.out k, HPL.out]
    obtain ⟨g, c3, hv, hR⟩ := HO.out.inRow (by rw [ints, List.length_map, hml]; omega)
    injection hv with hA hx3 hc3
    clear hx3
    subst hA hc3
    obtain ⟨x, hx⟩ : ∃ x, P.getD k 0 = x := ⟨_, rfl⟩
    have hc : wr.cell? ⟨g, k, none⟩ = some (.int .i64 x) := row_int hR (by rw [mix_at HL2.out (by omega) (Nat.le_refl _), List.getElem?_eq_getElem hkP, ← getD_at hkP, hx])
    have hat := HAT.out k hkP
    rw [hx] at hat
    have HX := Lib.hid hx
    have HR := Lib.hid hR
    have HKP := Lib.hid hkP
    have HJL : Hid (k < (ints .i64 (mixL P L2 k)).length) := Lib.hid (by rw [ints, List.length_map, hml]; exact hlt)
    have HFAR : Hid ((Value.slice A2 l.length c2).ownBlock ≠ some g) := Lib.hid (fun e => by
     have h1 := (Own.inside HW.out g e).1
     have h2 := (Own.inside O1.out g rfl).2
     omega)
    have k0 : (0 : Int) ≤ (k : Int) := by omega
    have k1 : (k : Int) < (l.length : Int) := by omega
    clear hx hR hml hkP
    rcases e4 : (x == 4) with _ | _
    ·rcases e5 : (x == 5) with _ | _
     ·rcases e7 : (x == 7) with _ | _
      ·have HV : Hid (L2.getD k 0 = x) := Lib.hid (by rw [hat, if_neg]; simp only [beq_eq_false_iff_ne] at e4 e5 e7; omega)
       clear hat
       go_wp2_with fail
       go_roundw
       case rel => exact ⟨k + 1, by omega, by go_num, by rw [← mix_stay HL2.out HKP.out (by rw [HV.out, HX.out])]; exact HO, HW, HB⟩
       case measure => simp [intOf]; omega
      ·have HV : Hid (L2.getD k 0 = 13) := Lib.hid (by rw [hat, if_pos]; simp only [beq_iff_eq] at e7; omega)
       clear hat
       go_wp2_with (first
        | (refine store_row intsT wr w.heap.size _ _ g k c1 .i64 13 (ints .i64 (mixL P L2 k)) w rfl rfl rfl rfl rfl HR.out HJL.out HB.out ?_; intro w5 r5 b5 g5; have R5 := Lib.hid r5; have B5 := Lib.hid b5; have W5 := Lib.hid (HW.out.keepRow g5 HFAR.out); clear r5 b5 g5)
        | fail)
       go_roundw
       case rel => exact ⟨k + 1, by omega, by go_num, Lib.hid (by have := R5.out; rw [ints_set, ← HV.out, mix_put HL2.out HKP.out, row_own (by rw [mixL_all HL2.out, HPL.out])] at this; exact this), W5, B5⟩
       case measure => simp [intOf]; omega
     ·have HV : Hid (L2.getD k 0 = 13) := Lib.hid (by rw [hat, if_pos]; simp only [beq_iff_eq] at e5; omega)
      clear hat
      go_wp2_with (first
       | (refine store_row intsT wr w.heap.size _ _ g k c1 .i64 13 (ints .i64 (mixL P L2 k)) w rfl rfl rfl rfl rfl HR.out HJL.out HB.out ?_; intro w5 r5 b5 g5; have R5 := Lib.hid r5; have B5 := Lib.hid b5; have W5 := Lib.hid (HW.out.keepRow g5 HFAR.out); clear r5 b5 g5)
       | fail)
      go_roundw
      case rel => exact ⟨k + 1, by omega, by go_num, Lib.hid (by have := R5.out; rw [ints_set, ← HV.out, mix_put HL2.out HKP.out, row_own (by rw [mixL_all HL2.out, HPL.out])] at this; exact this), W5, B5⟩
      case measure => simp [intOf]; omega
    ·have HV : Hid (L2.getD k 0 = 13) := Lib.hid (by rw [hat, if_pos]; simp only [beq_iff_eq] at e4; omega)
     clear hat
     go_wp2_with (first
      | (refine store_row intsT wr w.heap.size _ _ g k c1 .i64 13 (ints .i64 (mixL P L2 k)) w rfl rfl rfl rfl rfl HR.out HJL.out HB.out ?_; intro w5 r5 b5 g5; have R5 := Lib.hid r5; have B5 := Lib.hid b5; have W5 := Lib.hid (HW.out.keepRow g5 HFAR.out); clear r5 b5 g5)
      | fail)
     go_roundw
     case rel => exact ⟨k + 1, by omega, by go_num, Lib.hid (by have := R5.out; rw [ints_set, ← HV.out, mix_put HL2.out HKP.out, row_own (by rw [mixL_all HL2.out, HPL.out])] at this; exact this), W5, B5⟩
     case measure => simp [intOf]; omega
   ·obtain rfl : k = l.length := by omega
    go_wp2
    go_ret
    exact ⟨_, rfl, by have := HO.out; rw [mixL_end HL2.out (by rw [HPL.out]; exact Nat.le_refl _)] at this; exact this, HB.out⟩
 ·have HR2 : Hid (rulePlain P s 7 = L2) := Lib.hid hL2
  clear hL2
  go_enter Try.func56, Try.ntmps56
  go_wp2_with fail
  refine (rplain09_any A l c w H.out hl).mono ?_
  rintro e w1 ⟨v1, rfl, o1, b1⟩
  rw [HP.out] at o1
  obtain ⟨A1, c1, hv1, -, -, -⟩ := o1.form
  rw [ints, List.length_map, HPL.out] at hv1
  subst hv1
  have O1 := Lib.hid o1
  have B1 := Lib.hid b1
  have H1 := Lib.hid (H.out.up b1)
  clear o1 b1
  go_wp2_with fail
  refine (rside09_any sos w1).mono ?_
  rintro e wq ⟨rfl, rfl⟩
  rw [HS.out]
  go_wp2_with fail
  refine (rplain09_any A l c w1 H1.out hl).mono ?_
  rintro e w2 ⟨v2, rfl, o2, b2⟩
  rw [HP.out] at o2
  obtain ⟨A2, c2, hv2, -, -, -⟩ := o2.form
  rw [ints, List.length_map, HPL.out] at hv2
  subst hv2
  have O2 := Lib.hid o2
  have O1' := Lib.hid (O1.out.below b2 (Nat.le_refl _))
  have B2 := Lib.hid (below_then B1.out b2)
  clear o2 b2
  have HL2 : Hid (L2.length = P.length) := Lib.hid (by rw [← HR2.out, rulePlain_length])
  have HAT : Hid (∀ k, k < P.length → L2.getD k 0 = (if P.getD k 0 = 3 ∧ lastStrong s (P.take k) = 0 then 0 else P.getD k 0)) := Lib.hid fun k hk => by rw [← HR2.out]; exact (wS_at 0 0 s P k hk).symm
  have O0 : Hid (Own w2 w.heap.size 3 (.slice A1 l.length c1) (ints .i64 (mixL P L2 0))) := Lib.hid (by rw [mixL_zero]; exact O1'.out)
  go_wp2_with fail
  go_loopw [9] (fun iv wr => ∃ k : Nat, k ≤ l.length ∧ iv = .int .i64 k ∧ Hid (Own wr w.heap.size 3 (.slice A1 l.length c1) (ints .i64 (mixL P L2 k))) ∧ Hid (Own wr w1.heap.size 3 (.slice A2 l.length c2) (ints .i64 P)) ∧ Hid (Below w.heap.size w wr)) (fun iv _ => l.length - (intOf iv).toNat)
  case atStart => exact ⟨0, by omega, rfl, O0, O2, B2⟩
  case round =>
   obtain ⟨k, hk, rfl, HO, HW, HB⟩ := hrel
   by_cases hlt : k < l.length
   ·have hkP : k < P.length := by rw [HPL.out]; exact hlt
    have hml : (mixL P L2 k).length = l.length := by rw [mixL_all HL2.out k, HPL.out]
    obtain ⟨g, c3, hv, hR⟩ := HO.out.inRow (by rw [ints, List.length_map, hml]; omega)
    injection hv with hA hx3 hc3
    clear hx3
    subst hA hc3
    obtain ⟨x, hx⟩ : ∃ x, P.getD k 0 = x := ⟨_, rfl⟩
    have hc : wr.cell? ⟨g, k, none⟩ = some (.int .i64 x) := row_int hR (by rw [mix_at HL2.out (by omega) (Nat.le_refl _), List.getElem?_eq_getElem hkP, ← getD_at hkP, hx])
    have hat := HAT.out k hkP
    rw [hx] at hat
    have HX := Lib.hid hx
    have HR := Lib.hid hR
    have HKP := Lib.hid hkP
    have HJL : Hid (k < (ints .i64 (mixL P L2 k)).length) := Lib.hid (by rw [ints, List.length_map, hml]; exact hlt)
    have HFAR : Hid ((Value.slice A2 l.length c2).ownBlock ≠ some g) := Lib.hid (fun e => by
     have h1 := (Own.inside HW.out g e).1
     have h2 := (Own.inside O1.out g rfl).2
     omega)
    have k0 : (0 : Int) ≤ (k : Int) := by omega
    have k1 : (k : Int) < (l.length : Int) := by omega
    clear hx hR hml hkP
    rcases e3 : (x == 3) with _ | _
    ·have HV : Hid (L2.getD k 0 = x) := Lib.hid (by rw [hat, if_neg]; simp only [beq_eq_false_iff_ne] at e3; exact fun h => e3 h.1)
     clear hat
     go_wp2_with fail
     go_roundw
     case rel => exact ⟨k + 1, by omega, by go_num, by rw [← mix_stay HL2.out HKP.out (by rw [HV.out, HX.out])]; exact HO, HW, HB⟩
     case measure => simp [intOf]; omega
    ·obtain ⟨r, hr⟩ : ∃ r, lastStrong s (P.take k) = r := ⟨_, rfl⟩
     rw [hr] at hat
     have HC : Hid (Calls Try.prog 80 #[.slice A2 l.length c2, .int .i64 (k : Int), .int .i64 s] wr fun ed w' => ed = .returned (.int .i64 r) ∧ Below wr.heap.size wr w') := Lib.hid (by
      obtain ⟨A4, c4, hv4, hl4, -, -⟩ := HW.out.form
      rw [ints, List.length_map, HPL.out] at hv4
      injection hv4 with hA4 _ hc4
      subst hA4 hc4
      have := rstrong09_any A2 P c2 k s wr hl4 (by rw [HPL.out]; exact hl) (by rw [HPL.out]; exact hk)
      rw [HPL.out, HPP.out, HSS.out, hr] at this
      exact this)
     go_wp2_with fail
     refine HC.out.mono ?_
     rintro e w4 ⟨rfl, b4⟩
     have HO4 := Lib.hid (HO.out.below b4 (Nat.le_refl _))
     have HW4 := Lib.hid (HW.out.below b4 (Nat.le_refl _))
     have HR4 := Lib.hid (HR.out.below b4 (Nat.le_refl _))
     have HB4 := Lib.hid (HB.out.trans (b4.mono HB.out.size))
     clear b4 hr
     rcases er : (r == 0) with _ | _
     ·have HV : Hid (L2.getD k 0 = x) := Lib.hid (by rw [hat, if_neg]; simp only [beq_eq_false_iff_ne] at er; exact fun h => er h.2)
      clear hat
      go_wp2_with fail
      go_roundw
      case rel => exact ⟨k + 1, by omega, by go_num, by rw [← mix_stay HL2.out HKP.out (by rw [HV.out, HX.out])]; exact HO4, HW4, HB4⟩
      case measure => simp [intOf]; omega
     ·have HV : Hid (L2.getD k 0 = 0) := Lib.hid (by rw [hat, if_pos ⟨by simpa using e3, by simpa using er⟩])
      clear hat
      go_wp2_with (first
       | (refine store_row intsT w4 w.heap.size _ _ g k c1 .i64 0 (ints .i64 (mixL P L2 k)) w rfl rfl rfl rfl rfl HR4.out HJL.out HB4.out ?_; intro w5 r5 b5 g5; have R5 := Lib.hid r5; have B5 := Lib.hid b5; have W5 := Lib.hid (HW4.out.keepRow g5 HFAR.out); clear r5 b5 g5)
       | fail)
      go_roundw
      case rel => exact ⟨k + 1, by omega, by go_num, Lib.hid (by have := R5.out; rw [ints_set, ← HV.out, mix_put HL2.out HKP.out, row_own (by rw [mixL_all HL2.out, HPL.out])] at this; exact this), W5, B5⟩
      case measure => simp [intOf]; omega
   ·obtain rfl : k = l.length := by omega
    go_wp2
    go_ret
    exact ⟨_, rfl, by have := HO.out; rw [mixL_end HL2.out (by rw [HPL.out]; exact Nat.le_refl _)] at this; exact this, HB.out⟩
set_option maxHeartbeats 1000000 in
theorem rof09_any (A : Option Addr) (l : List Int) (c : Nat) (sos : Int) (w : World) (h : Lies w w.heap.size A (ints .i64 l)) (hl : l.length ≤ 1000000) :
 Calls Try.prog 43 #[.slice A l.length c, .int .i64 sos] w fun ed w' => Rowed w w.heap.size 3 (ints .i64 (ofI l sos)) ed w' := by
 have H := Lib.hid h
 clear h
 go_enter Try.func43, Try.ntmps43
 go_wp2_with fail
 refine (rplain09_any A l c w H.out hl).mono ?_
 rintro e w1 ⟨v1, rfl, o1, b1⟩
 have O0 : Hid (Own w1 w.heap.size 3 v1 (ints .i64 (stepsI (plainL l) sos 0))) := Lib.hid o1
 have B1 := Lib.hid b1
 clear o1 b1
 go_wp2_with fail
 go_loopw [6, 5] (fun nv ov wr => ∃ n : Nat, n ≤ 7 ∧ nv = .int .i64 ((n + 1 : Nat) : Int) ∧ Hid (Own wr w.heap.size 3 ov (ints .i64 (stepsI (plainL l) sos n))) ∧ Hid (Below w.heap.size w wr)) (fun nv _ _ => 8 - (intOf nv).toNat)
 case atStart => exact ⟨0, by omega, rfl, O0, B1⟩
 case round =>
  obtain ⟨n, hn, rfl, HO, HB⟩ := hrel
  by_cases hlt : n < 7
  ·obtain ⟨Ao, co, rfl, lo, -, -⟩ := HO.out.form
   have hsl : (stepsI (plainL l) sos n).length = l.length := by rw [stepsI_length, plainL, List.length_map]
   have HX : Hid (Calls Try.prog 56 #[.slice Ao l.length co, .int .i64 sos, .int .i64 ((n + 1 : Nat) : Int)] wr fun ed w' => Rowed wr wr.heap.size 3 (ints .i64 (stepsI (plainL l) sos (n + 1))) ed w') := Lib.hid (by
    have := rrule09_any Ao (stepsI (plainL l) sos n) co sos (n + 1) wr lo (by omega) (by omega) (by omega)
    rw [hsl] at this
    exact this)
   simp only [ints, List.length_map, hsl]
   have b1 : decide ((((n + 1 : Nat) : Int)) ≤ 7) = true := by simp; omega
   have b0 : (((n + 1 : Nat) : Int)) ≤ 7 := by omega
   have b2 : IntKind.i64.wrap (((n + 1 : Nat) : Int) + 1) = ((n + 1 + 1 : Nat) : Int) := by rw [IntWalk.i64_in _ (by omega)]; rfl
   clear lo hsl
   generalize hz : ((n + 1 : Nat) : Int) = z at *
   have HZ := Lib.hid hz
   clear hz
   go_wp2_with fail
   refine HX.out.mono ?_
   rintro e w2 ⟨v2, rfl, o2, b2'⟩
   have O2 := Lib.hid (o2.weaken HB.out.size)
   have B2 := Lib.hid (HB.out.trans (b2'.mono HB.out.size))
   clear o2 b2'
   go_wp2
   go_roundw
   case rel => exact ⟨n + 1, by omega, rfl, O2, B2⟩
   case measure => rw [← HZ.out]; simp [intOf]; omega
  ·obtain rfl : n = 7 := by omega
   go_wp2
   go_ret
   exact ⟨_, rfl, by have := HO.out; rw [show stepsI (plainL l) sos 7 = ofI (plainL l) sos from rfl, ofI_plain] at this; exact this, HB.out⟩
end Go.Proofs.Ytadfleopbpomfaa
namespace Go.Proofs.Ytadfleopbpomfaa
open Go.RowKit Reckon
theorem listOf_zero (n : Nat) : List.replicate n (Value.int .i64 0) = ints .i64 (listOf n (fun _ => 0)) := by
 rw [ints, listOf, List.map_map]
 apply List.ext_getElem
 ·simp
 ·intro i h1 h2; simp
theorem fill_minus (k : Nat) : upd (fun j => if j < k then -1 else 0) k (-1) = fun j => if j < k + 1 then -1 else 0 := by
 funext j
 simp only [upd]
 by_cases h : j = k
 ·rw [if_pos h, if_pos (by omega)]
 ·rw [if_neg h]
  by_cases h' : j < k
  ·rw [if_pos h', if_pos (by omega)]
  ·rw [if_neg h', if_neg (by omega)]
set_option maxRecDepth 20000 in
set_option maxHeartbeats 4000000 in
theorem rmatch_any (A : Option Addr) (l : List Int) (c : Nat) (w : World) (h : Lies w w.heap.size A (ints .i64 l)) (hl : l.length ≤ 1000000) :
 Calls Try.prog 52 #[.slice A l.length c] w (Rowed w w.heap.size 3 (ints .i64 (mt l))) := by
 have H := Lib.hid h
 clear h
 go_enter Try.func52, Try.ntmps52
 go_wp2_with (first
  | (refine make_row intsT w w w.heap.size _ _ .i64 .i64 l.length rfl rfl rfl rfl rfl (Below.refl _ _) (Nat.le_refl _) (by omega) (by unfold maxLen; omega) ?_; intro w2 r2 b2 g2)
  | fail)
 rw [listOf_zero] at r2
 have R2 := Lib.hid r2
 have B2 := Lib.hid b2
 clear r2 b2 g2
 go_wp2
 go_loopw [4] (fun iv wr => ∃ (k : Nat), k ≤ l.length ∧ iv = .int .i64 k ∧ Row wr w.heap.size 3 w.heap.size l.length (ints .i64 (listOf l.length (fun j => if j < k then -1 else 0))) ∧ Below w.heap.size w wr) (fun iv _ => l.length - (intOf iv).toNat)
 case atStart => exact ⟨0, by omega, rfl, R2.out, B2.out⟩
 case round =>
  obtain ⟨k, hk, rfl, hr, hb⟩ := hrel
  have HR := Lib.hid hr
  have HB := Lib.hid hb
  clear hr hb
  by_cases hlt : k < l.length
  ·have b0 : (0 : Int) ≤ (k : Int) := by omega
   have b1 : (k : Int) < (l.length : Int) := by omega
   go_wp2_with (first
    | (refine store_row intsT wr w.heap.size _ _ w.heap.size k l.length .i64 (-1) _ w rfl rfl rfl rfl rfl HR.out (by simpa using hlt) HB.out ?_; intro w5 r5 b5 g5; rw [ints_set, listOf_set, fill_minus] at r5; have R5 := Lib.hid r5; have B5 := Lib.hid b5; clear r5 b5 g5)
    | fail)
   go_roundw
   case rel => exact ⟨k + 1, by omega, by go_num, R5.out, B5.out⟩
   case measure => simp [intOf]; omega
  ·have hz : listOf l.length (fun j => if j < k then -1 else 0) = listOf l.length (rrun l 0) := by
    apply List.map_congr_left
    intro j hj
    have : j < l.length := by simpa using hj
    rw [if_pos (by omega)]; rfl
   have HR1 : Hid (Row wr w.heap.size 3 w.heap.size l.length (ints .i64 (listOf l.length (rrun l 0)))) := Lib.hid (by rw [← hz]; exact HR.out)
   clear hz HR
   go_wp2
   go_loopw [5] (fun iv wr => ∃ (k : Nat), k ≤ l.length ∧ iv = .int .i64 k ∧ Row wr w.heap.size 3 w.heap.size l.length (ints .i64 (listOf l.length (rrun l k))) ∧ Below w.heap.size w wr) (fun iv _ => l.length - (intOf iv).toNat)
   case atStart => exact ⟨0, by omega, rfl, HR1.out, HB.out⟩
   case round =>
    clear HB HR1 hlt hk
    obtain ⟨k, hk, rfl, hr, hb⟩ := hrel
    have HR := Lib.hid hr
    have HB := Lib.hid hb
    clear hr hb
    by_cases hlt : k < l.length
    ·obtain ⟨p, rfl, hpb, hc⟩ := (H.out.below HB.out).int hlt
     have b0 : (0 : Int) ≤ (k : Int) := by omega
     have b1 : (k : Int) < (l.length : Int) := by omega
     have HRR : Hid (rrun l (k + 1) = if isOpens l[k] then (if 0 ≤ endOf l k then upd (upd (rrun l k) k (endOf l k)) (endOf l k).toNat k else upd (rrun l k) k (endOf l k)) else rrun l k) := Lib.hid (by rw [rrun, at0_eq hlt])
     obtain ⟨x, hx⟩ : ∃ x, l[k] = x := ⟨_, rfl⟩
     rw [hx] at hc HRR
     obtain ⟨f, hf⟩ : ∃ f, rrun l k = f := ⟨_, rfl⟩
     rw [hf] at HR HRR
     clear hx hf
     rcases ho : isOpens x with _ | _
     ·have HO := Lib.hid ho
      have HM := HRR.out
      rw [if_neg (by rw [ho]; simp)] at HM
      have HM := Lib.hid HM
      clear ho HRR
      go_wp2_with fail
      refine (ropens_any x _).mono ?_
      rintro e wq ⟨rfl, rfl⟩
      rw [HO.out]
      go_wp2_with fail
      go_roundw
      case rel => exact ⟨k + 1, by omega, by go_num, by rw [HM.out]; exact HR.out, HB.out⟩
      case measure => simp [intOf]; omega
     ·have HO := Lib.hid ho
      have hj := first_jump l k 0
      have HE := Lib.hid (rend_any (some p) l c k wr ((H.out.below HB.out).wider HB.out.size) hl hlt)
      have HM := HRR.out
      rw [if_pos ho] at HM
      obtain ⟨ee, hee⟩ : ∃ ee, endOf l k = ee := ⟨_, rfl⟩
      rw [hee] at HE HM hj
      clear hee ho HRR
      rcases hj with ⟨rfl, _⟩ | ⟨e, rfl, he1, he2, _⟩
      ·rw [if_neg (by omega)] at HM
       have HM := Lib.hid HM
       go_wp2_with fail
       refine (ropens_any x _).mono ?_
       rintro e wq ⟨rfl, rfl⟩
       rw [HO.out]
       go_wp2_with fail
       refine (HE.out).mono ?_
       rintro e w3 ⟨rfl, b3⟩
       have B3 := Lib.hid (HB.out.trans (b3.mono HB.out.size))
       have D3 := Lib.hid b3
       clear b3
       have R3 := Lib.hid (HR.out.below D3.out (Nat.le_refl _))
       go_wp2_with (first
        | (refine store_row intsT w3 w.heap.size _ _ w.heap.size k l.length .i64 (-1) _ w rfl rfl rfl rfl rfl R3.out (by simpa using hlt) B3.out ?_; intro w5 r5 b5 g5; rw [ints_set, listOf_set] at r5; have R5 := Lib.hid r5; have B5 := Lib.hid b5; clear r5 b5 g5)
        | fail)
       go_roundw
       case rel => exact ⟨k + 1, by omega, by go_num, by rw [HM.out]; exact R5.out, B5.out⟩
       case measure => simp [intOf]; omega
      ·rw [if_pos (by omega), Int.toNat_natCast] at HM
       have HM := Lib.hid HM
       have b2 : (0 : Int) ≤ (e : Int) := by omega
       have b3 : (e : Int) < (l.length : Int) := by omega
       have hge : decide ((e : Int) ≥ 0) = true := by simp
       go_wp2_with fail
       refine (ropens_any x _).mono ?_
       rintro e wq ⟨rfl, rfl⟩
       rw [HO.out]
       go_wp2_with fail
       refine (HE.out).mono ?_
       rintro e w3 ⟨rfl, b3⟩
       have B3 := Lib.hid (HB.out.trans (b3.mono HB.out.size))
       have D3 := Lib.hid b3
       clear b3
       have R3 := Lib.hid (HR.out.below D3.out (Nat.le_refl _))
       go_wp2_with (first
        | (refine store_row intsT w3 w.heap.size _ _ w.heap.size k l.length .i64 e _ w rfl rfl rfl rfl rfl R3.out (by simpa using hlt) B3.out ?_; intro w5 r5 b5 g5; rw [ints_set, listOf_set] at r5; have R5 := Lib.hid r5; have B5 := Lib.hid b5; clear r5 b5 g5)
        | (refine store_row intsT w5 w.heap.size _ _ w.heap.size e l.length .i64 k _ w rfl rfl rfl rfl rfl R5.out (by simpa using he2) B5.out ?_; intro w6 r6 b6 g6; rw [ints_set, listOf_set] at r6; have R6 := Lib.hid r6; have B6 := Lib.hid b6; clear r6 b6 g6)
        | fail)
       go_roundw
       case rel => exact ⟨k + 1, by omega, by go_num, by rw [HM.out]; exact R6.out, B6.out⟩
       case measure => simp [intOf]; omega
    ·obtain rfl : k = l.length := by omega
     rw [rrun_mt] at HR
     go_wp2
     go_ret
     refine rowed_ret (HR.out.own ?_) HB.out rfl
     simp [mt]
end Go.Proofs.Ytadfleopbpomfaa
