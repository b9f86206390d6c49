/- Shared texts, shaken for one claim. -/
import Derived.Test.YtcbaahlahohfmaaGreatDoorZA6
import Derived.Test.YtcbaahlahohfmaaGreatDoorZA30
import Derived.Test.YtcbaahlahohfmaaGreatDoorZA35
namespace Go.Proofs.YtcbaahlahohfmaaGreatDoor
open Go.RowKit
set_option maxHeartbeats 1000000 in
theorem rplain09_any (A : Option Addr) (l : List Int) (c : Nat) (w : World) (h : Lies w w.heap.size A (ints .i64 l)) (hl : l.length ≤ 1000000) :
 Calls Tryz.prog 66 #[.slice A l.length c] w fun ed w' => Rowed w w.heap.size 3 (ints .i64 (plainL l)) ed w' := by
 have H := Lib.hid h
 clear h
 go_enter Tryz.func66, Tryz.ntmps66
 go_wp2
 go_loopw [4, 3] (fun iv ov wr => ∃ k : Nat, k ≤ l.length ∧ iv = .int .i64 k ∧ Own wr w.heap.size 3 ov (ints .i64 (plainL (l.take k))) ∧ Below w.heap.size w wr) (fun iv _ _ => l.length - (intOf iv).toNat)
 case atStart => exact ⟨0, by omega, rfl, Own.empty _ _ _, Below.refl _ _⟩
 case round =>
  obtain ⟨k, hk, rfl, ho, hb⟩ := hrel
  have HO := Lib.hid ho
  have HB := Lib.hid hb
  clear ho hb
  by_cases hlt : k < l.length
  ·obtain ⟨p, rfl, _, hcl⟩ := (H.out.below HB.out).int hlt
   obtain ⟨x, hx⟩ : ∃ x, l[k] = x := ⟨_, rfl⟩
   have HS : Hid (plainL (l.take (k + 1)) = plainL (l.take k) ++ [plainK x]) := Lib.hid (by rw [take_snoc l k hlt, hx, plainL, List.map_append]; rfl)
   rw [hx] at hcl
   have b0 : (0 : Int) ≤ (k : Int) := by omega
   have b1 : (k : Int) < (l.length : Int) := by omega
   have hw := wordOf_isEmpty x
   clear hx
   by_cases h0 : x < 0 ∨ 22 < x
   ·rw [decide_eq_true h0] at hw
    have HV : Hid (plainK x = 0) := Lib.hid (by rw [plainK, if_neg (by omega)])
    clear h0
    go_wp2_with fail
    refine (rword_any x wr).mono ?_
    rintro e w1 ⟨rfl, b1'⟩
    have O1 := Lib.hid (HO.out.below b1' (Nat.le_refl _))
    have B1 := Lib.hid (HB.out.trans (b1'.mono HB.out.size))
    have hcl1 : w1.cell? (p.add k) = some (.int .i64 x) := by rw [b1'.cell (World.block_lt_of_cell? wr _ hcl)]; exact hcl
    clear b1' hcl
    go_wp2_with (first
     | (at_builtin; refine app_lit intsT w w1 w.heap.size _ _ #[.int .i64 0] 1 _ _ rfl rfl rfl rfl O1.out (by simp [Value.oneCell']) B1.out B1.out.size (by unfold maxLen; simp [ints, plainL]; omega) (by simp [ints, plainL]; omega) ?_; intro v2 w2 o2 b2 _ _; have O2 := Lib.hid o2; have B2 := Lib.hid b2; clear o2 b2)
     | fail)
    go_roundw
    case rel => exact ⟨k + 1, by omega, by go_num, by rw [HS.out, HV.out]; simpa [ints] using O2.out, B2.out⟩
    case measure => simp [intOf]; omega
   ·rw [decide_eq_false h0] at hw
    have HV : Hid (plainK x = x) := Lib.hid (by rw [plainK, if_pos (by omega)])
    clear h0
    go_wp2_with fail
    refine (rword_any x wr).mono ?_
    rintro e w1 ⟨rfl, b1'⟩
    have O1 := Lib.hid (HO.out.below b1' (Nat.le_refl _))
    have B1 := Lib.hid (HB.out.trans (b1'.mono HB.out.size))
    have hcl1 : w1.cell? (p.add k) = some (.int .i64 x) := by rw [b1'.cell (World.block_lt_of_cell? wr _ hcl)]; exact hcl
    clear b1' hcl
    go_wp2_with (first
     | (at_builtin; refine app_lit intsT w w1 w.heap.size _ _ #[.int .i64 x] 1 _ _ rfl rfl rfl rfl O1.out (by simp [Value.oneCell']) B1.out B1.out.size (by unfold maxLen; simp [ints, plainL]; omega) (by simp [ints, plainL]; omega) ?_; intro v2 w2 o2 b2 _ _; have O2 := Lib.hid o2; have B2 := Lib.hid b2; clear o2 b2)
     | fail)
    go_roundw
    case rel => exact ⟨k + 1, by omega, by go_num, by rw [HS.out, HV.out]; simpa [ints] using O2.out, B2.out⟩
    case measure => simp [intOf]; omega
  ·obtain rfl : k = l.length := by omega
   go_wp2
   go_ret
   exact ⟨_, rfl, by have := HO.out; rw [List.take_length] at this; exact this, HB.out⟩
set_option maxHeartbeats 2000000 in
theorem rstrong09_any (A : Option Addr) (l : List Int) (c : Nat) (k : Nat) (sos : Int) (w : World) (h : Lies w w.heap.size A (ints .i64 l)) (hl : l.length ≤ 1000000) (hk : k ≤ l.length) :
 Calls Tryz.prog 117 #[.slice A l.length c, .int .i64 (k : Int), .int .i64 sos] w fun ed w' => ed = .returned (.int .i64 (lastStrong (sideK sos) ((plainL l).take k))) ∧ Below w.heap.size w w' := by
 have H := Lib.hid h
 clear h
 obtain ⟨P, hP⟩ : ∃ P, plainL l = P := ⟨_, rfl⟩
 have hPL : P.length = l.length := by rw [← hP, plainL, List.length_map]
 have HP := Lib.hid hP
 have HPL := Lib.hid hPL
 rw [hP]
 obtain ⟨r, hr⟩ : ∃ r, lastStrong (sideK sos) (P.take k) = r := ⟨_, rfl⟩
 rw [hr]
 have HRr := Lib.hid hr
 have d0 : decide ((l.length : Int) < (k : Int)) = false := by simp; omega
 have d0' : decide (l.length < k) = false := by simp; omega
 have hw0 : IntKind.i64.wrap ((k : Int) - 1) = (k : Int) - 1 := IntWalk.i64_in _ (by omega)
 clear hP hPL hr
 go_enter Tryz.func117, Tryz.ntmps117
 go_wp2_with fail
 refine (rplain09_any A l c w H.out hl).mono ?_
 rintro e w1 ⟨v1, rfl, o1, b1⟩
 rw [HP.out] at o1
 obtain ⟨A1, c1, hv1, l1, -, -⟩ := o1.form
 rw [ints, List.length_map, HPL.out] at hv1
 subst hv1
 have L1 := Lib.hid l1
 have B1 := Lib.hid b1
 clear o1 b1 l1
 go_wp2_with fail
 go_loopw [7] (fun jv wr => ∃ j : Nat, j ≤ k ∧ jv = .int .i64 ((j : Int) - 1) ∧ Hid (lastStrong (sideK sos) (P.take j) = r) ∧ w1 = wr) (fun jv _ => (intOf jv + 1).toNat)
 case atStart => exact ⟨k, by omega, rfl, HRr, rfl⟩
 case round =>
  obtain ⟨j, hj, rfl, HJ, rfl⟩ := hrel
  rcases j with _ | j
  ·have HZ : Hid (sideK sos = r) := Lib.hid (by have := HJ.out; simpa [lastStrong] using this)
   have hneg : ¬ (0 : Int) ≤ ((0 : Nat) : Int) - 1 := by decide
   go_wp2_with fail
   refine (rside09_any sos w1).mono ?_
   rintro e wq ⟨rfl, rfl⟩
   rw [HZ.out]
   go_wp2
   go_ret
   exact ⟨rfl, B1.out⟩
  ·have hjP : j < P.length := by rw [HPL.out]; omega
   have hz1 : (((j + 1 : Nat) : Int)) - 1 = (j : Int) := by omega
   rw [hz1]
   obtain ⟨p, rfl, _, hcx⟩ := L1.out.int hjP
   obtain ⟨x, hx⟩ : ∃ x, P[j] = x := ⟨_, rfl⟩
   rw [hx] at hcx
   have HS : Hid ((if isStrong x then x else lastStrong (sideK sos) (P.take j)) = r) := Lib.hid (by have := HJ.out; rw [strong_step _ _ hjP, hx] at this; exact this)
   have c0 : (0 : Int) ≤ (j : Int) := by omega
   have c1' : (j : Int) < (l.length : Int) := by omega
   have hww : IntKind.i64.wrap ((j : Int) - 1) = (j : Int) - 1 := by rw [IntWalk.i64_in _ (by omega)]
   clear hx hz1 hjP
   rcases hs : isStrong x with _ | _
   ·have HQ := Lib.hid hs
    have HN : Hid (lastStrong (sideK sos) (P.take j) = r) := Lib.hid (by have := HS.out; rw [hs, if_neg (by simp)] at this; exact this)
    clear hs
    go_wp2_with fail
    refine (rstrong_any x w1).mono ?_
    rintro e wq ⟨rfl, rfl⟩
    rw [HQ.out]
    go_wp2_with fail
    go_roundw
    case rel => exact ⟨j, by omega, rfl, HN, by first | rfl | trivial⟩
    case measure => simp [intOf]
   ·have HQ := Lib.hid hs
    have HN : Hid (x = r) := Lib.hid (by have := HS.out; rw [hs, if_pos rfl] at this; exact this)
    clear hs
    go_wp2_with fail
    refine (rstrong_any x w1).mono ?_
    rintro e wq ⟨rfl, rfl⟩
    rw [HQ.out]
    go_wp2_with fail
    go_ret
    exact ⟨ret_int HN.out, B1.out⟩
end Go.Proofs.YtcbaahlahohfmaaGreatDoor
namespace Go.Proofs.YtcbaahlahohfmaaGreatDoor
open Go.RowKit
set_option maxRecDepth 20000 in
set_option maxHeartbeats 8000000 in
theorem rrule09_any (A : Option Addr) (l : List Int) (c : Nat) (sos : Int) (n : Nat) (w : World) (h : Lies w w.heap.size A (ints .i64 l)) (hl : l.length ≤ 1000000) (h1 : 1 ≤ n) (h7 : n ≤ 7) :
 Calls Tryz.prog 67 #[.slice A l.length c, .int .i64 sos, .int .i64 (n : Int)] w fun ed w' => Rowed w w.heap.size 3 (ints .i64 (ruleI l sos n)) ed w' := by
 have H := Lib.hid h
 obtain ⟨P, hP⟩ : ∃ P, plainL l = P := ⟨_, rfl⟩
 obtain ⟨s, hs⟩ : ∃ s, sideK sos = s := ⟨_, rfl⟩
 have hs01 : s = 0 ∨ s = 1 := hs ▸ sideK_two sos
 have HPL : Hid (P.length = l.length) := Lib.hid (by rw [← hP, plainL, List.length_map])
 have HPP : Hid (plainL P = P) := Lib.hid (by rw [← hP]; exact plainL_of (plainL_free l))
 have HSS : Hid (sideK s = s) := Lib.hid (by rcases hs01 with rfl | rfl <;> rfl)
 have HP := Lib.hid hP
 have HS := Lib.hid hs
 rw [ruleI, hP, hs]
 obtain ⟨L2, hL2⟩ : ∃ x, rulePlain P s n = x := ⟨_, rfl⟩
 rw [hL2]
 have HS01 := Lib.hid hs01
 clear h hP hs hs01
 have hn : n = 1 ∨ n = 2 ∨ n = 3 ∨ n = 4 ∨ n = 5 ∨ n = 6 ∨ n = 7 := by omega
 clear h1 h7
 rcases hn with rfl | rfl | rfl | rfl | rfl | rfl | rfl
 ·have HR2 : Hid (rulePlain P s 1 = L2) := Lib.hid hL2
  clear hL2
  go_enter Tryz.func67, Tryz.ntmps67
  go_wp2_with fail
  refine (rplain09_any A l c w H.out hl).mono ?_
  rintro e w1 ⟨v1, rfl, o1, b1⟩
  rw [HP.out] at o1
  obtain ⟨A1, c1, hv1, -, -, -⟩ := o1.form
  rw [ints, List.length_map, HPL.out] at hv1
  subst hv1
  have O1 := Lib.hid o1
  have B1 := Lib.hid b1
  have H1 := Lib.hid (H.out.up b1)
  clear o1 b1
  go_wp2_with fail
  refine (rside09_any sos w1).mono ?_
  rintro e wq ⟨rfl, rfl⟩
  rw [HS.out]
  go_wp2_with fail
  refine (rplain09_any A l c w1 H1.out hl).mono ?_
  rintro e w2 ⟨v2, rfl, o2, b2⟩
  rw [HP.out] at o2
  obtain ⟨A2, c2, hv2, -, -, -⟩ := o2.form
  rw [ints, List.length_map, HPL.out] at hv2
  subst hv2
  have O2 := Lib.hid o2
  have O1' := Lib.hid (O1.out.below b2 (Nat.le_refl _))
  have B2 := Lib.hid (below_then B1.out b2)
  clear o2 b2
  have HC : Hid (Calls Tryz.prog 114 #[.slice A1 l.length c1, .int .i64 s] w2 fun ed w' => ed = .returned (.tuple #[]) ∧ Own w' w.heap.size 3 (.slice A1 l.length c1) (ints .i64 L2) ∧ Below w.heap.size w2 w') := Lib.hid (by
   have h := rmarks09_any s HS01.out w.heap.size c1 A1 P w2 (by rw [HPL.out]; exact hl) B2.out.size (by rw [HPL.out]; exact O1'.out)
   rw [HPL.out] at h
   rw [← HR2.out]
   exact h)
  go_wp2_with fail
  refine HC.out.mono ?_
  rintro e w3 ⟨rfl, o3, b3⟩
  have O3 := Lib.hid o3
  have B3 : Hid (Below w.heap.size w w3) := Lib.hid (B2.out.trans b3)
  clear o3 b3
  go_wp2_with fail
  go_loopw [9] (fun iv wr => ∃ k : Nat, k ≤ l.length ∧ iv = .int .i64 k ∧ w3 = wr) (fun iv _ => l.length - (intOf iv).toNat)
  case atStart => exact ⟨0, by omega, rfl, rfl⟩
  case round =>
   obtain ⟨k, hk, rfl, rfl⟩ := hrel
   by_cases hlt : k < l.length
   ·have k1 : (k : Int) < (l.length : Int) := by omega
    go_wp2_with fail
    go_roundw
    case rel => exact ⟨k + 1, by omega, by go_num, by first | rfl | trivial⟩
    case measure => simp [intOf]; omega
   ·obtain rfl : k = l.length := by omega
    go_wp2
    go_ret
    exact ⟨_, rfl, O3.out, B3.out⟩
 ·have HR2 : Hid (rulePlain P s 2 = L2) := Lib.hid hL2
  clear hL2
  go_enter Tryz.func67, Tryz.ntmps67
  go_wp2_with fail
  refine (rplain09_any A l c w H.out hl).mono ?_
  rintro e w1 ⟨v1, rfl, o1, b1⟩
  rw [HP.out] at o1
  obtain ⟨A1, c1, hv1, -, -, -⟩ := o1.form
  rw [ints, List.length_map, HPL.out] at hv1
  subst hv1
  have O1 := Lib.hid o1
  have B1 := Lib.hid b1
  have H1 := Lib.hid (H.out.up b1)
  clear o1 b1
  go_wp2_with fail
  refine (rside09_any sos w1).mono ?_
  rintro e wq ⟨rfl, rfl⟩
  rw [HS.out]
  go_wp2_with fail
  refine (rplain09_any A l c w1 H1.out hl).mono ?_
  rintro e w2 ⟨v2, rfl, o2, b2⟩
  rw [HP.out] at o2
  obtain ⟨A2, c2, hv2, -, -, -⟩ := o2.form
  rw [ints, List.length_map, HPL.out] at hv2
  subst hv2
  have O2 := Lib.hid o2
  have O1' := Lib.hid (O1.out.below b2 (Nat.le_refl _))
  have B2 := Lib.hid (below_then B1.out b2)
  clear o2 b2
  have HL2 : Hid (L2.length = P.length) := Lib.hid (by rw [← HR2.out, rulePlain_length])
  have HAT : Hid (∀ k, k < P.length → L2.getD k 0 = (if P.getD k 0 = 3 ∧ lastStrong s (P.take k) = 2 then 6 else P.getD k 0)) := Lib.hid fun k hk => by rw [← HR2.out]; exact (wS_at 2 6 s P k hk).symm
  have O0 : Hid (Own w2 w.heap.size 3 (.slice A1 l.length c1) (ints .i64 (mixL P L2 0))) := Lib.hid (by rw [mixL_zero]; exact O1'.out)
  go_wp2_with fail
  go_loopw [9] (fun iv wr => ∃ k : Nat, k ≤ l.length ∧ iv = .int .i64 k ∧ Hid (Own wr w.heap.size 3 (.slice A1 l.length c1) (ints .i64 (mixL P L2 k))) ∧ Hid (Own wr w1.heap.size 3 (.slice A2 l.length c2) (ints .i64 P)) ∧ Hid (Below w.heap.size w wr)) (fun iv _ => l.length - (intOf iv).toNat)
  case atStart => exact ⟨0, by omega, rfl, O0, O2, B2⟩
  case round =>
   obtain ⟨k, hk, rfl, HO, HW, HB⟩ := hrel
   by_cases hlt : k < l.length
   ·have hkP : k < P.length := by rw [HPL.out]; exact hlt
    have hml : (mixL P L2 k).length = l.length := by rw [mixL_all HL2.out k, HPL.out]
    obtain ⟨g, c3, hv, hR⟩ := HO.out.inRow (by rw [ints, List.length_map, hml]; omega)
    injection hv with hA hx3 hc3
    clear hx3
    subst hA hc3
    obtain ⟨x, hx⟩ : ∃ x, P.getD k 0 = x := ⟨_, rfl⟩
    have hc : wr.cell? ⟨g, k, none⟩ = some (.int .i64 x) := row_int hR (by rw [mix_at HL2.out (by omega) (Nat.le_refl _), List.getElem?_eq_getElem hkP, ← getD_at hkP, hx])
    have hat := HAT.out k hkP
    rw [hx] at hat
    have HX := Lib.hid hx
    have HR := Lib.hid hR
    have HKP := Lib.hid hkP
    have HJL : Hid (k < (ints .i64 (mixL P L2 k)).length) := Lib.hid (by rw [ints, List.length_map, hml]; exact hlt)
    have HFAR : Hid ((Value.slice A2 l.length c2).ownBlock ≠ some g) := Lib.hid (fun e => by
     have h1 := (Own.inside HW.out g e).1
     have h2 := (Own.inside O1.out g rfl).2
     omega)
    have k0 : (0 : Int) ≤ (k : Int) := by omega
    have k1 : (k : Int) < (l.length : Int) := by omega
    clear hx hR hml hkP
    rcases e3 : (x == 3) with _ | _
    ·have HV : Hid (L2.getD k 0 = x) := Lib.hid (by rw [hat, if_neg]; simp only [beq_eq_false_iff_ne] at e3; exact fun h => e3 h.1)
     clear hat
     go_wp2_with fail
     go_roundw
     case rel => exact ⟨k + 1, by omega, by go_num, by rw [← mix_stay HL2.out HKP.out (by rw [HV.out, HX.out])]; exact HO, HW, HB⟩
     case measure => simp [intOf]; omega
    ·obtain ⟨r, hr⟩ : ∃ r, lastStrong s (P.take k) = r := ⟨_, rfl⟩
     rw [hr] at hat
     have HC : Hid (Calls Tryz.prog 117 #[.slice A2 l.length c2, .int .i64 (k : Int), .int .i64 s] wr fun ed w' => ed = .returned (.int .i64 r) ∧ Below wr.heap.size wr w') := Lib.hid (by
      obtain ⟨A4, c4, hv4, hl4, -, -⟩ := HW.out.form
      rw [ints, List.length_map, HPL.out] at hv4
      injection hv4 with hA4 _ hc4
      subst hA4 hc4
      have := rstrong09_any A2 P c2 k s wr hl4 (by rw [HPL.out]; exact hl) (by rw [HPL.out]; exact hk)
      rw [HPL.out, HPP.out, HSS.out, hr] at this
      exact this)
     go_wp2_with fail
     refine HC.out.mono ?_
     rintro e w4 ⟨rfl, b4⟩
     have HO4 := Lib.hid (HO.out.below b4 (Nat.le_refl _))
     have HW4 := Lib.hid (HW.out.below b4 (Nat.le_refl _))
     have HR4 := Lib.hid (HR.out.below b4 (Nat.le_refl _))
     have HB4 := Lib.hid (HB.out.trans (b4.mono HB.out.size))
     clear b4 hr
     rcases er : (r == 2) with _ | _
     ·have HV : Hid (L2.getD k 0 = x) := Lib.hid (by rw [hat, if_neg]; simp only [beq_eq_false_iff_ne] at er; exact fun h => er h.2)
      clear hat
      go_wp2_with fail
      go_roundw
      case rel => exact ⟨k + 1, by omega, by go_num, by rw [← mix_stay HL2.out HKP.out (by rw [HV.out, HX.out])]; exact HO4, HW4, HB4⟩
      case measure => simp [intOf]; omega
     ·have HV : Hid (L2.getD k 0 = 6) := Lib.hid (by rw [hat, if_pos ⟨by simpa using e3, by simpa using er⟩])
      clear hat
      go_wp2_with (first
       | (refine store_row intsT w4 w.heap.size _ _ g k c1 .i64 6 (ints .i64 (mixL P L2 k)) w rfl rfl rfl rfl rfl HR4.out HJL.out HB4.out ?_; intro w5 r5 b5 g5; have R5 := Lib.hid r5; have B5 := Lib.hid b5; have W5 := Lib.hid (HW4.out.keepRow g5 HFAR.out); clear r5 b5 g5)
       | fail)
      go_roundw
      case rel => exact ⟨k + 1, by omega, by go_num, Lib.hid (by have := R5.out; rw [ints_set, ← HV.out, mix_put HL2.out HKP.out, row_own (by rw [mixL_all HL2.out, HPL.out])] at this; exact this), W5, B5⟩
      case measure => simp [intOf]; omega
   ·obtain rfl : k = l.length := by omega
    go_wp2
    go_ret
    exact ⟨_, rfl, by have := HO.out; rw [mixL_end HL2.out (by rw [HPL.out]; exact Nat.le_refl _)] at this; exact this, HB.out⟩
 ·have HR2 : Hid (rulePlain P s 3 = L2) := Lib.hid hL2
  clear hL2
  go_enter Tryz.func67, Tryz.ntmps67
  go_wp2_with fail
  refine (rplain09_any A l c w H.out hl).mono ?_
  rintro e w1 ⟨v1, rfl, o1, b1⟩
  rw [HP.out] at o1
  obtain ⟨A1, c1, hv1, -, -, -⟩ := o1.form
  rw [ints, List.length_map, HPL.out] at hv1
  subst hv1
  have O1 := Lib.hid o1
  have B1 := Lib.hid b1
  have H1 := Lib.hid (H.out.up b1)
  clear o1 b1
  go_wp2_with fail
  refine (rside09_any sos w1).mono ?_
  rintro e wq ⟨rfl, rfl⟩
  rw [HS.out]
  go_wp2_with fail
  refine (rplain09_any A l c w1 H1.out hl).mono ?_
  rintro e w2 ⟨v2, rfl, o2, b2⟩
  rw [HP.out] at o2
  obtain ⟨A2, c2, hv2, -, -, -⟩ := o2.form
  rw [ints, List.length_map, HPL.out] at hv2
  subst hv2
  have O2 := Lib.hid o2
  have O1' := Lib.hid (O1.out.below b2 (Nat.le_refl _))
  have B2 := Lib.hid (below_then B1.out b2)
  clear o2 b2
  have HL2 : Hid (L2.length = P.length) := Lib.hid (by rw [← HR2.out, rulePlain_length])
  have HAT : Hid (∀ k, k < P.length → L2.getD k 0 = (if P.getD k 0 = 2 then 1 else P.getD k 0)) := Lib.hid fun k hk => by rw [← HR2.out]; exact (map_at (fun k => if k = 2 then 1 else k) hk).symm
  have O0 : Hid (Own w2 w.heap.size 3 (.slice A1 l.length c1) (ints .i64 (mixL P L2 0))) := Lib.hid (by rw [mixL_zero]; exact O1'.out)
  go_wp2_with fail
  go_loopw [9] (fun iv wr => ∃ k : Nat, k ≤ l.length ∧ iv = .int .i64 k ∧ Hid (Own wr w.heap.size 3 (.slice A1 l.length c1) (ints .i64 (mixL P L2 k))) ∧ Hid (Own wr w1.heap.size 3 (.slice A2 l.length c2) (ints .i64 P)) ∧ Hid (Below w.heap.size w wr)) (fun iv _ => l.length - (intOf iv).toNat)
  case atStart => exact ⟨0, by omega, rfl, O0, O2, B2⟩
  case round =>
   obtain ⟨k, hk, rfl, HO, HW, HB⟩ := hrel
   by_cases hlt : k < l.length
   ·have hkP : k < P.length := by rw [HPL.out]; exact hlt
    have hml : (mixL P L2 k).length = l.length := by rw [mixL_all HL2.out k, HPL.out]
    obtain ⟨g, c3, hv, hR⟩ := HO.out.inRow (by rw [ints, List.length_map, hml]; omega)
    injection hv with hA hx3 hc3
    clear hx3
    subst hA hc3
    obtain ⟨x, hx⟩ : ∃ x, P.getD k 0 = x := ⟨_, rfl⟩
    have hc : wr.cell? ⟨g, k, none⟩ = some (.int .i64 x) := row_int hR (by rw [mix_at HL2.out (by omega) (Nat.le_refl _), List.getElem?_eq_getElem hkP, ← getD_at hkP, hx])
    have hat := HAT.out k hkP
    rw [hx] at hat
    have HX := Lib.hid hx
    have HR := Lib.hid hR
    have HKP := Lib.hid hkP
    have HJL : Hid (k < (ints .i64 (mixL P L2 k)).length) := Lib.hid (by rw [ints, List.length_map, hml]; exact hlt)
    have HFAR : Hid ((Value.slice A2 l.length c2).ownBlock ≠ some g) := Lib.hid (fun e => by
     have h1 := (Own.inside HW.out g e).1
     have h2 := (Own.inside O1.out g rfl).2
     omega)
    have k0 : (0 : Int) ≤ (k : Int) := by omega
    have k1 : (k : Int) < (l.length : Int) := by omega
    clear hx hR hml hkP
    rcases e2 : (x == 2) with _ | _
    ·have HV : Hid (L2.getD k 0 = x) := Lib.hid (by rw [hat, if_neg (by simpa using e2)])
     clear hat
     go_wp2_with fail
     go_roundw
     case rel => exact ⟨k + 1, by omega, by go_num, by rw [← mix_stay HL2.out HKP.out (by rw [HV.out, HX.out])]; exact HO, HW, HB⟩
     case measure => simp [intOf]; omega
    ·have HV : Hid (L2.getD k 0 = 1) := Lib.hid (by rw [hat, if_pos (by simpa using e2)])
     clear hat
     go_wp2_with (first
      | (refine store_row intsT wr w.heap.size _ _ g k c1 .i64 1 (ints .i64 (mixL P L2 k)) w rfl rfl rfl rfl rfl HR.out HJL.out HB.out ?_; intro w5 r5 b5 g5; have R5 := Lib.hid r5; have B5 := Lib.hid b5; have W5 := Lib.hid (HW.out.keepRow g5 HFAR.out); clear r5 b5 g5)
      | fail)
     go_roundw
     case rel => exact ⟨k + 1, by omega, by go_num, Lib.hid (by have := R5.out; rw [ints_set, ← HV.out, mix_put HL2.out HKP.out, row_own (by rw [mixL_all HL2.out, HPL.out])] at this; exact this), W5, B5⟩
     case measure => simp [intOf]; omega
   ·obtain rfl : k = l.length := by omega
    go_wp2
    go_ret
    exact ⟨_, rfl, by have := HO.out; rw [mixL_end HL2.out (by rw [HPL.out]; exact Nat.le_refl _)] at this; exact this, HB.out⟩
 ·have HR2 : Hid (rulePlain P s 4 = L2) := Lib.hid hL2
  clear hL2
  go_enter Tryz.func67, Tryz.ntmps67
  go_wp2_with fail
  refine (rplain09_any A l c w H.out hl).mono ?_
  rintro e w1 ⟨v1, rfl, o1, b1⟩
  rw [HP.out] at o1
  obtain ⟨A1, c1, hv1, -, -, -⟩ := o1.form
  rw [ints, List.length_map, HPL.out] at hv1
  subst hv1
  have O1 := Lib.hid o1
  have B1 := Lib.hid b1
  have H1 := Lib.hid (H.out.up b1)
  clear o1 b1
  go_wp2_with fail
  refine (rside09_any sos w1).mono ?_
  rintro e wq ⟨rfl, rfl⟩
  rw [HS.out]
  go_wp2_with fail
  refine (rplain09_any A l c w1 H1.out hl).mono ?_
  rintro e w2 ⟨v2, rfl, o2, b2⟩
  rw [HP.out] at o2
  obtain ⟨A2, c2, hv2, -, -, -⟩ := o2.form
  rw [ints, List.length_map, HPL.out] at hv2
  subst hv2
  have O2 := Lib.hid o2
  have O1' := Lib.hid (O1.out.below b2 (Nat.le_refl _))
  have B2 := Lib.hid (below_then B1.out b2)
  clear o2 b2
  have HC : Hid (Calls Tryz.prog 115 #[.slice A1 l.length c1] w2 fun ed w' => ed = .returned (.tuple #[]) ∧ Own w' w.heap.size 3 (.slice A1 l.length c1) (ints .i64 L2) ∧ Below w.heap.size w2 w') := Lib.hid (by
   have h := rparts09_any w.heap.size c1 A1 P w2 (by rw [HPL.out]; exact hl) B2.out.size (by rw [HPL.out]; exact O1'.out)
   rw [HPL.out] at h
   rw [← HR2.out]
   exact h)
  go_wp2_with fail
  refine HC.out.mono ?_
  rintro e w3 ⟨rfl, o3, b3⟩
  have O3 := Lib.hid o3
  have B3 : Hid (Below w.heap.size w w3) := Lib.hid (B2.out.trans b3)
  clear o3 b3
  go_wp2_with fail
  go_loopw [9] (fun iv wr => ∃ k : Nat, k ≤ l.length ∧ iv = .int .i64 k ∧ w3 = wr) (fun iv _ => l.length - (intOf iv).toNat)
  case atStart => exact ⟨0, by omega, rfl, rfl⟩
  case round =>
   obtain ⟨k, hk, rfl, rfl⟩ := hrel
   by_cases hlt : k < l.length
   ·have k1 : (k : Int) < (l.length : Int) := by omega
    go_wp2_with fail
    go_roundw
    case rel => exact ⟨k + 1, by omega, by go_num, by first | rfl | trivial⟩
    case measure => simp [intOf]; omega
   ·obtain rfl : k = l.length := by omega
    go_wp2
    go_ret
    exact ⟨_, rfl, O3.out, B3.out⟩
 ·have HR2 : Hid (rulePlain P s 5 = L2) := Lib.hid hL2
  clear hL2
  go_enter Tryz.func67, Tryz.ntmps67
  go_wp2_with fail
  refine (rplain09_any A l c w H.out hl).mono ?_
  rintro e w1 ⟨v1, rfl, o1, b1⟩
  rw [HP.out] at o1
  obtain ⟨A1, c1, hv1, -, -, -⟩ := o1.form
  rw [ints, List.length_map, HPL.out] at hv1
  subst hv1
  have O1 := Lib.hid o1
  have B1 := Lib.hid b1
  have H1 := Lib.hid (H.out.up b1)
  clear o1 b1
  go_wp2_with fail
  refine (rside09_any sos w1).mono ?_
  rintro e wq ⟨rfl, rfl⟩
  rw [HS.out]
  go_wp2_with fail
  refine (rplain09_any A l c w1 H1.out hl).mono ?_
  rintro e w2 ⟨v2, rfl, o2, b2⟩
  rw [HP.out] at o2
  obtain ⟨A2, c2, hv2, -, -, -⟩ := o2.form
  rw [ints, List.length_map, HPL.out] at hv2
  subst hv2
  have O2 := Lib.hid o2
  have O1' := Lib.hid (O1.out.below b2 (Nat.le_refl _))
  have B2 := Lib.hid (below_then B1.out b2)
  clear o2 b2
  have HC : Hid (Calls Tryz.prog 116 #[.slice A1 l.length c1] w2 fun ed w' => ed = .returned (.tuple #[]) ∧ Own w' w.heap.size 3 (.slice A1 l.length c1) (ints .i64 L2) ∧ Below w.heap.size w2 w') := Lib.hid (by
   have h := rends09_any w.heap.size c1 A1 P w2 (by rw [HPL.out]; exact hl) B2.out.size (by rw [HPL.out]; exact O1'.out)
   rw [HPL.out] at h
   rw [← HR2.out]
   exact h)
  go_wp2_with fail
  refine HC.out.mono ?_
  rintro e w3 ⟨rfl, o3, b3⟩
  have O3 := Lib.hid o3
  have B3 : Hid (Below w.heap.size w w3) := Lib.hid (B2.out.trans b3)
  clear o3 b3
  go_wp2_with fail
  go_loopw [9] (fun iv wr => ∃ k : Nat, k ≤ l.length ∧ iv = .int .i64 k ∧ w3 = wr) (fun iv _ => l.length - (intOf iv).toNat)
  case atStart => exact ⟨0, by omega, rfl, rfl⟩
  case round =>
   obtain ⟨k, hk, rfl, rfl⟩ := hrel
   by_cases hlt : k < l.length
   ·have k1 : (k : Int) < (l.length : Int) := by omega
    go_wp2_with fail
    go_roundw
    case rel => exact ⟨k + 1, by omega, by go_num, by first | rfl | trivial⟩
    case measure => simp [intOf]; omega
   ·obtain rfl : k = l.length := by omega
    go_wp2
    go_ret
    exact ⟨_, rfl, O3.out, B3.out⟩
 ·have HR2 : Hid (rulePlain P s 6 = L2) := Lib.hid hL2
  clear hL2
  go_enter Tryz.func67, Tryz.ntmps67
  go_wp2_with fail
  refine (rplain09_any A l c w H.out hl).mono ?_
  rintro e w1 ⟨v1, rfl, o1, b1⟩
  rw [HP.out] at o1
  obtain ⟨A1, c1, hv1, -, -, -⟩ := o1.form
  rw [ints, List.length_map, HPL.out] at hv1
  subst hv1
  have O1 := Lib.hid o1
  have B1 := Lib.hid b1
  have H1 := Lib.hid (H.out.up b1)
  clear o1 b1
  go_wp2_with fail
  refine (rside09_any sos w1).mono ?_
  rintro e wq ⟨rfl, rfl⟩
  rw [HS.out]
  go_wp2_with fail
  refine (rplain09_any A l c w1 H1.out hl).mono ?_
  rintro e w2 ⟨v2, rfl, o2, b2⟩
  rw [HP.out] at o2
  obtain ⟨A2, c2, hv2, -, -, -⟩ := o2.form
  rw [ints, List.length_map, HPL.out] at hv2
  subst hv2
  have O2 := Lib.hid o2
  have O1' := Lib.hid (O1.out.below b2 (Nat.le_refl _))
  have B2 := Lib.hid (below_then B1.out b2)
  clear o2 b2
  have HL2 : Hid (L2.length = P.length) := Lib.hid (by rw [← HR2.out, rulePlain_length])
  have HAT : Hid (∀ k, k < P.length → L2.getD k 0 = (if P.getD k 0 = 4 ∨ P.getD k 0 = 5 ∨ P.getD k 0 = 7 then 13 else P.getD k 0)) := Lib.hid fun k hk => by rw [← HR2.out]; exact (map_at (fun k => if k = 4 ∨ k = 5 ∨ k = 7 then 13 else k) hk).symm
  have O0 : Hid (Own w2 w.heap.size 3 (.slice A1 l.length c1) (ints .i64 (mixL P L2 0))) := Lib.hid (by rw [mixL_zero]; exact O1'.out)
  go_wp2_with fail
  go_loopw [9] (fun iv wr => ∃ k : Nat, k ≤ l.length ∧ iv = .int .i64 k ∧ Hid (Own wr w.heap.size 3 (.slice A1 l.length c1) (ints .i64 (mixL P L2 k))) ∧ Hid (Own wr w1.heap.size 3 (.slice A2 l.length c2) (ints .i64 P)) ∧ Hid (Below w.heap.size w wr)) (fun iv _ => l.length - (intOf iv).toNat)
  case atStart => exact ⟨0, by omega, rfl, O0, O2, B2⟩
  case round =>
   obtain ⟨k, hk, rfl, HO, HW, HB⟩ := hrel
   by_cases hlt : k < l.length
   ·have hkP : k < P.length := by rw [HPL.out]; exact hlt
    have hml : (mixL P L2 k).length = l.length := by rw [mixL_all HL2.out k, HPL.out]
    obtain ⟨g, c3, hv, hR⟩ := HO.out.inRow (by rw [ints, List.length_map, hml]; omega)
    injection hv with hA hx3 hc3
    clear hx3
    subst hA hc3
    obtain ⟨x, hx⟩ : ∃ x, P.getD k 0 = x := ⟨_, rfl⟩
    have hc : wr.cell? ⟨g, k, none⟩ = some (.int .i64 x) := row_int hR (by rw [mix_at HL2.out (by omega) (Nat.le_refl _), List.getElem?_eq_getElem hkP, ← getD_at hkP, hx])
    have hat := HAT.out k hkP
    rw [hx] at hat
    have HX := Lib.hid hx
    have HR := Lib.hid hR
    have HKP := Lib.hid hkP
    have HJL : Hid (k < (ints .i64 (mixL P L2 k)).length) := Lib.hid (by rw [ints, List.length_map, hml]; exact hlt)
    have HFAR : Hid ((Value.slice A2 l.length c2).ownBlock ≠ some g) := Lib.hid (fun e => by
     have h1 := (Own.inside HW.out g e).1
     have h2 := (Own.inside O1.out g rfl).2
     omega)
    have k0 : (0 : Int) ≤ (k : Int) := by omega
    have k1 : (k : Int) < (l.length : Int) := by omega
    clear hx hR hml hkP
    rcases e4 : (x == 4) with _ | _
    ·rcases e5 : (x == 5) with _ | _
     ·rcases e7 : (x == 7) with _ | _
      ·have HV : Hid (L2.getD k 0 = x) := Lib.hid (by rw [hat, if_neg]; simp only [beq_eq_false_iff_ne] at e4 e5 e7; omega)
       clear hat
       go_wp2_with fail
       go_roundw
       case rel => exact ⟨k + 1, by omega, by go_num, by rw [← mix_stay HL2.out HKP.out (by rw [HV.out, HX.out])]; exact HO, HW, HB⟩
       case measure => simp [intOf]; omega
      ·have HV : Hid (L2.getD k 0 = 13) := Lib.hid (by rw [hat, if_pos]; simp only [beq_iff_eq] at e7; omega)
       clear hat
       go_wp2_with (first
        | (refine store_row intsT wr w.heap.size _ _ g k c1 .i64 13 (ints .i64 (mixL P L2 k)) w rfl rfl rfl rfl rfl HR.out HJL.out HB.out ?_; intro w5 r5 b5 g5; have R5 := Lib.hid r5; have B5 := Lib.hid b5; have W5 := Lib.hid (HW.out.keepRow g5 HFAR.out); clear r5 b5 g5)
        | fail)
       go_roundw
       case rel => exact ⟨k + 1, by omega, by go_num, Lib.hid (by have := R5.out; rw [ints_set, ← HV.out, mix_put HL2.out HKP.out, row_own (by rw [mixL_all HL2.out, HPL.out])] at this; exact this), W5, B5⟩
       case measure => simp [intOf]; omega
     ·have HV : Hid (L2.getD k 0 = 13) := Lib.hid (by rw [hat, if_pos]; simp only [beq_iff_eq] at e5; omega)
      clear hat
      go_wp2_with (first
       | (refine store_row intsT wr w.heap.size _ _ g k c1 .i64 13 (ints .i64 (mixL P L2 k)) w rfl rfl rfl rfl rfl HR.out HJL.out HB.out ?_; intro w5 r5 b5 g5; have R5 := Lib.hid r5; have B5 := Lib.hid b5; have W5 := Lib.hid (HW.out.keepRow g5 HFAR.out); clear r5 b5 g5)
       | fail)
      go_roundw
      case rel => exact ⟨k + 1, by omega, by go_num, Lib.hid (by have := R5.out; rw [ints_set, ← HV.out, mix_put HL2.out HKP.out, row_own (by rw [mixL_all HL2.out, HPL.out])] at this; exact this), W5, B5⟩
      case measure => simp [intOf]; omega
    ·have HV : Hid (L2.getD k 0 = 13) := Lib.hid (by rw [hat, if_pos]; simp only [beq_iff_eq] at e4; omega)
     clear hat
     go_wp2_with (first
      | (refine store_row intsT wr w.heap.size _ _ g k c1 .i64 13 (ints .i64 (mixL P L2 k)) w rfl rfl rfl rfl rfl HR.out HJL.out HB.out ?_; intro w5 r5 b5 g5; have R5 := Lib.hid r5; have B5 := Lib.hid b5; have W5 := Lib.hid (HW.out.keepRow g5 HFAR.out); clear r5 b5 g5)
      | fail)
     go_roundw
     case rel => exact ⟨k + 1, by omega, by go_num, Lib.hid (by have := R5.out; rw [ints_set, ← HV.out, mix_put HL2.out HKP.out, row_own (by rw [mixL_all HL2.out, HPL.out])] at this; exact this), W5, B5⟩
     case measure => simp [intOf]; omega
   ·obtain rfl : k = l.length := by omega
    go_wp2
    go_ret
    exact ⟨_, rfl, by have := HO.out; rw [mixL_end HL2.out (by rw [HPL.out]; exact Nat.le_refl _)] at this; exact this, HB.out⟩
 ·have HR2 : Hid (rulePlain P s 7 = L2) := Lib.hid hL2
  clear hL2
  go_enter Tryz.func67, Tryz.ntmps67
  go_wp2_with fail
  refine (rplain09_any A l c w H.out hl).mono ?_
  rintro e w1 ⟨v1, rfl, o1, b1⟩
  rw [HP.out] at o1
  obtain ⟨A1, c1, hv1, -, -, -⟩ := o1.form
  rw [ints, List.length_map, HPL.out] at hv1
  subst hv1
  have O1 := Lib.hid o1
  have B1 := Lib.hid b1
  have H1 := Lib.hid (H.out.up b1)
  clear o1 b1
  go_wp2_with fail
  refine (rside09_any sos w1).mono ?_
  rintro e wq ⟨rfl, rfl⟩
  rw [HS.out]
  go_wp2_with fail
  refine (rplain09_any A l c w1 H1.out hl).mono ?_
  rintro e w2 ⟨v2, rfl, o2, b2⟩
  rw [HP.out] at o2
  obtain ⟨A2, c2, hv2, -, -, -⟩ := o2.form
  rw [ints, List.length_map, HPL.out] at hv2
  subst hv2
  have O2 := Lib.hid o2
  have O1' := Lib.hid (O1.out.below b2 (Nat.le_refl _))
  have B2 := Lib.hid (below_then B1.out b2)
  clear o2 b2
  have HL2 : Hid (L2.length = P.length) := Lib.hid (by rw [← HR2.out, rulePlain_length])
  have HAT : Hid (∀ k, k < P.length → L2.getD k 0 = (if P.getD k 0 = 3 ∧ lastStrong s (P.take k) = 0 then 0 else P.getD k 0)) := Lib.hid fun k hk => by rw [← HR2.out]; exact (wS_at 0 0 s P k hk).symm
  have O0 : Hid (Own w2 w.heap.size 3 (.slice A1 l.length c1) (ints .i64 (mixL P L2 0))) := Lib.hid (by rw [mixL_zero]; exact O1'.out)
  go_wp2_with fail
  go_loopw [9] (fun iv wr => ∃ k : Nat, k ≤ l.length ∧ iv = .int .i64 k ∧ Hid (Own wr w.heap.size 3 (.slice A1 l.length c1) (ints .i64 (mixL P L2 k))) ∧ Hid (Own wr w1.heap.size 3 (.slice A2 l.length c2) (ints .i64 P)) ∧ Hid (Below w.heap.size w wr)) (fun iv _ => l.length - (intOf iv).toNat)
  case atStart => exact ⟨0, by omega, rfl, O0, O2, B2⟩
  case round =>
   obtain ⟨k, hk, rfl, HO, HW, HB⟩ := hrel
   by_cases hlt : k < l.length
   ·have hkP : k < P.length := by rw [HPL.out]; exact hlt
    have hml : (mixL P L2 k).length = l.length := by rw [mixL_all HL2.out k, HPL.out]
    obtain ⟨g, c3, hv, hR⟩ := HO.out.inRow (by rw [ints, List.length_map, hml]; omega)
    injection hv with hA hx3 hc3
    clear hx3
    subst hA hc3
    obtain ⟨x, hx⟩ : ∃ x, P.getD k 0 = x := ⟨_, rfl⟩
    have hc : wr.cell? ⟨g, k, none⟩ = some (.int .i64 x) := row_int hR (by rw [mix_at HL2.out (by omega) (Nat.le_refl _), List.getElem?_eq_getElem hkP, ← getD_at hkP, hx])
    have hat := HAT.out k hkP
    rw [hx] at hat
    have HX := Lib.hid hx
    have HR := Lib.hid hR
    have HKP := Lib.hid hkP
    have HJL : Hid (k < (ints .i64 (mixL P L2 k)).length) := Lib.hid (by rw [ints, List.length_map, hml]; exact hlt)
    have HFAR : Hid ((Value.slice A2 l.length c2).ownBlock ≠ some g) := Lib.hid (fun e => by
     have h1 := (Own.inside HW.out g e).1
     have h2 := (Own.inside O1.out g rfl).2
     omega)
    have k0 : (0 : Int) ≤ (k : Int) := by omega
    have k1 : (k : Int) < (l.length : Int) := by omega
    clear hx hR hml hkP
    rcases e3 : (x == 3) with _ | _
    ·have HV : Hid (L2.getD k 0 = x) := Lib.hid (by rw [hat, if_neg]; simp only [beq_eq_false_iff_ne] at e3; exact fun h => e3 h.1)
     clear hat
     go_wp2_with fail
     go_roundw
     case rel => exact ⟨k + 1, by omega, by go_num, by rw [← mix_stay HL2.out HKP.out (by rw [HV.out, HX.out])]; exact HO, HW, HB⟩
     case measure => simp [intOf]; omega
    ·obtain ⟨r, hr⟩ : ∃ r, lastStrong s (P.take k) = r := ⟨_, rfl⟩
     rw [hr] at hat
     have HC : Hid (Calls Tryz.prog 117 #[.slice A2 l.length c2, .int .i64 (k : Int), .int .i64 s] wr fun ed w' => ed = .returned (.int .i64 r) ∧ Below wr.heap.size wr w') := Lib.hid (by
      obtain ⟨A4, c4, hv4, hl4, -, -⟩ := HW.out.form
      rw [ints, List.length_map, HPL.out] at hv4
      injection hv4 with hA4 _ hc4
      subst hA4 hc4
      have := rstrong09_any A2 P c2 k s wr hl4 (by rw [HPL.out]; exact hl) (by rw [HPL.out]; exact hk)
      rw [HPL.out, HPP.out, HSS.out, hr] at this
      exact this)
     go_wp2_with fail
     refine HC.out.mono ?_
     rintro e w4 ⟨rfl, b4⟩
     have HO4 := Lib.hid (HO.out.below b4 (Nat.le_refl _))
     have HW4 := Lib.hid (HW.out.below b4 (Nat.le_refl _))
     have HR4 := Lib.hid (HR.out.below b4 (Nat.le_refl _))
     have HB4 := Lib.hid (HB.out.trans (b4.mono HB.out.size))
     clear b4 hr
     rcases er : (r == 0) with _ | _
     ·have HV : Hid (L2.getD k 0 = x) := Lib.hid (by rw [hat, if_neg]; simp only [beq_eq_false_iff_ne] at er; exact fun h => er h.2)
      clear hat
      go_wp2_with fail
      go_roundw
      case rel => exact ⟨k + 1, by omega, by go_num, by rw [← mix_stay HL2.out HKP.out (by rw [HV.out, HX.out])]; exact HO4, HW4, HB4⟩
      case measure => simp [intOf]; omega
     ·have HV : Hid (L2.getD k 0 = 0) := Lib.hid (by rw [hat, if_pos ⟨by simpa using e3, by simpa using er⟩])
      clear hat
      go_wp2_with (first
       | (refine store_row intsT w4 w.heap.size _ _ g k c1 .i64 0 (ints .i64 (mixL P L2 k)) w rfl rfl rfl rfl rfl HR4.out HJL.out HB4.out ?_; intro w5 r5 b5 g5; have R5 := Lib.hid r5; have B5 := Lib.hid b5; have W5 := Lib.hid (HW4.out.keepRow g5 HFAR.out); clear r5 b5 g5)
       | fail)
      go_roundw
      case rel => exact ⟨k + 1, by omega, by go_num, Lib.hid (by have := R5.out; rw [ints_set, ← HV.out, mix_put HL2.out HKP.out, row_own (by rw [mixL_all HL2.out, HPL.out])] at this; exact this), W5, B5⟩
      case measure => simp [intOf]; omega
   ·obtain rfl : k = l.length := by omega
    go_wp2
    go_ret
    exact ⟨_, rfl, by have := HO.out; rw [mixL_end HL2.out (by rw [HPL.out]; exact Nat.le_refl _)] at this; exact this, HB.out⟩
set_option maxHeartbeats 1000000 in
theorem rof09_any (A : Option Addr) (l : List Int) (c : Nat) (sos : Int) (w : World) (h : Lies w w.heap.size A (ints .i64 l)) (hl : l.length ≤ 1000000) :
 Calls Tryz.prog 38 #[.slice A l.length c, .int .i64 sos] w fun ed w' => Rowed w w.heap.size 3 (ints .i64 (ofI l sos)) ed w' := by
 have H := Lib.hid h
 clear h
 go_enter Tryz.func38, Tryz.ntmps38
 go_wp2_with fail
 refine (rplain09_any A l c w H.out hl).mono ?_
 rintro e w1 ⟨v1, rfl, o1, b1⟩
 have O0 : Hid (Own w1 w.heap.size 3 v1 (ints .i64 (stepsI (plainL l) sos 0))) := Lib.hid o1
 have B1 := Lib.hid b1
 clear o1 b1
 go_wp2_with fail
 go_loopw [6, 5] (fun nv ov wr => ∃ n : Nat, n ≤ 7 ∧ nv = .int .i64 ((n + 1 : Nat) : Int) ∧ Hid (Own wr w.heap.size 3 ov (ints .i64 (stepsI (plainL l) sos n))) ∧ Hid (Below w.heap.size w wr)) (fun nv _ _ => 8 - (intOf nv).toNat)
 case atStart => exact ⟨0, by omega, rfl, O0, B1⟩
 case round =>
  obtain ⟨n, hn, rfl, HO, HB⟩ := hrel
  by_cases hlt : n < 7
  ·obtain ⟨Ao, co, rfl, lo, -, -⟩ := HO.out.form
   have hsl : (stepsI (plainL l) sos n).length = l.length := by rw [stepsI_length, plainL, List.length_map]
   have HX : Hid (Calls Tryz.prog 67 #[.slice Ao l.length co, .int .i64 sos, .int .i64 ((n + 1 : Nat) : Int)] wr fun ed w' => Rowed wr wr.heap.size 3 (ints .i64 (stepsI (plainL l) sos (n + 1))) ed w') := Lib.hid (by
    have := rrule09_any Ao (stepsI (plainL l) sos n) co sos (n + 1) wr lo (by omega) (by omega) (by omega)
    rw [hsl] at this
    exact this)
   simp only [ints, List.length_map, hsl]
   have b1 : decide ((((n + 1 : Nat) : Int)) ≤ 7) = true := by simp; omega
   have b0 : (((n + 1 : Nat) : Int)) ≤ 7 := by omega
   have b2 : IntKind.i64.wrap (((n + 1 : Nat) : Int) + 1) = ((n + 1 + 1 : Nat) : Int) := by rw [IntWalk.i64_in _ (by omega)]; rfl
   clear lo hsl
   generalize hz : ((n + 1 : Nat) : Int) = z at *
   have HZ := Lib.hid hz
   clear hz
   go_wp2_with fail
   refine HX.out.mono ?_
   rintro e w2 ⟨v2, rfl, o2, b2'⟩
   have O2 := Lib.hid (o2.weaken HB.out.size)
   have B2 := Lib.hid (HB.out.trans (b2'.mono HB.out.size))
   clear o2 b2'
   go_wp2
   go_roundw
   case rel => exact ⟨n + 1, by omega, rfl, O2, B2⟩
   case measure => rw [← HZ.out]; simp [intOf]; omega
  ·obtain rfl : n = 7 := by omega
   go_wp2
   go_ret
   exact ⟨_, rfl, by have := HO.out; rw [show stepsI (plainL l) sos 7 = ofI (plainL l) sos from rfl, ofI_plain] at this; exact this, HB.out⟩
end Go.Proofs.YtcbaahlahohfmaaGreatDoor
namespace Go.Proofs.YtcbaahlahohfmaaGreatDoor
open Go.RowKit
theorem seqsN_mem (cl lv m : List Int) (base : Int) (L : List (List Int)) : ∀ k, k ≤ L.length → ∀ s ∈ seqsN cl lv m base L k, ∃ i, i < k ∧ goneN cl m L L.length i = false ∧ s = sqOf cl lv base (chainI cl m L i) := by
 intro k
 induction k with
 | zero => intro _ s hs; simp [seqsN] at hs
 | succ k ih =>
  intro hk s hs
  rw [seqsN] at hs
  cases hg : goneN cl m L L.length k with
  | true =>
   rw [hg, if_pos rfl] at hs
   obtain ⟨i, h1, h2⟩ := ih (by omega) s hs
   exact ⟨i, by omega, h2⟩
  | false =>
   rw [hg, if_neg (by simp)] at hs
   rcases List.mem_append.1 hs with h1 | h1
   ·obtain ⟨i, h1, h2⟩ := ih (by omega) s h1
    exact ⟨i, by omega, h2⟩
   ·exact ⟨k, by omega, hg, List.mem_singleton.1 h1⟩
theorem seqs_small (cl lv : List Int) (base : Int) : (seqsI cl lv base).length ≤ cl.length ∧ ∀ s ∈ seqsI cl lv base, s.pl.length ≤ cl.length * cl.length := by
 have h1 := listsI_le cl lv
 refine ⟨Nat.le_trans (seqsN_le _ _ _ _ _ _) h1.1, fun s hs => ?_⟩
 obtain ⟨i, hi, _, rfl⟩ := seqsN_mem _ _ _ _ _ _ (Nat.le_refl _) s hs
 have h2 := chainI_len (onward_I cl lv) (B := cl.length) h1.2 ((listsI cl lv).length - i) i hi (Nat.le_refl _)
 exact Nat.le_trans h2 (Nat.mul_le_mul_right _ (by omega))
end Go.Proofs.YtcbaahlahohfmaaGreatDoor
