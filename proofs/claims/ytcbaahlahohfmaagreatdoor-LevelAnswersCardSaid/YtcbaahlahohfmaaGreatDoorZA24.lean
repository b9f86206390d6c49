/- Shared texts, shaken for one claim. -/
import Derived.Deep.DeepCutAuto
import Derived.Test.YtcbaahlahohfmaaGreatDoorZA18
import Derived.Test.YtcbaahlahohfmaaGreatDoorZA20
import Derived.Test.YtcbaahlahohfmaaGreatDoorZA22
namespace Go.Proofs.YtcbaahlahohfmaaGreatDoor
open Go.RowKit
def foldN (P : List (Int × Int)) (first : List Int) (e sos : Int) (cls : List Int) (n : Nat) : List Int := (P.take n).foldl (ofStepB first e sos) cls
theorem foldN_succ (P : List (Int × Int)) (first : List Int) (e sos : Int) (cls : List Int) (n : Nat) (h : n < P.length) : foldN P first e sos cls (n + 1) = ofStepB first e sos (foldN P first e sos cls n) P[n] := by
 unfold foldN
 rw [List.take_succ_eq_append_getElem h, List.foldl_append]
 rfl
theorem foldN_length (P : List (Int × Int)) (first : List Int) (e sos : Int) (cls : List Int) (n : Nat) : (foldN P first e sos cls n).length = cls.length := by
 unfold foldN
 generalize P.take n = Q
 induction Q generalizing cls with
 | nil => rfl
 | cons p Q ih => rw [List.foldl_cons, ih, ofStepB_length]
set_option maxRecDepth 20000 in
set_option maxHeartbeats 1500000 in
theorem rof10_any (A : Option Addr) (chars : List Int) (c : Nat) (A' : Option Addr) (classes : List Int) (c' : Nat) (A2 : Option Addr) (first : List Int) (c2 : Nat) (level sos : Int) (w : World)
 (h : Lies w w.heap.size A (ints .i64 chars)) (h' : Lies w w.heap.size A' (ints .i64 classes)) (h2 : Lies w w.heap.size A2 (ints .i64 first)) (hl : chars.length ≤ 1000000) (he : chars.length = classes.length) (hf : first.length = classes.length) :
 Calls Tryz.prog 39 #[.slice A chars.length c, .slice A' classes.length c', .slice A2 first.length c2, .int .i64 level, .int .i64 sos] w
  (Rowed w w.heap.size 3 (ints .i64 (ofB chars classes first level sos))) := by
 have H := Lib.hid h
 have H' := Lib.hid h'
 have H2 := Lib.hid h2
 obtain ⟨P, hP⟩ : ∃ P, pairsI chars classes = P := ⟨_, rfl⟩
 have HPV : Hid (∀ p ∈ P, ∃ a b : Nat, p = ((a : Int), (b : Int)) ∧ a < b ∧ b < classes.length) := Lib.hid (fun p hp => by
  rw [← hP, pairsI, if_pos he] at hp
  obtain ⟨a, b, e1, e2, e3, _⟩ := (pinv chars classes chars.length).each p hp
  exact ⟨a, b, e1, e2, by omega⟩)
 have HP := Lib.hid hP
 obtain ⟨e, hee⟩ : ∃ e, dirL level = e := ⟨_, rfl⟩
 have HD := Lib.hid hee
 have HER := dirL_range level
 rw [hee] at HER
 have HF : Hid (ofB chars classes first level sos = foldN P first e sos classes P.length) := Lib.hid (by rw [ofB, if_pos ⟨he, hf⟩, hP, hee, foldN, List.take_length])
 have hPl : P.length ≤ 1000000 := by
  have := (pairs_le chars classes chars.length).1
  rw [pairsI, if_pos he] at hP
  rw [hP] at this; omega
 have hd1 : ((chars.length : Int) != (classes.length : Int)) = false := by simp [he]
 have hd2 : ((first.length : Int) != (classes.length : Int)) = false := by simp [hf]
 have hcl : classes.length ≤ 1000000 := by omega
 have HE := Lib.hid he
 have HFL := Lib.hid hf
 clear h h' h2 hP hee he hf
 go_enter Tryz.func39, Tryz.ntmps39
 go_wp2_with (first
  | (at_builtin; refine app_src intsT w (w.alloc (.cells #[] 3)) w.heap.size w.heap.size _ _ _ [] (ints .i64 classes) A' classes.length c' rfl rfl rfl rfl (by simp) (Own.ofLit #[] (Nat.le_refl _) (by decide)) (H'.out.alloc (Nat.le_refl _) _) (ints_one _ _) (below_alloc _ _) (by simp) (by unfold maxLen; simp; omega) (by simp; omega) ?_; intro v1 w1 o1 b1 _ _; have O1 := Lib.hid (show Own w1 w.heap.size 3 v1 (ints .i64 classes) by simpa using o1); have B1 := Lib.hid b1; clear o1 b1)
  | fail)
 refine (rpairs_any A chars c A' classes c' w1 (H.out.up B1.out) (H'.out.up B1.out) hl HE.out).mono ?_
 rintro ed w2 ⟨v2, rfl, o2, b2⟩
 rw [HP.out] at o2
 obtain ⟨AP, cp, rfl, _, _, _⟩ := o2.form
 have B2 := Lib.hid (below_then B1.out b2)
 have O2 := Lib.hid (O1.out.below b2 (Nat.le_refl _))
 have P2 := Lib.hid (o2.weaken B1.out.size)
 clear o2 b2
 go_wp2_with fail
 refine (rdir8_any level w2).mono ?_
 rintro e wq ⟨rfl, rfl⟩
 rw [HD.out]
 obtain ⟨AL, cL, rfl, _, _, _⟩ := O2.out.form
 simp only [ints, List.length_map]
 have Q2 : Hid (Own w2 w.heap.size 3 (.slice AL classes.length cL) (ints .i64 classes)) := Lib.hid (by have := O2.out; simp only [ints, List.length_map] at this; exact this)
 go_wp2_with fail
 go_loopw [14] (fun nv wr => ∃ n : Nat, n ≤ P.length ∧ nv = .int .i64 n ∧ Own wr w.heap.size 3 (.slice AL classes.length cL) (ints .i64 (foldN P first e sos classes n)) ∧ OwnN wr w.heap.size 79 2 (.slice AP P.length cp) P.length (prC P) ∧ Below w.heap.size w wr) (fun nv _ => P.length - (intOf nv).toNat)
 case atStart => exact ⟨0, by omega, rfl, Q2.out, P2.out, B2.out⟩
 case round =>
  obtain ⟨n, hn, rfl, hq, hp, hb⟩ := hrel
  have HQ := Lib.hid hq
  have HPR := Lib.hid hp
  have HB := Lib.hid hb
  clear hq hp hb
  by_cases hlt : n < P.length
  ·obtain ⟨cur, hcur⟩ : ∃ x, foldN P first e sos classes n = x := ⟨_, rfl⟩
   have hcl2 : cur.length = classes.length := by rw [← hcur, foldN_length]
   have HS := Lib.hid (foldN_succ P first e sos classes n hlt)
   rw [hcur] at HQ HS
   obtain ⟨a, b, hab, ha, hbc⟩ := HPV.out _ (List.getElem_mem hlt)
   rw [hab] at HS
   obtain ⟨g, cg, hv, hrow⟩ := HQ.out.inRow (by simp; omega)
   simp only [List.length_map] at hv
   injection hv with hA hL hC
   subst hA hC
   obtain ⟨AP1, cp1, hv1, hlp, _, _⟩ := HPR.out.form
   injection hv1 with hA1 _ hC1
   subst hA1 hC1
   obtain ⟨gp, op, hAP, hgp, z0, z1⟩ := prC_at hlp hlt
   subst hAP
   rw [hab] at z0 z1
   have RW := Lib.hid hrow
   have HCL := Lib.hid hcl2
   have hk1 : wr.drew.cell? ⟨gp, op + n * 2, none⟩ = some (.int .i64 a) ∧ wr.drew.cell? ⟨gp, op + n * 2 + 1, none⟩ = some (.int .i64 b) := ⟨z0, z1⟩
   have n0 : (0 : Int) ≤ (n : Int) := by omega
   have n1 : (n : Int) < (P.length : Int) := by omega
   have hw1 : IntKind.i64.wrap ((a : Int) + 1) = (a : Int) + 1 := IntWalk.i64_in _ (by omega)
   clear hcur hab hrow hlp z0 z1 hcl2 hL
   go_wp2_with fail
   refine wp_region_E (S := fun w' => w'.cell? ⟨gp, op + n * 2, none⟩ = some (.int .i64 a) ∧ w'.cell? ⟨gp, op + n * 2 + 1, none⟩ = some (.int .i64 b)) [] (by kernel_rfl) (hk1) (fun hHeld hZ => ?_)
   refine' eY 0 hHeld hZ fun hZ => ?_
   try simp only [Act.put,ZA,ZB,ZD,ZE,ZF]
   refine' eY 1 hHeld hZ fun hZ => ?_
   try simp only [Act.put,ZA,ZB,ZC,ZD,ZE,ZF]
   refine' eY 2 hHeld hZ fun hZ => ?_
   try simp only [Act.put,ZA,ZB,ZC,ZD,ZE,ZF]
   refine' eY 3 hHeld hZ fun hZ => ?_
   try simp only [Act.put,ZA,ZB,ZC,ZD,ZE,ZF]
   refine' eY 4 hHeld hZ fun hZ => ?_
   try simp only [Act.put,ZA,ZB,ZC,ZD,ZE,ZF]
   refine' eY 5 hHeld hZ fun hZ => ?_
   try simp only [Act.put,ZA,ZB,ZC,ZD,ZE,ZF]
   refine' eY 6 hHeld hZ fun hZ => ?_
   try simp only [Act.put,ZA,ZB,ZC,ZD,ZE,ZF]
   refine' eY 7 hHeld hZ fun hZ => ?_
   try simp only [Act.put,ZA,ZB,ZC,ZD,ZE,ZF]
   refine' eY 8 hHeld hZ fun hZ => ?_
   try simp only [Act.put,ZA,ZB,ZC,ZD,ZE,ZF]
   refine' eY 9 hHeld hZ fun hZ => ?_
   try simp only [Act.put,ZA,ZB,ZC,ZD,ZE,ZF]
   refine' eY 10 hHeld hZ fun hZ => ?_
   try simp only [Act.put,ZA,ZB,ZC,ZD,ZE,ZF]
   refine' eY 11 hHeld hZ fun hZ => ?_
   try simp only [Act.put,ZA,ZB,ZC,ZD,ZE,ZF]
   refine wpAnyE_done (by kernel_rfl) ?_ _
   clear hZ
   clear hk1 hHeld
   go_wp2_with fail
   obtain ⟨ALr, cLr, hvr, hlr, -, -⟩ := RW.out.form
   injection hvr with hAr _ hCr
   subst hAr hCr
   obtain ⟨wz, hwz⟩ : ∃ u, wr.drew = u := ⟨_, rfl⟩
   have RWz : Hid (Row wz w.heap.size 3 g cL (ints .i64 cur)) := Lib.hid (hwz ▸ Own.same RW.out rfl)
   have HPz : Hid (OwnN wz w.heap.size 79 2 (.slice (some ⟨gp, op, none⟩) P.length cp) P.length (prC P)) := Lib.hid (hwz ▸ HPR.out.same rfl)
   have HBz : Hid (Below w.heap.size w wz) := Lib.hid (by rw [← hwz]; exact below_same HB.out rfl rfl rfl rfl)
   have LZ : Hid (Lies wz wz.heap.size (some ⟨g, 0, none⟩) (ints .i64 cur)) := Lib.hid (hwz ▸ hlr.sameHeap rfl)
   rw [hwz]
   clear hwz hlr
   have hsd := rsides10_any (some ⟨g, 0, none⟩) cur cL ((a : Int) + 1) (b : Int) wz LZ.out (by have := HCL.out; omega) (by omega)
   rw [HCL.out] at hsd
   refine hsd.mono ?_
   clear hsd
   rintro ed wq ⟨rfl, rfl⟩
   obtain ⟨lf, hlf⟩ : ∃ z, hasL cur ((a : Int) + 1) (b : Int) = z := ⟨_, rfl⟩
   obtain ⟨rt, hrt⟩ : ∃ z, hasR cur ((a : Int) + 1) (b : Int) = z := ⟨_, rfl⟩
   have HLF := Lib.hid hlf
   have HRT := Lib.hid hrt
   rw [hlf, hrt]
   clear hlf hrt
   obtain ⟨sm, hsm⟩ : ∃ z, (if e = 1 then rt else lf) = z := ⟨_, rfl⟩
   obtain ⟨ot, hot⟩ : ∃ z, (if e = 1 then lf else rt) = z := ⟨_, rfl⟩
   have HSM : Hid (sameS cur e ((a : Int), (b : Int)) = sm ∧ otherS cur e ((a : Int), (b : Int)) = ot) := Lib.hid ⟨by rw [sameS, ← hsm, ← HLF.out, ← HRT.out], by rw [otherS, ← hot, ← HLF.out, ← HRT.out]⟩
   have HSO := Lib.hid (And.intro hsm hot)
   clear hsm hot
   go_upto_if 72 with fail
   go_cut [19, 20] (fun sv ov wx => sv = .bool sm ∧ ov = .bool ot ∧ wz = wx)
   case first =>
    rcases HER with rfl | rfl
    ·have h1 : Hid (lf = sm ∧ rt = ot) := HSO
     go_wp2_with fail
     go_meet
     exact ⟨by rw [h1.out.1], by rw [h1.out.2], rfl⟩
    ·have h1 : Hid (rt = sm ∧ lf = ot) := HSO
     go_wp2_with fail
     go_meet
     exact ⟨by rw [h1.out.1], by rw [h1.out.2], rfl⟩
   case rest =>
    obtain ⟨rfl, rfl, rfl⟩ := hcut
    go_upto_region 14 with fail
    go_cut [80] (fun v wx => v = .bool (!(sm || ot)) ∧ wz = wx)
    case first =>
     rcases sm with _ | _
     ·rcases ot with _ | _
      ·go_wp2_with fail
       go_meet
       exact ⟨rfl, rfl⟩
      ·go_wp2_with fail
       go_meet
       exact ⟨rfl, rfl⟩
     ·go_wp2_with fail
      go_meet
      exact ⟨rfl, rfl⟩
    case rest =>
     obtain ⟨rfl, rfl⟩ := hcut
     rcases hany : (sm || ot) with _ | _
     ·have HSD : Hid (sideOf cur e sos ((a : Int), (b : Int)) = none) := Lib.hid (by
       rw [Bool.or_eq_false_iff] at hany
       rw [sideOf, HSM.out.1, HSM.out.2, hany.1, hany.2])
      clear hany
      go_wp2_with fail
      go_roundw
      case rel => exact ⟨n + 1, by omega, by go_num, (by rw [HS.out, ofStepB, HSD.out]; have h1 := RWz.out; unfold Row at h1; simp only [ints, List.length_map, HCL.out] at h1; exact h1), HPz.out, HBz.out⟩
      case measure => simp [intOf]; omega
     ·obtain ⟨s, hs⟩ : ∃ s, (if sm then e else if aheadS cur sos a ≠ e then aheadS cur sos a else e) = s := ⟨_, rfl⟩
      have HSD : Hid (sideOf cur e sos ((a : Int), (b : Int)) = some s) := Lib.hid (by
       rw [sideOf, HSM.out.1, HSM.out.2]
       cases sm with
       | true => rw [← hs]; rfl
       | false =>
        rw [Bool.false_or] at hany
        rw [hany, ← hs]
        rfl)
      have HSV := Lib.hid hs
      clear hs hany
      simp only [Bool.not_true]
      go_upto_if 83 with fail
      go_cut [21] (fun v wx => v = .int .i64 s ∧ wz = wx)
      case first =>
       rcases sm with _ | _
       ·have hse : Hid ((if aheadS cur sos a ≠ e then aheadS cur sos a else e) = s) := HSV
        obtain ⟨z0, hz0⟩ : ∃ z, aheadS cur sos 0 = z := ⟨_, rfl⟩
        have HZ0 := Lib.hid hz0
        clear hz0
        go_upto_if 85 with fail
        go_cut [22] (fun v wx => v = .int .i64 z0 ∧ wz = wx)
        case first =>
         rcases hso : (sos == 1) with _ | _
         ·have hi : Hid ((0 : Int) = z0) := Lib.hid (by rw [← HZ0.out, aheadS]; simp at hso; rw [if_neg hso])
          go_wp2_with fail
          go_meet
          exact ⟨by rw [hi.out], rfl⟩
         ·have hi : Hid ((1 : Int) = z0) := Lib.hid (by rw [← HZ0.out, aheadS]; simp at hso; rw [if_pos hso])
          go_wp2_with fail
          go_meet
          exact ⟨by rw [hi.out], rfl⟩
        case rest =>
         obtain ⟨rfl, rfl⟩ := hcut
         go_wp2_with fail
         go_loopw [23, 22] (fun kv av wr => ∃ k : Nat, k ≤ a ∧ kv = .int .i64 k ∧ av = .int .i64 (aheadS cur sos k) ∧ wz = wr) (fun kv _ _ => a - (intOf kv).toNat)
         case atStart => exact ⟨0, by omega, rfl, by rw [HZ0.out], rfl⟩
         case round =>
          obtain ⟨k, hk, rfl, rfl, rfl⟩ := hrel
          obtain ⟨av, hav⟩ : ∃ z, aheadS cur sos k = z := ⟨_, rfl⟩
          rw [hav]
          have HAV := Lib.hid hav
          by_cases hka : k < a
          ·have hkl : k < cur.length := by have := HCL.out; omega
           have hck := RWz.out.cell (j := k) (by simpa using hkl)
           simp only [ints, List.getElem_map] at hck
           obtain ⟨x, hx⟩ : ∃ x, cur[k] = x := ⟨_, rfl⟩
           rw [hx] at hck
           have HAN : Hid (aheadS cur sos (k + 1) = if 0 ≤ sdB x then sdB x else av) := Lib.hid (by rw [aheadS, hav, show cAt cur k = x by simp [cAt, hkl, hx]])
           have k0 : (0 : Int) ≤ (k : Int) := by omega
           have k1 : (k : Int) < (classes.length : Int) := by omega
           have k2 : (k : Int) < (a : Int) := by omega
           clear hx hav
           obtain ⟨sx, hsx⟩ : ∃ z, sdB x = z := ⟨_, rfl⟩
           have HSX := Lib.hid hsx
           rw [hsx] at HAN
           clear hsx
           go_wp2_with fail
           refine (rside10_any x _).mono ?_
           rintro ed wq ⟨rfl, rfl⟩
           rw [HSX.out]
           rcases hps : decide (0 ≤ sx) with _ | _
           ·have HAN2 : Hid (aheadS cur sos (k + 1) = av) := Lib.hid (by rw [HAN.out, if_neg (by simpa using hps)])
            go_wp2_with fail
            go_roundw
            case rel => exact ⟨k + 1, by omega, by go_num, by rw [HAN2.out], by first | rfl | trivial⟩
            case measure => simp [intOf]; omega
           ·have HAN2 : Hid (aheadS cur sos (k + 1) = sx) := Lib.hid (by rw [HAN.out, if_pos (by simpa using hps)])
            go_wp2_with fail
            refine (rside10_any x _).mono ?_
            rintro ed wq ⟨rfl, rfl⟩
            rw [HSX.out]
            go_wp2_with fail
            go_roundw
            case rel => exact ⟨k + 1, by omega, by go_num, by rw [HAN2.out], by first | rfl | trivial⟩
            case measure => simp [intOf]; omega
          ·have hak : k = a := by omega
           rw [hak] at HAV
           have hka2 : ¬ (k : Int) < (a : Int) := by omega
           clear hak hav
           rcases hne : (av != e) with _ | _
           ·have hi : Hid (e = s) := Lib.hid (by rw [← hse.out, HAV.out]; simp at hne; rw [if_neg (by simpa using hne)])
            go_wp2_with fail
            go_meet
            exact ⟨by rw [hi.out], rfl⟩
           ·have hi : Hid (av = s) := Lib.hid (by rw [← hse.out, HAV.out]; simp at hne; rw [if_pos (by simpa using hne)])
            go_wp2_with fail
            go_meet
            exact ⟨by rw [hi.out], rfl⟩
       ·have hse : Hid (e = s) := HSV
        go_wp2_with fail
        go_meet
        exact ⟨by rw [hse.out], rfl⟩
      case rest =>
       obtain ⟨rfl, rfl⟩ := hcut
       go_wp2_with fail
       have ht := rturn_any g cL cur A2 first c2 a s w.heap.size wz RWz.out (H2.out.below HBz.out) (by have := HCL.out; omega) (by rw [HFL.out, HCL.out]) (by rw [HCL.out]; omega)
       rw [HCL.out] at ht
       refine ht.mono ?_
       clear ht
       rintro ed w3 ⟨rfl, r3, b3, g3⟩
       have R3 := Lib.hid r3
       have B3 := Lib.hid b3
       have G3 := Lib.hid g3
       clear r3 b3 g3
       go_wp2_with fail
       have ht := rturn_any g cL (turnL cur first a s) A2 first c2 b s w.heap.size w3 R3.out (H2.out.below (HBz.out.trans B3.out)) (by rw [turnL_length]; have := HCL.out; omega) (by rw [HFL.out, turnL_length, HCL.out]) (by rw [turnL_length, HCL.out]; omega)
       rw [turnL_length, HCL.out] at ht
       refine ht.mono ?_
       clear ht
       rintro ed w4 ⟨rfl, r4, b4, g4⟩
       have R4 := Lib.hid r4
       have B4 := Lib.hid b4
       have G4 := Lib.hid g4
       clear r4 b4 g4
       go_wp2_with fail
       go_roundw
       case rel =>
        have hp3 := HPz.out.keep G3.out (OwnN.unlike HPz.out (show OwnN wz w.heap.size 3 1 (.slice (some ⟨g, 0, none⟩) _ cL) _ _ from RWz.out) (by decide))
        refine ⟨n + 1, by omega, by go_num, ?_, hp3.keep G4.out (OwnN.unlike hp3 (show OwnN w3 w.heap.size 3 1 (.slice (some ⟨g, 0, none⟩) _ cL) _ _ from R3.out) (by decide)), (HBz.out.trans B3.out).trans B4.out⟩
        rw [HS.out, ofStepB, HSD.out]
        have h1 := R4.out
        unfold Row at h1
        simp only [ints, List.length_map, turnL_length, HCL.out] at h1
        exact h1
       case measure => simp [intOf]; omega
  ·obtain rfl : n = P.length := by omega
   go_wp2_with fail
   go_ret
   exact ⟨_, rfl, by rw [HF.out]; exact HQ.out, HB.out⟩
theorem rof10_all (A : Option Addr) (chars : List Int) (c : Nat) (A' : Option Addr) (classes : List Int) (c' : Nat) (A2 : Option Addr) (first : List Int) (c2 : Nat) (level sos : Int) (w : World)
 (h : Lies w w.heap.size A (ints .i64 chars)) (h' : Lies w w.heap.size A' (ints .i64 classes)) (h2 : Lies w w.heap.size A2 (ints .i64 first)) (hl : chars.length ≤ 1000000) (hl' : classes.length ≤ 1000000) :
 Calls Tryz.prog 39 #[.slice A chars.length c, .slice A' classes.length c', .slice A2 first.length c2, .int .i64 level, .int .i64 sos] w
  (Rowed w w.heap.size 3 (ints .i64 (ofB chars classes first level sos))) := by
 by_cases he : chars.length = classes.length ∧ first.length = classes.length
 ·exact rof10_any A chars c A' classes c' A2 first c2 level sos w h h' h2 hl he.1 he.2
 ·have H' := Lib.hid h'
  have hB : ofB chars classes first level sos = classes := by rw [ofB, if_neg he]
  rw [hB]
  clear h h' h2 hB
  rcases h1 : ((chars.length : Int) != (classes.length : Int)) with _ | _
  ·have h3 : ((first.length : Int) != (classes.length : Int)) = true := by
    simp at h1 ⊢
    omega
   go_enter Tryz.func39, Tryz.ntmps39
   go_wp2_with (first
    | (at_builtin; refine app_src intsT w (w.alloc (.cells #[] 3)) w.heap.size w.heap.size _ _ _ [] (ints .i64 classes) A' classes.length c' rfl rfl rfl rfl (by simp) (Own.ofLit #[] (Nat.le_refl _) (by decide)) (H'.out.alloc (Nat.le_refl _) _) (ints_one _ _) (below_alloc _ _) (by simp) (by unfold maxLen; simp; omega) (by simp; omega) ?_; intro v1 w1 o1 b1 _ _; have O1 := Lib.hid (show Own w1 w.heap.size 3 v1 (ints .i64 classes) by simpa using o1); have B1 := Lib.hid b1; clear o1 b1)
    | fail)
   go_ret
   exact ⟨_, rfl, O1.out, B1.out⟩
  ·go_enter Tryz.func39, Tryz.ntmps39
   go_wp2_with (first
    | (at_builtin; refine app_src intsT w (w.alloc (.cells #[] 3)) w.heap.size w.heap.size _ _ _ [] (ints .i64 classes) A' classes.length c' rfl rfl rfl rfl (by simp) (Own.ofLit #[] (Nat.le_refl _) (by decide)) (H'.out.alloc (Nat.le_refl _) _) (ints_one _ _) (below_alloc _ _) (by simp) (by unfold maxLen; simp; omega) (by simp; omega) ?_; intro v1 w1 o1 b1 _ _; have O1 := Lib.hid (show Own w1 w.heap.size 3 v1 (ints .i64 classes) by simpa using o1); have B1 := Lib.hid b1; clear o1 b1)
    | fail)
   go_ret
   exact ⟨_, rfl, O1.out, B1.out⟩
end Go.Proofs.YtcbaahlahohfmaaGreatDoor
namespace Go.Proofs.YtcbaahlahohfmaaGreatDoor
open Go.RowKit
set_option maxRecDepth 20000 in
set_option maxHeartbeats 4000000 in
theorem mark_any (g c : Nat) (l : List Int) (A' : Option Addr) (first : List Int) (c' : Nat) (i : Nat) (s : Int) (B : Nat) (w : World) (h : Row w B 3 g c (ints .i64 l)) (h' : Lies w B A' (ints .i64 first)) (hl : l.length ≤ 1000000) (he : first.length = l.length) (hi : i < l.length) :
 Calls Tryz.prog 97 #[.slice (some ⟨g, 0, none⟩) l.length c, .slice A' first.length c', .int .i64 (i : Int), .int .i64 s] w
  fun ed w' => ed = .returned (.tuple #[]) ∧ Row w' B 3 g c (ints .i64 (turnL l first i s)) ∧ Below B w w' ∧ w.grownBy w' (some g) := by
 have H := Lib.hid h
 have H' := Lib.hid h'
 have HE := Lib.hid he
 have hin := h.inside
 obtain ⟨u0, hc0⟩ : ∃ u, w.cell? ⟨g, i, none⟩ = some u := ⟨_, h.cell (by simpa using hi)⟩
 have hf0 := h.free i
 have b0 : (0 : Int) ≤ (i : Int) := by omega
 have b1 : (i : Int) < (l.length : Int) := by omega
 clear h h' he
 go_enter Tryz.func97, Tryz.ntmps97
 go_wp2_with (first
  | (refine store_row intsT w B _ _ g i c .i64 s (ints .i64 l) w rfl rfl rfl rfl rfl H.out (by simpa using hi) (Below.refl _ _) ?_; intro w1 r1 b1' g1; rw [ints_set, ← setR_none l i s, setR_next l i i s (Nat.le_refl _)] at r1; have R1 := Lib.hid r1; have B1 := Lib.hid b1'; have G1 := Lib.hid g1; clear r1 b1' g1)
  | fail)
 go_loopw [2] (fun kv wr => ∃ m : Nat, i + 1 + m ≤ l.length ∧ kv = .int .i64 ((i + 1 + m : Nat) : Int) ∧ Hid (∀ j (h : j < m), first.getD (i + 1 + j) 0 = 8) ∧ Row wr B 3 g c (ints .i64 (setR l i (i + 1 + m) s)) ∧ Below B w wr ∧ w.grownBy wr (some g)) (fun kv _ => l.length - (intOf kv).toNat)
 case atStart => exact ⟨0, by omega, by go_num, Lib.hid (fun j h => absurd h (by omega)), R1.out, B1.out, G1.out⟩
 case round =>
  obtain ⟨m, hm, rfl, HM, hr, hb, hg⟩ := hrel
  have HR := Lib.hid hr
  have HB := Lib.hid hb
  have HG := Lib.hid hg
  obtain ⟨k, hk⟩ : ∃ k, i + 1 + m = k := ⟨_, rfl⟩
  have hki : i < k := by omega
  rw [hk] at hm HR ⊢
  have HK := Lib.hid hk
  clear hr hb hg hk
  by_cases hlt : k < l.length
  ·have hlf : k < first.length := by have := HE.out; omega
   obtain ⟨p, hp, _, hc⟩ := (H'.out.below HB.out).int hlf
   subst hp
   obtain ⟨x, hx⟩ : ∃ x, first[k] = x := ⟨_, rfl⟩
   rw [hx] at hc
   have HX : Hid (first.getD k 0 = x) := Lib.hid (by simp [hlf, hx])
   have d0 : (0 : Int) ≤ (k : Int) := by omega
   have d1 : (k : Int) < (l.length : Int) := by omega
   have d2 : (k : Int) < (first.length : Int) := by omega
   clear hx
   rcases h8 : (x == 8) with _ | _
   ·have HS : Hid (turnL l first i s = setR l i k s) := Lib.hid (by
     have h9 := HK.out
     rw [turnL, marksB_stop first i m (by omega) HM.out (.inr (by rw [h9, HX.out]; simpa using h8)), h9])
    go_wp2_with fail
    (try simp only [Exit.inBlock, Exit.then])
    exact bodyPost_end (results_none rfl _ _ _) rfl ⟨rfl, by rw [HS.out]; exact HR.out, HB.out, HG.out⟩
   ·obtain ⟨u1, hc1⟩ : ∃ u, wr.cell? ⟨g, k, none⟩ = some u := ⟨_, HR.out.cell (by simp [setR_length]; omega)⟩
    have hf1 := HR.out.free k
    go_wp2_with (first
     | (refine store_row intsT wr B _ _ g k c .i64 s (ints .i64 (setR l i k s)) w rfl rfl rfl rfl rfl HR.out (by simp [setR_length]; omega) HB.out ?_; intro w2 r2 b2' g2; rw [ints_set, setR_next l i k s (by omega)] at r2; have R2 := Lib.hid r2; have B2 := Lib.hid b2'; have G2 := Lib.hid g2; clear r2 b2' g2)
     | fail)
    go_roundw
    case rel =>
     have h9 := HK.out
     refine ⟨m + 1, by omega, by rw [show i + 1 + (m + 1) = k + 1 by omega]; go_num, Lib.hid (fun j hj => ?_), by rw [show i + 1 + (m + 1) = k + 1 by omega]; exact R2.out, B2.out, HG.out.trans G2.out⟩
     by_cases hjm : j = m
     ·subst hjm; rw [h9, HX.out]; simpa using h8
     ·exact HM.out j (by omega)
    case measure => simp [intOf]; omega
  ·have HS : Hid (turnL l first i s = setR l i k s) := Lib.hid (by
    have h9 := HK.out
    have h10 := HE.out
    rw [turnL, marksB_stop first i m (by omega) HM.out (.inl (by omega)), h9])
   go_wp2_with fail
   (try simp only [Exit.inBlock, Exit.then])
   exact bodyPost_end (results_none rfl _ _ _) rfl ⟨rfl, by rw [HS.out]; exact HR.out, HB.out, HG.out⟩
end Go.Proofs.YtcbaahlahohfmaaGreatDoor
namespace Go.Proofs.YtcbaahlahohfmaaGreatDoor
open Go.RowKit
theorem bracket_any (c k : Int) (w : World) : Calls Tryz.prog 139 #[.int .i64 c, .int .i64 k] w fun e w' =>
 e = .returned (.tuple #[.int .i64 (if k = 13 then (oth c).1 else 0), .bool (decide (k = 13) && (oth c).2.1), .bool (decide (k = 13) && (oth c).2.2)]) ∧ Below w.heap.size w w' := by
 rcases h13 : (k != 13) with _ | _
 ·have hk : k = 13 := by simpa using h13
  rw [if_pos hk, decide_eq_true hk, Bool.true_and, Bool.true_and]
  clear hk
  obtain ⟨⟨o, op, ok⟩, hoth⟩ : ∃ z, oth c = z := ⟨_, rfl⟩
  have HOT := Lib.hid hoth
  rw [hoth]
  clear hoth
  go_enter Tryz.func139, Tryz.ntmps139
  go_wp2_with fail
  refine (other_any c w).mono ?_
  rintro e w1 ⟨rfl, b1⟩
  rw [HOT.out]
  have B1 := Lib.hid b1
  clear b1
  go_wp2_with fail
  go_ret3
  exact ⟨rfl, B1.out⟩
 ·have hk : ¬ k = 13 := by simpa using h13
  rw [if_neg hk, decide_eq_false hk, Bool.false_and, Bool.false_and]
  clear hk
  go_enter Tryz.func139, Tryz.ntmps139
  go_wp2_with fail
  go_ret3
  exact ⟨rfl, Below.refl _ _⟩
set_option maxHeartbeats 4000000 in
theorem bsides_any (A : Option Addr) (l : List Int) (c : Nat) (f t : Int) (w : World) (h : Lies w w.heap.size A (ints .i64 l)) (hl : l.length ≤ 1000) (hf : -9223372036854775808 ≤ f ∧ f ≤ 9223372036854775807) (_ : -9223372036854775808 ≤ t ∧ t ≤ 9223372036854775807) :
 Calls Tryz.prog 144 #[.slice A l.length c, .int .i64 f, .int .i64 t] w fun e w' => e = .returned (.tuple #[.bool (hasL l f t), .bool (hasR l f t)]) ∧ Below w.heap.size w w' := by
 have H := Lib.hid h
 obtain ⟨z0, hz0⟩ : ∃ z, hasL l f t = z := ⟨_, rfl⟩
 obtain ⟨z1, hz1⟩ : ∃ z, hasR l f t = z := ⟨_, rfl⟩
 have Z0 := Lib.hid hz0
 have Z1 := Lib.hid hz1
 rw [hz0, hz1]
 obtain ⟨a, ha⟩ : ∃ a, lowB f = a := ⟨_, rfl⟩
 have HA := Lib.hid ha
 have haf : (a : Int) = max 0 f := by rw [← ha, lowB]; omega
 clear h hz0 hz1 ha
 rcases Decidable.em (f < 0) with h1 | h1
 ·rcases Decidable.em ((l.length : Int) < t) with h2 | h2
  ·have TT := trivial
   go_enter Tryz.func144, Tryz.ntmps144
   go_wp2_with fail
   go_loopw [8, 6, 7] (fun iv lv rv wr => ∃ i : Nat, (a = i ∨ i ≤ highB l t) ∧ a ≤ i ∧ iv = .int .i64 i ∧ lv = .bool (hasS 0 l a i) ∧ rv = .bool (hasS 1 l a i) ∧ wr = w) (fun iv _ _ _ => l.length - (intOf iv).toNat)
   case atStart => exact ⟨a, .inl rfl, Nat.le_refl _, by rw [show (a : Int) = 0 by omega], by rw [hasS_begin], by rw [hasS_begin], rfl⟩
   case round =>
    obtain ⟨i, hi, hia, rfl, rfl, rfl, rfl⟩ := hrel
    obtain ⟨lb, hlb⟩ : ∃ z, hasS 0 l a i = z := ⟨_, rfl⟩
    obtain ⟨rb, hrb⟩ : ∃ z, hasS 1 l a i = z := ⟨_, rfl⟩
    rw [hlb, hrb]
    have HLB := Lib.hid hlb
    have HRB := Lib.hid hrb
    clear hlb hrb
    by_cases hlt : (i : Int) < (l.length : Int)
    ·have hil : i < l.length := by omega
     obtain ⟨p, hp, _, hc⟩ := H.out.int hil
     subst hp
     obtain ⟨x, hx⟩ : ∃ x, l[i] = x := ⟨_, rfl⟩
     rw [hx] at hc
     have HX := Lib.hid hx
     have HL := Lib.hid (hasS_next 0 l a i hia hil)
     have HR := Lib.hid (hasS_next 1 l a i hia hil)
     have b0 : (0 : Int) ≤ (i : Int) := by omega
     have b1 : (i : Int) < (l.length : Int) := by omega
     have hdd : decide ((i : Int) < (l.length : Int)) = true := by simpa using hlt
     clear hx
     obtain ⟨s, hs⟩ : ∃ s, sdB x = s := ⟨_, rfl⟩
     have HS := Lib.hid hs
     clear hs
     go_wp2_with fail
     refine (bside_q x _).mono ?_
     rintro e wq ⟨rfl, rfl⟩
     rw [HS.out]
     rcases h0 : (s == 0) with _ | _
     ·rcases h1 : (s == 1) with _ | _
      ·go_wp2_with fail
       go_roundw
       case rel => exact ⟨i + 1, by first | exact .inr (by unfold highB; omega) | omega, by omega, by go_num, by rw [HL.out, HLB.out, HX.out, HS.out, h0, Bool.or_false], by rw [HR.out, HRB.out, HX.out, HS.out, h1, Bool.or_false], by first | rfl | trivial⟩
       case measure => simp [intOf]; omega
      ·go_wp2_with fail
       go_roundw
       case rel => exact ⟨i + 1, by first | exact .inr (by unfold highB; omega) | omega, by omega, by go_num, by rw [HL.out, HLB.out, HX.out, HS.out, h0, Bool.or_false], by rw [HR.out, HRB.out, HX.out, HS.out, h1, Bool.or_true], by first | rfl | trivial⟩
       case measure => simp [intOf]; omega
     ·have h1 : (s == 1) = false := by simp at h0 ⊢; omega
      go_wp2_with fail
      go_roundw
      case rel => exact ⟨i + 1, by first | exact .inr (by unfold highB; omega) | omega, by omega, by go_num, by rw [HL.out, HLB.out, HX.out, HS.out, h0, Bool.or_true], by rw [HR.out, HRB.out, HX.out, HS.out, h1, Bool.or_false], by first | rfl | trivial⟩
      case measure => simp [intOf]; omega
    ·have hdd : decide ((i : Int) < (l.length : Int)) = false := by simpa using hlt
     have HEND : Hid (lb = z0 ∧ rb = z1) := Lib.hid (by
      rw [← HLB.out, ← HRB.out, ← Z0.out, ← Z1.out, hasL, hasR]
      by_cases hab : a ≤ highB l t
      ·have : i = highB l t := by unfold highB at *; omega
       rw [this, HA.out]; exact ⟨rfl, rfl⟩
      ·rw [hasS_none 0 l (by omega), hasS_none 1 l (by omega), hasS_none 0 l (by rw [HA.out]; omega), hasS_none 1 l (by rw [HA.out]; omega)]; exact ⟨rfl, rfl⟩)
     go_wp2_with fail
     go_ret2
     exact ⟨by rw [HEND.out.1, HEND.out.2]; rfl, Below.refl _ _⟩
  ·have TT := trivial
   go_enter Tryz.func144, Tryz.ntmps144
   go_wp2_with fail
   go_loopw [8, 6, 7] (fun iv lv rv wr => ∃ i : Nat, (a = i ∨ i ≤ highB l t) ∧ a ≤ i ∧ iv = .int .i64 i ∧ lv = .bool (hasS 0 l a i) ∧ rv = .bool (hasS 1 l a i) ∧ wr = w) (fun iv _ _ _ => l.length - (intOf iv).toNat)
   case atStart => exact ⟨a, .inl rfl, Nat.le_refl _, by rw [show (a : Int) = 0 by omega], by rw [hasS_begin], by rw [hasS_begin], rfl⟩
   case round =>
    obtain ⟨i, hi, hia, rfl, rfl, rfl, rfl⟩ := hrel
    obtain ⟨lb, hlb⟩ : ∃ z, hasS 0 l a i = z := ⟨_, rfl⟩
    obtain ⟨rb, hrb⟩ : ∃ z, hasS 1 l a i = z := ⟨_, rfl⟩
    rw [hlb, hrb]
    have HLB := Lib.hid hlb
    have HRB := Lib.hid hrb
    clear hlb hrb
    by_cases hlt : (i : Int) < t
    ·have hil : i < l.length := by omega
     obtain ⟨p, hp, _, hc⟩ := H.out.int hil
     subst hp
     obtain ⟨x, hx⟩ : ∃ x, l[i] = x := ⟨_, rfl⟩
     rw [hx] at hc
     have HX := Lib.hid hx
     have HL := Lib.hid (hasS_next 0 l a i hia hil)
     have HR := Lib.hid (hasS_next 1 l a i hia hil)
     have b0 : (0 : Int) ≤ (i : Int) := by omega
     have b1 : (i : Int) < (l.length : Int) := by omega
     have hdd : decide ((i : Int) < t) = true := by simpa using hlt
     clear hx
     obtain ⟨s, hs⟩ : ∃ s, sdB x = s := ⟨_, rfl⟩
     have HS := Lib.hid hs
     clear hs
     go_wp2_with fail
     refine (bside_q x _).mono ?_
     rintro e wq ⟨rfl, rfl⟩
     rw [HS.out]
     rcases h0 : (s == 0) with _ | _
     ·rcases h1 : (s == 1) with _ | _
      ·go_wp2_with fail
       go_roundw
       case rel => exact ⟨i + 1, by first | exact .inr (by unfold highB; omega) | omega, by omega, by go_num, by rw [HL.out, HLB.out, HX.out, HS.out, h0, Bool.or_false], by rw [HR.out, HRB.out, HX.out, HS.out, h1, Bool.or_false], by first | rfl | trivial⟩
       case measure => simp [intOf]; omega
      ·go_wp2_with fail
       go_roundw
       case rel => exact ⟨i + 1, by first | exact .inr (by unfold highB; omega) | omega, by omega, by go_num, by rw [HL.out, HLB.out, HX.out, HS.out, h0, Bool.or_false], by rw [HR.out, HRB.out, HX.out, HS.out, h1, Bool.or_true], by first | rfl | trivial⟩
       case measure => simp [intOf]; omega
     ·have h1 : (s == 1) = false := by simp at h0 ⊢; omega
      go_wp2_with fail
      go_roundw
      case rel => exact ⟨i + 1, by first | exact .inr (by unfold highB; omega) | omega, by omega, by go_num, by rw [HL.out, HLB.out, HX.out, HS.out, h0, Bool.or_true], by rw [HR.out, HRB.out, HX.out, HS.out, h1, Bool.or_false], by first | rfl | trivial⟩
      case measure => simp [intOf]; omega
    ·have hdd : decide ((i : Int) < t) = false := by simpa using hlt
     have HEND : Hid (lb = z0 ∧ rb = z1) := Lib.hid (by
      rw [← HLB.out, ← HRB.out, ← Z0.out, ← Z1.out, hasL, hasR]
      by_cases hab : a ≤ highB l t
      ·have : i = highB l t := by unfold highB at *; omega
       rw [this, HA.out]; exact ⟨rfl, rfl⟩
      ·rw [hasS_none 0 l (by omega), hasS_none 1 l (by omega), hasS_none 0 l (by rw [HA.out]; omega), hasS_none 1 l (by rw [HA.out]; omega)]; exact ⟨rfl, rfl⟩)
     go_wp2_with fail
     go_ret2
     exact ⟨by rw [HEND.out.1, HEND.out.2]; rfl, Below.refl _ _⟩
 ·rcases Decidable.em ((l.length : Int) < t) with h2 | h2
  ·have TT := trivial
   go_enter Tryz.func144, Tryz.ntmps144
   go_wp2_with fail
   go_loopw [8, 6, 7] (fun iv lv rv wr => ∃ i : Nat, (a = i ∨ i ≤ highB l t) ∧ a ≤ i ∧ iv = .int .i64 i ∧ lv = .bool (hasS 0 l a i) ∧ rv = .bool (hasS 1 l a i) ∧ wr = w) (fun iv _ _ _ => l.length - (intOf iv).toNat)
   case atStart => exact ⟨a, .inl rfl, Nat.le_refl _, by rw [show (a : Int) = f by omega], by rw [hasS_begin], by rw [hasS_begin], rfl⟩
   case round =>
    obtain ⟨i, hi, hia, rfl, rfl, rfl, rfl⟩ := hrel
    obtain ⟨lb, hlb⟩ : ∃ z, hasS 0 l a i = z := ⟨_, rfl⟩
    obtain ⟨rb, hrb⟩ : ∃ z, hasS 1 l a i = z := ⟨_, rfl⟩
    rw [hlb, hrb]
    have HLB := Lib.hid hlb
    have HRB := Lib.hid hrb
    clear hlb hrb
    by_cases hlt : (i : Int) < (l.length : Int)
    ·have hil : i < l.length := by omega
     obtain ⟨p, hp, _, hc⟩ := H.out.int hil
     subst hp
     obtain ⟨x, hx⟩ : ∃ x, l[i] = x := ⟨_, rfl⟩
     rw [hx] at hc
     have HX := Lib.hid hx
     have HL := Lib.hid (hasS_next 0 l a i hia hil)
     have HR := Lib.hid (hasS_next 1 l a i hia hil)
     have b0 : (0 : Int) ≤ (i : Int) := by omega
     have b1 : (i : Int) < (l.length : Int) := by omega
     have hdd : decide ((i : Int) < (l.length : Int)) = true := by simpa using hlt
     clear hx
     obtain ⟨s, hs⟩ : ∃ s, sdB x = s := ⟨_, rfl⟩
     have HS := Lib.hid hs
     clear hs
     go_wp2_with fail
     refine (bside_q x _).mono ?_
     rintro e wq ⟨rfl, rfl⟩
     rw [HS.out]
     rcases h0 : (s == 0) with _ | _
     ·rcases h1 : (s == 1) with _ | _
      ·go_wp2_with fail
       go_roundw
       case rel => exact ⟨i + 1, by first | exact .inr (by unfold highB; omega) | omega, by omega, by go_num, by rw [HL.out, HLB.out, HX.out, HS.out, h0, Bool.or_false], by rw [HR.out, HRB.out, HX.out, HS.out, h1, Bool.or_false], by first | rfl | trivial⟩
       case measure => simp [intOf]; omega
      ·go_wp2_with fail
       go_roundw
       case rel => exact ⟨i + 1, by first | exact .inr (by unfold highB; omega) | omega, by omega, by go_num, by rw [HL.out, HLB.out, HX.out, HS.out, h0, Bool.or_false], by rw [HR.out, HRB.out, HX.out, HS.out, h1, Bool.or_true], by first | rfl | trivial⟩
       case measure => simp [intOf]; omega
     ·have h1 : (s == 1) = false := by simp at h0 ⊢; omega
      go_wp2_with fail
      go_roundw
      case rel => exact ⟨i + 1, by first | exact .inr (by unfold highB; omega) | omega, by omega, by go_num, by rw [HL.out, HLB.out, HX.out, HS.out, h0, Bool.or_true], by rw [HR.out, HRB.out, HX.out, HS.out, h1, Bool.or_false], by first | rfl | trivial⟩
      case measure => simp [intOf]; omega
    ·have hdd : decide ((i : Int) < (l.length : Int)) = false := by simpa using hlt
     have HEND : Hid (lb = z0 ∧ rb = z1) := Lib.hid (by
      rw [← HLB.out, ← HRB.out, ← Z0.out, ← Z1.out, hasL, hasR]
      by_cases hab : a ≤ highB l t
      ·have : i = highB l t := by unfold highB at *; omega
       rw [this, HA.out]; exact ⟨rfl, rfl⟩
      ·rw [hasS_none 0 l (by omega), hasS_none 1 l (by omega), hasS_none 0 l (by rw [HA.out]; omega), hasS_none 1 l (by rw [HA.out]; omega)]; exact ⟨rfl, rfl⟩)
     go_wp2_with fail
     go_ret2
     exact ⟨by rw [HEND.out.1, HEND.out.2]; rfl, Below.refl _ _⟩
  ·have TT := trivial
   go_enter Tryz.func144, Tryz.ntmps144
   go_wp2_with fail
   go_loopw [8, 6, 7] (fun iv lv rv wr => ∃ i : Nat, (a = i ∨ i ≤ highB l t) ∧ a ≤ i ∧ iv = .int .i64 i ∧ lv = .bool (hasS 0 l a i) ∧ rv = .bool (hasS 1 l a i) ∧ wr = w) (fun iv _ _ _ => l.length - (intOf iv).toNat)
   case atStart => exact ⟨a, .inl rfl, Nat.le_refl _, by rw [show (a : Int) = f by omega], by rw [hasS_begin], by rw [hasS_begin], rfl⟩
   case round =>
    obtain ⟨i, hi, hia, rfl, rfl, rfl, rfl⟩ := hrel
    obtain ⟨lb, hlb⟩ : ∃ z, hasS 0 l a i = z := ⟨_, rfl⟩
    obtain ⟨rb, hrb⟩ : ∃ z, hasS 1 l a i = z := ⟨_, rfl⟩
    rw [hlb, hrb]
    have HLB := Lib.hid hlb
    have HRB := Lib.hid hrb
    clear hlb hrb
    by_cases hlt : (i : Int) < t
    ·have hil : i < l.length := by omega
     obtain ⟨p, hp, _, hc⟩ := H.out.int hil
     subst hp
     obtain ⟨x, hx⟩ : ∃ x, l[i] = x := ⟨_, rfl⟩
     rw [hx] at hc
     have HX := Lib.hid hx
     have HL := Lib.hid (hasS_next 0 l a i hia hil)
     have HR := Lib.hid (hasS_next 1 l a i hia hil)
     have b0 : (0 : Int) ≤ (i : Int) := by omega
     have b1 : (i : Int) < (l.length : Int) := by omega
     have hdd : decide ((i : Int) < t) = true := by simpa using hlt
     clear hx
     obtain ⟨s, hs⟩ : ∃ s, sdB x = s := ⟨_, rfl⟩
     have HS := Lib.hid hs
     clear hs
     go_wp2_with fail
     refine (bside_q x _).mono ?_
     rintro e wq ⟨rfl, rfl⟩
     rw [HS.out]
     rcases h0 : (s == 0) with _ | _
     ·rcases h1 : (s == 1) with _ | _
      ·go_wp2_with fail
       go_roundw
       case rel => exact ⟨i + 1, by first | exact .inr (by unfold highB; omega) | omega, by omega, by go_num, by rw [HL.out, HLB.out, HX.out, HS.out, h0, Bool.or_false], by rw [HR.out, HRB.out, HX.out, HS.out, h1, Bool.or_false], by first | rfl | trivial⟩
       case measure => simp [intOf]; omega
      ·go_wp2_with fail
       go_roundw
       case rel => exact ⟨i + 1, by first | exact .inr (by unfold highB; omega) | omega, by omega, by go_num, by rw [HL.out, HLB.out, HX.out, HS.out, h0, Bool.or_false], by rw [HR.out, HRB.out, HX.out, HS.out, h1, Bool.or_true], by first | rfl | trivial⟩
       case measure => simp [intOf]; omega
     ·have h1 : (s == 1) = false := by simp at h0 ⊢; omega
      go_wp2_with fail
      go_roundw
      case rel => exact ⟨i + 1, by first | exact .inr (by unfold highB; omega) | omega, by omega, by go_num, by rw [HL.out, HLB.out, HX.out, HS.out, h0, Bool.or_true], by rw [HR.out, HRB.out, HX.out, HS.out, h1, Bool.or_false], by first | rfl | trivial⟩
      case measure => simp [intOf]; omega
    ·have hdd : decide ((i : Int) < t) = false := by simpa using hlt
     have HEND : Hid (lb = z0 ∧ rb = z1) := Lib.hid (by
      rw [← HLB.out, ← HRB.out, ← Z0.out, ← Z1.out, hasL, hasR]
      by_cases hab : a ≤ highB l t
      ·have : i = highB l t := by unfold highB at *; omega
       rw [this, HA.out]; exact ⟨rfl, rfl⟩
      ·rw [hasS_none 0 l (by omega), hasS_none 1 l (by omega), hasS_none 0 l (by rw [HA.out]; omega), hasS_none 1 l (by rw [HA.out]; omega)]; exact ⟨rfl, rfl⟩)
     go_wp2_with fail
     go_ret2
     exact ⟨by rw [HEND.out.1, HEND.out.2]; rfl, Below.refl _ _⟩
end Go.Proofs.YtcbaahlahohfmaaGreatDoor
