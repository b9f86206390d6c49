/- Shared texts, shaken for one claim. -/
import Derived.RangeFuncBox
import Derived.Test.YtcbaahlahohfmaaGreatDoorZA1
import Derived.Test.YtcbaahlahohfmaaGreatDoorZA6
import Derived.Test.YtcbaahlahohfmaaGreatDoorZA7
import Derived.Test.YtcbaahlahohfmaaGreatDoorZA13
import Derived.Test.YtcbaahlahohfmaaGreatDoorZA20
import Derived.Test.YtcbaahlahohfmaaGreatDoorZA21
import Derived.Test.YtcbaahlahohfmaaGreatDoorZA22
import Derived.Test.YtcbaahlahohfmaaGreatDoorZA24
import Derived.Test.YtcbaahlahohfmaaGreatDoorZA25
import Derived.Test.YtcbaahlahohfmaaGreatDoorZA26
namespace Go.Proofs.YtcbaahlahohfmaaGreatDoor
open Go.RowKit
theorem idx0 (a b : Int) (u : World) : (Instr.index 79 (.agg #[.int .i64 a, .int .i64 b]) (.int .i64 0)).run Tryz.prog u = .ok (.int .i64 a) u := by kernel_rfl
theorem idx1 (a b : Int) (u : World) : (Instr.index 79 (.agg #[.int .i64 a, .int .i64 b]) (.int .i64 1)).run Tryz.prog u = .ok (.int .i64 b) u := by kernel_rfl
set_option maxRecDepth 20000 in
set_option maxHeartbeats 8000000 in
theorem bof_eq (A : Option Addr) (chars : List Int) (c : Nat) (A' : Option Addr) (classes : List Int) (c' : Nat) (A2 : Option Addr) (first : List Int) (c2 : Nat) (level sos : Int) (w : World)
 (h : Lies w w.heap.size A (ints .i64 chars)) (h' : Lies w w.heap.size A' (ints .i64 classes)) (h2 : Lies w w.heap.size A2 (ints .i64 first)) (hl : chars.length ≤ 1000) (hcl : classes.length ≤ 1000) (he : chars.length = classes.length) (hf : first.length = classes.length) :
 Calls Tryz.prog 55 #[.slice A chars.length c, .slice A' classes.length c', .slice A2 first.length c2, .int .i64 level, .int .i64 sos] w
  (Rowed w w.heap.size 3 (ints .i64 (ofB chars classes first level sos))) := by
 have H := Lib.hid h
 have H' := Lib.hid h'
 have H2 := Lib.hid h2
 obtain ⟨P, hP⟩ : ∃ P, pairsI chars classes = P := ⟨_, rfl⟩
 have HPV : Hid (∀ p ∈ P, ∃ a b : Nat, p = ((a : Int), (b : Int)) ∧ a < b ∧ b < classes.length) := Lib.hid (fun p hp => by
  rw [← hP, pairsI, if_pos he] at hp
  obtain ⟨a, b, e1, e2, e3, _⟩ := (pinv chars classes chars.length).each p hp
  exact ⟨a, b, e1, e2, by omega⟩)
 have HP := Lib.hid hP
 obtain ⟨e, hee⟩ : ∃ e, dirL level = e := ⟨_, rfl⟩
 have HD := Lib.hid hee
 have HER := dirL_range level
 rw [hee] at HER
 have HF : Hid (ofB chars classes first level sos = foldN P first e sos classes P.length) := Lib.hid (by rw [ofB, if_pos ⟨he, hf⟩, hP, hee, foldN, List.take_length])
 have hPl : P.length ≤ 1000 := by
  have := (pairs_le chars classes chars.length).1
  rw [pairsI, if_pos he] at hP
  rw [hP] at this; omega
 have hd1 : ((chars.length : Int) != (classes.length : Int)) = false := by simp [he]
 have hd2 : ((first.length : Int) != (classes.length : Int)) = false := by simp [hf]
 have HE := Lib.hid he
 have HFL := Lib.hid hf
 have HERH := Lib.hid HER
 clear h h' h2 hP hee he hf HER
 go_enter Tryz.func55, Tryz.ntmps55
 go_wp2_with fail
 refine (clone_any A' classes c' w H'.out (by omega)).mono ?_
 rintro ed w1 ⟨v1, rfl, o1, b1⟩
 obtain ⟨AL, cL, rfl, _, hLc, _⟩ := o1.form
 have O1 := Lib.hid o1
 have B1 := Lib.hid b1
 simp only [ints, List.length_map] at hLc ⊢
 have Q1 : Hid (Own w1 w.heap.size 3 (.slice AL classes.length cL) (ints .i64 classes)) := Lib.hid (by have := O1.out; simp only [ints, List.length_map] at this; exact this)
 clear o1 b1 O1
 go_wp2_with fail
 refine (bpairs_new A chars c A' classes c' w1 (H.out.up B1.out) (H'.out.up B1.out) hl).mono ?_
 rintro ed w2 ⟨AP, cp, rfl, l2, b2, hnew⟩
 have HNEW := Lib.hid hnew
 rw [HP.out] at l2
 rw [HP.out]
 have L2 := Lib.hid l2
 have B2 := Lib.hid (below_then B1.out b2)
 have Q2 := Lib.hid (Q1.out.below b2 (Nat.le_refl _))
 have hs12 : w1.heap.size ≤ w2.heap.size := b2.size
 have hs01 : w.heap.size ≤ w1.heap.size := B1.out.size
 clear b2 l2 hnew
 go_wp2_with fail
 go_loopw [36] (fun nv wr => ∃ n : Nat, n ≤ P.length ∧ nv = .int .i64 n ∧ Hid (Own wr w.heap.size 3 (.slice AL classes.length cL) (ints .i64 (foldN P first e sos classes n))) ∧ Hid (Lies wr w2.heap.size AP (prC P)) ∧ Hid (Below w.heap.size w wr) ∧ w2.heap.size ≤ wr.heap.size) (fun nv _ => P.length - (intOf nv).toNat)
 case atStart => exact ⟨0, by omega, rfl, Q2, L2, B2, Nat.le_refl _⟩
 case round =>
  obtain ⟨n, hn, rfl, HQ, HPR, HB, hsz⟩ := hrel
  by_cases hlt : n < P.length
  ·obtain ⟨cur, hcur⟩ : ∃ x, foldN P first e sos classes n = x := ⟨_, rfl⟩
   have hcl2 : cur.length = classes.length := by rw [← hcur, foldN_length]
   have HS := Lib.hid (foldN_succ P first e sos classes n hlt)
   rw [hcur] at HQ HS
   obtain ⟨a, b, hab, ha, hbc⟩ := HPV.out _ (List.getElem_mem hlt)
   rw [hab] at HS
   obtain ⟨gp, op, hAP, hgp, z0, z1⟩ := prC_at HPR.out hlt
   subst hAP
   rw [hab] at z0 z1
   have HCL := Lib.hid hcl2
   have n0 : (0 : Int) ≤ (n : Int) := by omega
   have n1 : (n : Int) < (P.length : Int) := by omega
   clear hcur hab hcl2
   go_wp2_with fail
   obtain ⟨wa, hwa⟩ : ∃ u, wr.alloc (.cells #[.int .i64 (a : Int), .int .i64 (b : Int)] 79) = u := ⟨_, rfl⟩
   have HBa : Hid (Below w.heap.size w wa) := Lib.hid (hwa ▸ HB.out.trans ((below_alloc wr _).mono HB.out.size))
   have SB : Hid (∀ w', Below wa.heap.size wa w' → w'.cell? ⟨wr.heap.size, 0, none⟩ = some (.int .i64 (a : Int)) ∧ w'.cell? ⟨wr.heap.size, 1, none⟩ = some (.int .i64 (b : Int))) := Lib.hid fun w' hb => ⟨boxed (hwa ▸ hb) rfl, boxed (hwa ▸ hb) rfl⟩
   have hsza : wa.heap.size = wr.heap.size + 1 := by rw [← hwa]; simp
   have HQa : Hid (Own wa w.heap.size 3 (.slice AL classes.length cL) (ints .i64 cur)) := Lib.hid (hwa ▸ HQ.out.alloc _)
   have HPa : Hid (Lies wa w2.heap.size (some ⟨gp, op, none⟩) (prC P)) := Lib.hid (hwa ▸ HPR.out.alloc (by omega) _)
   rw [hwa]
   obtain ⟨s, hs⟩ : ∃ s, (sideOf cur e sos ((a : Int), (b : Int))).getD (-1) = s := ⟨_, rfl⟩
   have HSV := Lib.hid hs
   obtain ⟨g, cg, hv, hrow⟩ := HQa.out.inRow (by simp; have := HCL.out; omega)
   simp only [List.length_map] at hv
   injection hv with hA hL hC
   subst hA hC
   have RW := Lib.hid hrow
   obtain ⟨ALr, cLr, hvr, hlr, -, -⟩ := hrow.form
   injection hvr with hAr _ hCr
   subst hAr hCr
   have LR := Lib.hid hlr
   clear hwa hs z0 z1 hrow hlr hL
   refine wp_region_held_drew (S := fun w' => w'.cell? ⟨wr.heap.size, 0, none⟩ = some (.int .i64 (a : Int)) ∧ w'.cell? ⟨wr.heap.size, 1, none⟩ = some (.int .i64 (b : Int))) (by kernel_rfl) (SB.out _ (by exact below_same (Below.refl _ wa) rfl rfl rfl rfl)) (fun hHeld => ?_)
   refine' hY 0 ?_
   try simp only [Act.put,ZA,ZB,ZD,ZE,ZF]
   refine' hY 1 ?_
   try simp only [Act.put,ZA,ZB,ZC,ZD,ZE,ZF]
   refine' hY 2 ?_
   try simp only [Act.put,ZA,ZB,ZC,ZD,ZE,ZF]
   refine' hY 4 ?_
   try simp only [Act.put,ZA,ZB,ZC,ZD,ZE,ZF]
   refine hA 3 fun K hK => ?_
   go_simp
   refine (sdir_q level _).mono ?_
   rintro ed wq ⟨rfl, rfl⟩
   rw [HD.out]
   go_wp2_with fail
   refine hK.out _ _ (by exact SB.out _ (by exact below_same (Below.refl _ wa) rfl rfl rfl rfl)) (fun hHeld => ?_)
   clear hK K
   try simp only [Act.put,ZA,ZB,ZC,ZD,ZE,ZF]
   refine hA 5 fun K hK => ?_
   go_simp
   have hbc1 := become_any (some ⟨g, 0, none⟩) cur cL a b e sos wa.drew (LR.out.sameHeap rfl) (by have := HCL.out; omega) (by have := HCL.out; omega) ha (by have := HCL.out; omega) HERH.out
   rw [HCL.out] at hbc1
   refine hbc1.mono ?_
   clear hbc1
   rintro ed w3 ⟨rfl, b_⟩
   rw [HSV.out]
   have B3 : Hid (Below wa.heap.size wa w3) := Lib.hid (undrew (by exact b_))
   clear b_
   go_wp2_with fail
   refine hK.out _ _ (by exact SB.out _ B3.out) (fun hHeld => ?_)
   clear hK K
   try simp only [Act.put,ZA,ZB,ZC,ZD,ZE,ZF]
   refine' hY 6 ?_
   try simp only [Act.put,ZA,ZB,ZC,ZD,ZE,ZF]
   refine wpAnyH_done (by kernel_rfl) ?_ _
   have R3 := Lib.hid (RW.out.below B3.out (Nat.le_refl _))
   have HB3 := Lib.hid (HBa.out.trans (B3.out.mono HBa.out.size))
   have HP3 := Lib.hid (HPa.out.below (B3.out.mono (by omega)))
   have hs3 := B3.out.size
   rcases hst : (s == -1) with _ | _
   ·have HSD : Hid (sideOf cur e sos ((a : Int), (b : Int)) = some s) := Lib.hid (by
     have h1 := HSV.out
     cases hso : sideOf cur e sos ((a : Int), (b : Int)) with
     | none => rw [hso] at h1; simp at hst; exact absurd h1.symm hst
     | some x => rw [hso] at h1; exact congrArg some h1)
    go_wp2_with fail
    have hi0 := fun u => idx0 (a : Int) (b : Int) u
    have hi1 := fun u => idx1 (a : Int) (b : Int) u
    refine wp_loop_rounds 3 ?_
    rw [rounds_succ]
    go_wp2_with fail
    have ht := mark_any g cL cur A2 first c2 a s w.heap.size w3 R3.out (H2.out.below HB3.out) (by have := HCL.out; omega) (by rw [HFL.out, HCL.out]) (by rw [HCL.out]; omega)
    rw [HCL.out] at ht
    refine ht.mono ?_
    clear ht
    rintro ed w4 ⟨rfl, r4, b4, g4⟩
    have R4 := Lib.hid r4
    have B4 := Lib.hid b4
    have G4 := Lib.hid g4
    clear r4 b4 g4
    go_wp2_with fail
    rw [rounds_succ]
    go_wp2_with fail
    have ht := mark_any g cL (turnL cur first a s) A2 first c2 b s w.heap.size w4 R4.out (H2.out.below (HB3.out.trans B4.out)) (by rw [turnL_length]; have := HCL.out; omega) (by rw [HFL.out, turnL_length, HCL.out]) (by rw [turnL_length, HCL.out]; omega)
    rw [turnL_length, HCL.out] at ht
    refine ht.mono ?_
    clear ht
    rintro ed w5 ⟨rfl, r5, b5, g5⟩
    have R5 := Lib.hid r5
    have B5 := Lib.hid b5
    have G5 := Lib.hid g5
    clear r5 b5 g5
    go_wp2_with fail
    rw [rounds_succ]
    go_wp2_with fail
    go_roundw
    case rel =>
     refine ⟨n + 1, by omega, by go_num, Lib.hid ?_, ?_, Lib.hid ((HB3.out.trans B4.out).trans B5.out), by have := G4.out.size; have := G5.out.size; omega⟩
     ·rw [HS.out, ofStepB, HSD.out]
      have h1 := R5.out
      unfold Row at h1
      simp only [ints, List.length_map, turnL_length, HCL.out] at h1
      exact h1
     ·have hg1 := (Own.inside Q1.out g rfl).2
      have hne : ∀ p : Addr, some (⟨gp, op, none⟩ : Addr) = some p → p.block ≠ g := fun p hp e => by have := HNEW.out p hp; omega
      have hs4 := G4.out.size
      exact Lib.hid (lies_grown (lies_grown HP3.out G4.out (by omega) hne) G5.out (by omega) hne)
    case measure => simp [intOf]; omega
   ·have HSD : Hid (sideOf cur e sos ((a : Int), (b : Int)) = none) := Lib.hid (by
     have h1 := HSV.out
     cases hso : sideOf cur e sos ((a : Int), (b : Int)) with
     | none => rfl
     | some x =>
      have h2 := sideOf_range HERH.out hso
      rw [hso] at h1
      simp at hst h1
      omega)
    go_wp2_with fail
    go_roundw
    case rel => exact ⟨n + 1, by omega, by go_num, (by rw [HS.out, ofStepB, HSD.out]; have h1 := R3.out; unfold Row at h1; simp only [ints, List.length_map, HCL.out] at h1; exact Lib.hid h1), HP3, HB3, by omega⟩
    case measure => simp [intOf]; omega
  ·obtain rfl : n = P.length := by omega
   go_wp2_with fail
   go_ret
   exact ⟨_, rfl, by rw [HF.out]; exact HQ.out, HB.out⟩
theorem bof_any (A : Option Addr) (chars : List Int) (c : Nat) (A' : Option Addr) (classes : List Int) (c' : Nat) (A2 : Option Addr) (first : List Int) (c2 : Nat) (level sos : Int) (w : World)
 (h : Lies w w.heap.size A (ints .i64 chars)) (h' : Lies w w.heap.size A' (ints .i64 classes)) (h2 : Lies w w.heap.size A2 (ints .i64 first)) (hl : chars.length ≤ 1000) (hl' : classes.length ≤ 1000) (_ : first.length ≤ 1000) :
 Calls Tryz.prog 55 #[.slice A chars.length c, .slice A' classes.length c', .slice A2 first.length c2, .int .i64 level, .int .i64 sos] w
  (Rowed w w.heap.size 3 (ints .i64 (ofB chars classes first level sos))) := by
 by_cases he : chars.length = classes.length ∧ first.length = classes.length
 ·exact bof_eq A chars c A' classes c' A2 first c2 level sos w h h' h2 hl hl' he.1 he.2
 ·have H' := Lib.hid h'
  have hB : ofB chars classes first level sos = classes := by rw [ofB, if_neg he]
  rw [hB]
  clear h h' h2 hB
  rcases h1 : ((chars.length : Int) != (classes.length : Int)) with _ | _
  ·have h3 : ((first.length : Int) != (classes.length : Int)) = true := by
    simp at h1 ⊢
    omega
   go_enter Tryz.func55, Tryz.ntmps55
   go_wp2_with fail
   refine (clone_any A' classes c' w H'.out (by omega)).mono ?_
   rintro ed w1 ⟨v1, rfl, o1, b1⟩
   have O1 := Lib.hid o1
   have B1 := Lib.hid b1
   clear o1 b1
   go_wp2_with fail
   go_ret
   exact ⟨_, rfl, O1.out, B1.out⟩
  ·go_enter Tryz.func55, Tryz.ntmps55
   go_wp2_with fail
   refine (clone_any A' classes c' w H'.out (by omega)).mono ?_
   rintro ed w1 ⟨v1, rfl, o1, b1⟩
   have O1 := Lib.hid o1
   have B1 := Lib.hid b1
   clear o1 b1
   go_wp2_with fail
   go_ret
   exact ⟨_, rfl, O1.out, B1.out⟩
end Go.Proofs.YtcbaahlahohfmaaGreatDoor
namespace Go.Proofs.YtcbaahlahohfmaaGreatDoor
open Go.RowKit
set_option maxHeartbeats 1000000 in
theorem wcounted_any (k : Int) (w : World) (hT : ClsTabs w) : Calls Tryz.prog 133 #[.int .i64 k] w fun ed w' => ed = .returned (.int .i64 (plainK k)) ∧ w = w' := by
 have hw := wordOf_isEmpty k
 by_cases h : k < 0 ∨ 22 < k
 ·rw [decide_eq_true h] at hw
  have hz : plainK k = 0 := by rw [plainK, if_neg (by omega)]
  rw [hz]
  clear h
  go_enter Tryz.func133, Tryz.ntmps133
  go_wp2_with fail
  refine (word_any k w hT).mono ?_
  rintro e wq ⟨rfl, rfl⟩
  go_wp2_with fail
  go_ret
  exact ⟨rfl, rfl⟩
 ·rw [decide_eq_false h] at hw
  have hz : plainK k = k := by rw [plainK, if_pos (by omega)]
  rw [hz]
  clear h
  go_enter Tryz.func133, Tryz.ntmps133
  go_wp2_with fail
  refine (word_any k w hT).mono ?_
  rintro e wq ⟨rfl, rfl⟩
  go_wp2_with fail
  go_ret
  exact ⟨rfl, rfl⟩
set_option maxHeartbeats 1000000 in
theorem wside_any (s : Int) (w : World) : Calls Tryz.prog 93 #[.int .i64 s] w fun ed w' => ed = .returned (.int .i64 (sideK s)) ∧ w = w' := by
 rcases h : (s == 1) with _ | _
 ·have hz : sideK s = 0 := by rw [sideK, if_neg (by simpa using h)]
  rw [hz]
  go_enter Tryz.func93, Tryz.ntmps93
  go_wp2
  go_ret
  exact ⟨rfl, rfl⟩
 ·have hz : sideK s = 1 := by rw [sideK, if_pos (by simpa using h)]
  rw [hz]
  go_enter Tryz.func93, Tryz.ntmps93
  go_wp2
  go_ret
  exact ⟨rfl, rfl⟩
def isAt (l : List Int) (i k : Int) : Bool := decide (0 ≤ i ∧ l[i.toNat]? = some k)
set_option maxHeartbeats 1000000 in
theorem wis_any (A : Option Addr) (l : List Int) (c : Nat) (i k : Int) (w : World) (h : Lies w w.heap.size A (ints .i64 l)) (_ : l.length ≤ 1000000) :
 Calls Tryz.prog 166 #[.slice A l.length c, .int .i64 i, .int .i64 k] w fun ed w' => ed = .returned (.bool (isAt l i k)) ∧ w = w' := by
 have H := Lib.hid h
 clear h
 by_cases h0 : i < 0
 ·have hz : isAt l i k = false := by rw [isAt, decide_eq_false_iff_not]; omega
  rw [hz]
  have d0 : decide ((0 : Int) ≤ i) = false := by simp; omega
  have d1 : decide (i ≥ 0) = false := by simp; omega
  clear H h0
  go_enter Tryz.func166, Tryz.ntmps166
  go_wp2
  go_ret
  exact ⟨rfl, rfl⟩
 obtain ⟨n, rfl⟩ : ∃ n : Nat, i = n := ⟨i.toNat, by omega⟩
 clear h0
 by_cases hlt : n < l.length
 ·obtain ⟨p, rfl, _, hc⟩ := H.out.int hlt
  have b0 : (0 : Int) ≤ (n : Int) := by omega
  have b1 : (n : Int) < (l.length : Int) := by omega
  obtain ⟨x, hx⟩ : ∃ x, l[n] = x := ⟨_, rfl⟩
  have hz : isAt l n k = (x == k) := by
   rw [isAt, Int.toNat_natCast, List.getElem?_eq_getElem hlt, hx]
   by_cases hxk : x = k <;> simp [hxk]
  rw [hz]
  rw [hx] at hc
  clear hx hz H
  go_enter Tryz.func166, Tryz.ntmps166
  go_wp2
  go_ret
  exact ⟨rfl, rfl⟩
 ·have hz : isAt l n k = false := by
   rw [isAt, Int.toNat_natCast, List.getElem?_eq_none (by omega)]
   simp
  rw [hz]
  clear H hz
  go_enter Tryz.func166, Tryz.ntmps166
  go_wp2
  go_ret
  exact ⟨rfl, rfl⟩
set_option maxRecDepth 20000 in
set_option maxHeartbeats 4000000 in
theorem each_any (N : Nat) (caps : List Value) (hN : ∀ (xs : Array Value) (u : World), Sem.run Tryz.prog (callFunc N xs) u = .ok (.enter N xs) u) (B g c cc : Nat) (pre l l' post : List Int) (hl : l'.length = l.length) (J : Nat → World → Prop) (w : World)
 (hlen : (pre ++ l ++ post).length ≤ 1000000) (hR : Row w B 3 g c (ints .i64 (pre ++ l ++ post))) (h0 : J 0 w)
 (hC : ∀ (k : Nat) (_ : k < l.length) (wr : World), J k wr → Below B w wr → Row wr B 3 g c (ints .i64 (pre ++ mixL l l' k ++ post)) →
  Calls Tryz.prog N ([Value.int .i64 (k : Int), Value.int .i64 (l.getD k 0)] ++ caps).toArray wr fun ed w' => ed = .returned (.int .i64 (l'.getD k 0)) ∧ J (k + 1) w' ∧ Row w' B 3 g c (ints .i64 (pre ++ mixL l l' k ++ post)) ∧ Below B wr w')
 (hJ : ∀ (k : Nat) (w' : World) (i : Nat) (v : Value), J k w' → J k (w'.setCell ⟨g, i, none⟩ v)) :
 Calls Tryz.prog 131 #[.slice (some ⟨g, pre.length, none⟩) l.length cc, .func (.func N) #[] caps.toArray] w fun ed w' => ed = .returned (.tuple #[]) ∧ J l.length w' ∧ Row w' B 3 g c (ints .i64 (pre ++ l' ++ post)) ∧ Below B w w' := by
 have HC := Lib.hid hC
 have HJ := Lib.hid hJ
 have HR : Hid (Row w B 3 g c (ints .i64 (pre ++ mixL l l' 0 ++ post))) := Lib.hid (by simpa [mixL] using hR)
 have H0 := Lib.hid h0
 have HL := Lib.hid hl
 have hn : l.length ≤ 1000000 := by simp at hlen; omega
 have ho : pre.length ≤ 1000000 := by simp at hlen; omega
 clear hC hJ hR h0 hl hlen
 go_enter Tryz.func131, Tryz.ntmps131
 go_wp2_with fail
 go_loopw [8] (fun i wr => ∃ k : Nat, k ≤ l.length ∧ i = .int .i64 k ∧ Hid (J k wr) ∧ Hid (Below B w wr) ∧ Hid (Row wr B 3 g c (ints .i64 (pre ++ mixL l l' k ++ post)))) (fun i _ => l.length - (intOf i).toNat)
 case atStart => exact ⟨0, by omega, rfl, H0, Lib.hid (Below.refl _ _), HR⟩
 case round =>
  obtain ⟨k, hk, rfl, HJr, HBr, HRr⟩ := hrel
  by_cases hlt : k < l.length
  ·have hg : l.getD k 0 = l[k] := by rw [List.getD_eq_getElem?_getD, List.getElem?_eq_getElem hlt, Option.getD_some]
   have hc : wr.cell? ⟨g, pre.length + k, none⟩ = some (.int .i64 (l.getD k 0)) := by
    have h1 := mixL_get (pre := pre) (post := post) HL.out hlt
    obtain ⟨h2, h3⟩ := List.getElem?_eq_some_iff.1 h1
    rw [HRr.out.cell (j := pre.length + k) (by simpa [ints] using h2), hg]
    simp only [ints, List.getElem_map, h3]
   have b0 : (0 : Int) ≤ (k : Int) := by omega
   have b1 : (k : Int) < (l.length : Int) := by omega
   have HN := HC.out k hlt wr HJr.out HBr.out HRr.out
   obtain ⟨x, hx⟩ : ∃ x, l.getD k 0 = x := ⟨_, rfl⟩
   obtain ⟨y, hy⟩ : ∃ y, l'.getD k 0 = y := ⟨_, rfl⟩
   rw [hx, hy] at HN
   rw [hx] at hc
   have HY := Lib.hid hy
   have HX := Lib.hid hx
   have HN' := Lib.hid HN
   clear HN hx hy hg
   go_wp2_with fail
   refine HN'.out.mono ?_
   rintro e w2 ⟨rfl, j2, r2, b2⟩
   have hf := r2.free (pre.length + k)
   have hc2 : w2.cell? ⟨g, pre.length + k, none⟩ = some (.int .i64 x) := by
    obtain ⟨h2, h3⟩ := List.getElem?_eq_some_iff.1 (mixL_get (pre := pre) (post := post) HL.out hlt)
    rw [r2.cell (j := pre.length + k) (by simpa [ints] using h2), ← HX.out, List.getD_eq_getElem?_getD, List.getElem?_eq_getElem hlt, Option.getD_some]
    simp only [ints, List.getElem_map, h3]
   have J2 := Lib.hid j2
   have R2 := Lib.hid r2
   have B2 := Lib.hid (HBr.out.trans b2)
   clear j2 r2 b2
   go_wp2
   go_roundw
   case rel =>
    refine ⟨k + 1, by omega, by go_num, Lib.hid (HJ.out _ _ _ _ J2.out), Lib.hid (Row.setB B2.out R2.out _ _), Lib.hid ?_⟩
    have := R2.out.set (pre.length + k) (.int .i64 y)
    rw [ints_set, ← HY.out, mixL_set HL.out hlt, HY.out] at this
    exact this
   case measure => simp [intOf]; omega
  ·obtain rfl : k = l.length := by omega
   go_wp2
   refine bodyPost_end (results_none rfl _ _ _) rfl ⟨rfl, HJr.out, ?_, HBr.out⟩
   have := HRr.out
   rw [mixL, List.take_of_length_le (by rw [HL.out]; omega), List.drop_of_length_le (by omega), List.append_nil] at this
   exact this
set_option maxRecDepth 20000 in
set_option maxHeartbeats 1000000 in
theorem each_nil (N : Nat) (caps : List Value) (A : Option Addr) (cc : Nat) (w : World) :
 Calls Tryz.prog 131 #[.slice A 0 cc, .func (.func N) #[] caps.toArray] w fun ed w' => ed = .returned (.tuple #[]) ∧ w' = w := by
 go_enter Tryz.func131, Tryz.ntmps131
 go_wp2_with fail
 go_loopw [8] (fun i wr => i = .int .i64 0 ∧ wr = w) (fun _ _ => 0)
 case atStart => exact ⟨rfl, rfl⟩
 case round =>
  obtain ⟨rfl, rfl⟩ := hrel
  go_wp2
  refine bodyPost_end (results_none rfl _ _ _) rfl ⟨rfl, rfl⟩
theorem each_own (N : Nat) (caps : List Value) (hN : ∀ (xs : Array Value) (u : World), Sem.run Tryz.prog (callFunc N xs) u = .ok (.enter N xs) u) (B c : Nat) (A : Option Addr) (l l' : List Int) (hl : l'.length = l.length) (J : Nat → World → Prop) (w : World)
 (hlen : l.length ≤ 1000000) (hO : Own w B 3 (.slice A l.length c) (ints .i64 l)) (h0 : J 0 w)
 (hC : ∀ (k : Nat) (_ : k < l.length) (wr : World), J k wr → Below B w wr → Own wr B 3 (.slice A l.length c) (ints .i64 (mixL l l' k)) →
  Calls Tryz.prog N ([Value.int .i64 (k : Int), Value.int .i64 (l.getD k 0)] ++ caps).toArray wr fun ed w' => ed = .returned (.int .i64 (l'.getD k 0)) ∧ J (k + 1) w' ∧ Own w' B 3 (.slice A l.length c) (ints .i64 (mixL l l' k)) ∧ Below B wr w')
 (hJ : ∀ (k : Nat) (w' : World) (g i : Nat) (v : Value), A = some ⟨g, 0, none⟩ → J k w' → J k (w'.setCell ⟨g, i, none⟩ v)) :
 Calls Tryz.prog 131 #[.slice A l.length c, .func (.func N) #[] caps.toArray] w fun ed w' => ed = .returned (.tuple #[]) ∧ J l.length w' ∧ Own w' B 3 (.slice A l.length c) (ints .i64 l') ∧ Below B w w' := by
 by_cases hz : l.length = 0
 ·obtain rfl := List.eq_nil_of_length_eq_zero hz
  obtain rfl := List.eq_nil_of_length_eq_zero (hl.trans hz)
  exact (each_nil N caps A c w).mono fun _ _ ⟨h1, h2⟩ => by subst h2; exact ⟨h1, h0, hO, Below.refl _ _⟩
 have hi : (ints .i64 l).length = l.length := by simp [ints]
 obtain ⟨g, c', hv, hR⟩ := hO.inRow (by omega)
 injection hv with hA _ hc
 subst hA hc
 have e1 : ∀ (u : World) (x : List Int), x.length = l.length → Row u B 3 g c (ints .i64 ([] ++ x ++ [])) = Own u B 3 (.slice (some ⟨g, 0, none⟩) l.length c) (ints .i64 x) := fun u x hx => by
  rw [Row, List.nil_append, List.append_nil]
  congr 2
  simp [ints, hx]
 refine (each_any N caps hN B g c c [] l l' [] hl J w (by simpa using hlen) (by rw [e1 _ _ rfl]; exact hO) h0 ?_ fun k w' i v => hJ k w' g i v rfl).mono fun ed w' ⟨h1, h2, h3, h4⟩ => ⟨h1, h2, by rw [e1 _ _ hl] at h3; exact h3, h4⟩
 intro k hk wr hj hb hr
 have hm := mixL_length hl (Nat.le_of_lt hk)
 rw [e1 _ _ hm] at hr
 exact (hC k hk wr hj hb hr).mono fun _ u ⟨h1, h2, h3, h4⟩ => ⟨h1, h2, by rw [e1 u _ hm]; exact h3, h4⟩
end Go.Proofs.YtcbaahlahohfmaaGreatDoor
namespace Go.Proofs.YtcbaahlahohfmaaGreatDoor
open Go.RowKit
def w1K (p k : Int) : Int := if k = 8 then (if isOpens p ∨ p = 22 then 13 else p) else k
theorem w1_at : ∀ (p : Int) (l : List Int) (k : Nat), k < l.length → w1K ((p :: rW1 p l).getD k 0) (l.getD k 0) = (rW1 p l).getD k 0
 | _, [], k, h => by simp at h
 | p, x :: l, 0, _ => rfl
 | p, x :: l, k + 1, h => by
  have := w1_at (w1K p x) l k (by simpa using h)
  exact this
theorem wS_at (a b : Int) : ∀ (s : Int) (l : List Int) (k : Nat), k < l.length → (if l.getD k 0 = 3 ∧ lastStrong s (l.take k) = a then b else l.getD k 0) = (rWS a b s l).getD k 0
 | _, [], k, h => by simp at h
 | s, x :: l, 0, _ => rfl
 | s, x :: l, k + 1, h => by
  have := wS_at a b (if isStrong x then x else s) l k (by simpa using h)
  exact this
theorem strong_next (l : List Int) (s : Int) {k : Nat} (h : k < l.length) : (if isStrong (l.getD k 0) then l.getD k 0 else lastStrong s (l.take k)) = lastStrong s (l.take (k + 1)) := by
 rw [strong_step l s h, getD_at h]
theorem map_at (f : Int → Int) {l : List Int} {k : Nat} (h : k < l.length) : f (l.getD k 0) = (l.map f).getD k 0 := by
 rw [getD_at h, getD_at (by simpa using h), List.getElem_map]
def w4K (p k : Int) (nx : Option Int) : Int := if (k = 4 ∧ p = 3 ∧ nx = some 3) ∨ (k = 7 ∧ (p = 3 ∨ p = 6) ∧ nx = some p) then p else k
theorem w4_at : ∀ (p : Int) (l : List Int) (k : Nat), k < l.length → w4K ((p :: rW4 p l).getD k 0) (l.getD k 0) l[k + 1]? = (rW4 p l).getD k 0
 | _, [], k, h => by simp at h
 | p, x :: l, 0, _ => by
  show w4K p x (x :: l)[0 + 1]? = _
  rw [Nat.zero_add, List.getElem?_cons_succ, ← List.head?_eq_getElem?]
  rfl
 | p, x :: l, k + 1, h => by
  have := w4_at (w4K p x l.head?) l k (by simpa using h)
  rw [List.getElem?_cons_succ]
  exact this
def Ruled (f : FuncId) (args : List Value) (R : List Int → List Int) : Prop :=
 ∀ (B c : Nat) (A : Option Addr) (l : List Int) (w : World), l.length ≤ 1000000 → B ≤ w.heap.size → Own w B 3 (.slice A l.length c) (ints .i64 l) →
  Calls Tryz.prog f (.slice A l.length c :: args).toArray w fun ed w' => ed = .returned (.tuple #[]) ∧ Own w' B 3 (.slice A l.length c) (ints .i64 (R l)) ∧ Below B w w'
theorem row_own {w : World} {B g c n : Nat} {L : List Int} (hL : L.length = n) : Row w B 3 g c (ints .i64 L) = Own w B 3 (.slice (some ⟨g, 0, none⟩) n c) (ints .i64 L) := by
 rw [Row, ints, List.length_map, hL]
theorem row_int {w : World} {B g c j : Nat} {L : List Int} {x : Int} (h : Row w B 3 g c (ints .i64 L)) (hx : L[j]? = some x) : w.cell? ⟨g, j, none⟩ = some (.int .i64 x) := by
 obtain ⟨hj, rfl⟩ := List.getElem?_eq_some_iff.1 hx
 rw [h.cell (j := j) (by simpa [ints] using hj)]
 simp [ints]
theorem row_lies {w : World} {B g c : Nat} {L : List Int} (h : Row w B 3 g c (ints .i64 L)) : Lies w w.heap.size (some ⟨g, 0, none⟩) (ints .i64 L) := by
 obtain ⟨A, c', hv, hl, _⟩ := Own.form h
 injection hv with hA _ _
 subst hA
 exact hl
theorem ruled_of {f : FuncId} {args : List Value} {R : List Int → List Int} (hR : ∀ l, (R l).length = l.length)
 (h0 : ∀ (A : Option Addr) (c : Nat) (w : World), Calls Tryz.prog f (.slice A 0 c :: args).toArray w fun ed w' => ed = .returned (.tuple #[]) ∧ w = w')
 (h1 : ∀ (B c g : Nat) (l : List Int) (w : World), 0 < l.length → l.length ≤ 1000000 → B ≤ w.heap.size → Row w B 3 g c (ints .i64 l) →
  Calls Tryz.prog f (.slice (some ⟨g, 0, none⟩) l.length c :: args).toArray w fun ed w' => ed = .returned (.tuple #[]) ∧ Row w' B 3 g c (ints .i64 (R l)) ∧ Below B w w') : Ruled f args R := by
 intro B c A l w hl hB hO
 by_cases hz : l.length = 0
 ·obtain rfl := List.eq_nil_of_length_eq_zero hz
  have e : R [] = [] := List.eq_nil_of_length_eq_zero (hR [])
  exact (h0 A c w).mono fun _ _ ⟨a, b⟩ => by subst b; exact ⟨a, by rw [e]; exact hO, Below.refl _ _⟩
 obtain ⟨g, c', hv, hr⟩ := hO.inRow (by simp [ints]; omega)
 injection hv with hA _ hc
 subst hA hc
 exact (h1 B c g l w (by omega) hl hB hr).mono fun _ _ ⟨a, b, d⟩ => ⟨a, by rw [row_own (hR l)] at b; exact b, d⟩
end Go.Proofs.YtcbaahlahohfmaaGreatDoor
namespace Go.Proofs.YtcbaahlahohfmaaGreatDoor
open Go.RowKit
theorem call_ok {N : Nat} {fn : Func} (h : Tryz.prog.funcs[N]? = some fn) (h1 : (fn.name == "runtime.NumGoroutine") = false) (h2 : fn.body.isNone = false) (xs : Array Value) (u : World) :
 Sem.run Tryz.prog (callFunc N xs) u = .ok (.enter N xs) u := by
 have h3 : fn.name ≠ "runtime.NumGoroutine" := by simpa using h1
 have h4 : fn.body ≠ none := by intro e; rw [e] at h2; cases h2
 simp [callFunc, h, h3, h4, go_sem]
theorem known1_any (i k : Int) (w : World) (hT : ClsTabs w) : Calls Tryz.prog 132 #[.int .i64 i, .int .i64 k] w fun ed w' => ed = .returned (.int .i64 (plainK k)) ∧ w = w' := by
 go_enter Tryz.func132, Tryz.ntmps132
 go_wp2_with fail
 refine (wcounted_any k w hT).mono ?_
 rintro e wq ⟨rfl, rfl⟩
 go_wp2
 go_ret
 exact ⟨rfl, rfl⟩
theorem term1_any (i k : Int) (w : World) : Calls Tryz.prog 167 #[.int .i64 i, .int .i64 k] w fun ed w' => ed = .returned (.int .i64 3) ∧ w = w' := by
 go_enter Tryz.func167, Tryz.ntmps167
 go_wp2
 go_ret
 exact ⟨rfl, rfl⟩
set_option maxHeartbeats 1000000 in
theorem marks1_any (i k p : Int) (b : Nat) (w : World) (hb : Boxed w b 3 (.int .i64 p)) :
 Calls Tryz.prog 161 #[.int .i64 i, .int .i64 k, .pointer (some ⟨b, 0, none⟩)] w fun ed w' => ed = .returned (.int .i64 (w1K p k)) ∧ Boxed w' b 3 (.int .i64 (w1K p k)) ∧ w.grownBy w' (some b) := by
 have hc := hb.cell
 have hf := hb.frozen
 have HB := Lib.hid hb
 clear hb
 rcases hk : (k != 8) with _ | _
 ·have hz : w1K p k = if isOpens p ∨ p = 22 then 13 else p := by rw [w1K, if_pos (by simpa using hk)]
  rcases ho : isOpens p with _ | _
  ·have HO := Lib.hid ho
   rcases h2 : (p == 22) with _ | _
   ·have e : w1K p k = p := by
     rw [hz, ho, if_neg]
     simp at h2 ⊢; exact h2
    rw [e]
    clear e hz ho
    go_enter Tryz.func161, Tryz.ntmps161
    go_wp2_with fail
    refine (opens_any p w).mono ?_
    rintro e w1 ⟨rfl, b1⟩
    rw [HO.out]
    have X1 := Lib.hid (HB.out.kept (grown_of_below b1 none) (by simp))
    have hc1 := X1.out.cell
    have B1 := Lib.hid b1
    clear b1
    go_wp2
    go_ret
    exact ⟨rfl, X1.out, grown_of_below B1.out _⟩
   ·have e : w1K p k = 13 := by
     rw [hz, ho, if_pos]
     simp at h2 ⊢; exact h2
    rw [e]
    clear e hz ho
    go_enter Tryz.func161, Tryz.ntmps161
    go_wp2_with fail
    refine (opens_any p w).mono ?_
    rintro e w1 ⟨rfl, b1⟩
    rw [HO.out]
    have X1 := Lib.hid (HB.out.kept (grown_of_below b1 none) (by simp))
    have hc1 := X1.out.cell
    have hf1 := X1.out.frozen
    have B1 := Lib.hid b1
    clear b1
    go_wp2
    go_ret
    exact ⟨rfl, X1.out.set _, (grown_of_below B1.out _).trans (grownBy_setCell' _ _ _)⟩
  ·have HO := Lib.hid ho
   have e : w1K p k = 13 := by rw [hz, ho, if_pos (by simp)]
   rw [e]
   clear e hz ho
   go_enter Tryz.func161, Tryz.ntmps161
   go_wp2_with fail
   refine (opens_any p w).mono ?_
   rintro e w1 ⟨rfl, b1⟩
   rw [HO.out]
   have X1 := Lib.hid (HB.out.kept (grown_of_below b1 none) (by simp))
   have hc1 := X1.out.cell
   have hf1 := X1.out.frozen
   have B1 := Lib.hid b1
   clear b1
   go_wp2
   go_ret
   exact ⟨rfl, X1.out.set _, (grown_of_below B1.out _).trans (grownBy_setCell' _ _ _)⟩
 ·have hz : w1K p k = k := by rw [w1K, if_neg (by simpa using hk)]
  rw [hz]
  clear hz
  go_enter Tryz.func161, Tryz.ntmps161
  go_wp2
  go_ret
  exact ⟨rfl, HB.out.set _, grownBy_setCell' _ _ _⟩
set_option maxHeartbeats 1000000 in
theorem numbers1_any (i k s a t : Int) (b b2 b3 : Nat) (w : World) (hb : Boxed w b 3 (.int .i64 s)) (hb2 : Boxed w b2 3 (.int .i64 a)) (hb3 : Boxed w b3 3 (.int .i64 t)) :
 Calls Tryz.prog 162 #[.int .i64 i, .int .i64 k, .pointer (some ⟨b, 0, none⟩), .pointer (some ⟨b2, 0, none⟩), .pointer (some ⟨b3, 0, none⟩)] w
  fun ed w' => ed = .returned (.int .i64 (if k = 3 ∧ s = a then t else k)) ∧ Boxed w' b 3 (.int .i64 (if isStrong k then k else s)) ∧ w.grownBy w' (some b) := by
 have HB := Lib.hid hb
 have HB2 := Lib.hid hb2
 have HB3 := Lib.hid hb3
 clear hb hb2 hb3
 rcases hs : isStrong k with _ | _
 ·have HS := Lib.hid hs
  obtain ⟨r, hr⟩ : ∃ r, (if k = 3 ∧ s = a then t else k) = r := ⟨_, rfl⟩
  rw [hr, if_neg (by simp)]
  have HR := Lib.hid hr
  clear hs hr
  go_enter Tryz.func162, Tryz.ntmps162
  go_wp2_with fail
  refine (strong_any k w).mono ?_
  rintro e w1 ⟨rfl, b1⟩
  rw [HS.out]
  have X1 := Lib.hid (HB.out.kept (grown_of_below b1 none) (by simp))
  have hc1 := X1.out.cell
  have hc2 := (HB2.out.kept (grown_of_below b1 none) (by simp)).cell
  have hc3 := (HB3.out.kept (grown_of_below b1 none) (by simp)).cell
  have B1 := Lib.hid b1
  clear b1
  rcases h3 : (k == 3) with _ | _
  ·have e : r = k := by rw [← HR.out, if_neg]; intro h; simp [h.1] at h3
   subst e
   go_wp2
   go_ret
   exact ⟨rfl, X1.out, grown_of_below B1.out _⟩
  ·rcases h4 : (s == a) with _ | _
   ·have e : r = k := by rw [← HR.out, if_neg]; intro h; simp [h.2] at h4
    subst e
    go_wp2
    go_ret
    exact ⟨rfl, X1.out, grown_of_below B1.out _⟩
   ·have e : r = t := by rw [← HR.out, if_pos]; simpa using And.intro h3 h4
    subst e
    go_wp2
    go_ret
    exact ⟨rfl, X1.out, grown_of_below B1.out _⟩
 ·have HS := Lib.hid hs
  have e : (if k = 3 ∧ s = a then t else k) = k := by
   rw [if_neg]
   rintro ⟨rfl, _⟩
   simp [isStrong] at hs
  rw [e, if_pos rfl]
  clear hs e
  go_enter Tryz.func162, Tryz.ntmps162
  go_wp2_with fail
  refine (strong_any k w).mono ?_
  rintro e w1 ⟨rfl, b1⟩
  rw [HS.out]
  have X1 := Lib.hid (HB.out.kept (grown_of_below b1 none) (by simp))
  have hc1 := X1.out.cell
  have hf1 := X1.out.frozen
  have B1 := Lib.hid b1
  clear b1
  go_wp2
  go_ret
  exact ⟨rfl, X1.out.set _, (grown_of_below B1.out _).trans (grownBy_setCell' _ _ _)⟩
set_option maxHeartbeats 400000 in
theorem contains_any (A : Option Addr) (l : List Int) (c : Nat) (v : Int) (w : World) (h : Lies w w.heap.size A (ints .i64 l)) (hl : l.length ≤ 1000000) :
 Calls Tryz.prog 149 #[.slice A l.length c, .int .i64 v] w fun e w' => e = .returned (.bool (decide (v ∈ l))) ∧ w = w' := by
 have H := Lib.hid h
 clear h
 go_enter Tryz.func149, Tryz.ntmps149
 go_wp2_with fail
 refine (index_any _ _ _ _ _ _ H.out (by omega)).mono ?_
 rintro e w' ⟨n, rfl, hn, rfl⟩
 have HN := Lib.hid hn
 clear hn
 go_wp2
 go_ret
 exact ⟨ret_bool (by simp [HN.out]), rfl⟩
set_option maxHeartbeats 1000000 in
theorem exchange1_any (i k t : Int) (A : Option Addr) (l : List Int) (c : Nat) (b b2 : Nat) (w : World) (hb : Boxed w b 22 (.slice A l.length c)) (hb2 : Boxed w b2 3 (.int .i64 t)) (h : Lies w w.heap.size A (ints .i64 l)) (hl : l.length ≤ 1000000) :
 Calls Tryz.prog 163 #[.int .i64 i, .int .i64 k, .pointer (some ⟨b, 0, none⟩), .pointer (some ⟨b2, 0, none⟩)] w
  fun ed w' => ed = .returned (.int .i64 (if k ∈ l then t else k)) ∧ w = w' := by
 have hc := hb.cell
 have hc2 := hb2.cell
 have H := Lib.hid h
 clear hb hb2 h
 rcases hd : decide (k ∈ l) with _ | _
 ·have HD := Lib.hid hd
  rw [if_neg (by simpa using hd)]
  clear hd
  go_enter Tryz.func163, Tryz.ntmps163
  go_wp2_with fail
  refine (contains_any A l c k w H.out hl).mono ?_
  rintro e wq ⟨rfl, rfl⟩
  rw [HD.out]
  go_wp2
  go_ret
  exact ⟨rfl, rfl⟩
 ·have HD := Lib.hid hd
  rw [if_pos (by simpa using hd)]
  clear hd
  go_enter Tryz.func163, Tryz.ntmps163
  go_wp2_with fail
  refine (contains_any A l c k w H.out hl).mono ?_
  rintro e wq ⟨rfl, rfl⟩
  rw [HD.out]
  go_wp2
  go_ret
  exact ⟨rfl, rfl⟩
set_option maxHeartbeats 1000000 in
theorem within_any (i m : Int) (hi : 0 ≤ i ∧ i ≤ 1000000) (A : Option Addr) (l : List Int) (c : Nat) (b b2 : Nat) (w : World) (hb : Boxed w b 22 (.slice A l.length c)) (hb2 : Boxed w b2 3 (.int .i64 i)) (h : Lies w w.heap.size A (ints .i64 l)) (hl : l.length ≤ 1000000) :
 Calls Tryz.prog 165 #[.int .i64 m, .pointer (some ⟨b, 0, none⟩), .pointer (some ⟨b2, 0, none⟩)] w
  fun ed w' => ed = .returned (.bool (isAt l (i - 1) m && isAt l (i + 1) m)) ∧ w = w' := by
 have hc := hb.cell
 have hc2 := hb2.cell
 have H := Lib.hid h
 have w1 : IntKind.i64.wrap (i - 1) = i - 1 := IntWalk.i64_in _ (by omega)
 have w2 : IntKind.i64.wrap (i + 1) = i + 1 := IntWalk.i64_in _ (by omega)
 clear hb hb2 h
 rcases hd : isAt l (i - 1) m with _ | _
 ·have HD := Lib.hid hd
  rw [Bool.false_and]
  clear hd
  go_enter Tryz.func165, Tryz.ntmps165
  go_wp2_with fail
  refine (wis_any A l c (i - 1) m w H.out hl).mono ?_
  rintro e wq ⟨rfl, rfl⟩
  rw [HD.out]
  go_wp2
  go_ret
  exact ⟨rfl, rfl⟩
 ·have HD := Lib.hid hd
  rw [Bool.true_and]
  clear hd
  go_enter Tryz.func165, Tryz.ntmps165
  go_wp2_with fail
  refine (wis_any A l c (i - 1) m w H.out hl).mono ?_
  rintro e wq ⟨rfl, rfl⟩
  rw [HD.out]
  go_wp2_with fail
  refine (wis_any A l c (i + 1) m w H.out hl).mono ?_
  rintro e wq ⟨rfl, rfl⟩
  go_wp2
  go_ret
  exact ⟨rfl, rfl⟩
def sepK (l : List Int) (i k : Int) : Int :=
 if (k = 4 ∨ k = 7) ∧ (isAt l (i - 1) 3 && isAt l (i + 1) 3) = true then 3 else if k = 7 ∧ (isAt l (i - 1) 6 && isAt l (i + 1) 6) = true then 6 else k
set_option maxHeartbeats 1000000 in
theorem sep1_any (i k : Int) (hi : 0 ≤ i ∧ i ≤ 1000000) (A : Option Addr) (l : List Int) (c : Nat) (b : Nat) (w : World) (hb : Boxed w b 22 (.slice A l.length c)) (h : Lies w w.heap.size A (ints .i64 l)) (hl : l.length ≤ 1000000) :
 Calls Tryz.prog 164 #[.int .i64 i, .int .i64 k, .pointer (some ⟨b, 0, none⟩)] w
  fun ed w' => ed = .returned (.int .i64 (sepK l i k)) ∧ Below w.heap.size w w' := by
 have HB := Lib.hid (hb.alloc (.cells #[.int .i64 i] 3))
 have HI := Lib.hid (Boxed.new w 3 (.int .i64 i))
 have H := Lib.hid (h.up (below_alloc w (.cells #[.int .i64 i] 3)))
 clear hb h
 rcases h3 : isAt l (i - 1) 3 && isAt l (i + 1) 3 with _ | _
 ·have H3 := Lib.hid h3
  rcases h7 : (k == 7) with _ | _
  ·have e : sepK l i k = k := by
    rw [sepK, if_neg (by rw [h3]; simp), if_neg]
    rintro ⟨rfl, _⟩; simp at h7
   rw [e]
   clear e h3
   rcases h4 : (k == 4) with _ | _
   ·go_enter Tryz.func164, Tryz.ntmps164
    go_wp2
    go_ret
    exact ⟨rfl, below_alloc _ _⟩
   ·go_enter Tryz.func164, Tryz.ntmps164
    go_wp2_with fail
    refine (within_any i 3 hi A l c b w.heap.size _ HB.out HI.out H.out hl).mono ?_
    rintro e wq ⟨rfl, rfl⟩
    rw [H3.out]
    go_wp2
    go_ret
    exact ⟨rfl, below_alloc _ _⟩
  ·obtain rfl : k = 7 := by simpa using h7
   clear h7
   rcases h6 : isAt l (i - 1) 6 && isAt l (i + 1) 6 with _ | _
   ·have H6 := Lib.hid h6
    have e : sepK l i 7 = 7 := by rw [sepK, if_neg (by rw [h3]; simp), if_neg (by rw [h6]; simp)]
    rw [e]
    clear e h3 h6
    go_enter Tryz.func164, Tryz.ntmps164
    go_wp2_with fail
    refine (within_any i 3 hi A l c b w.heap.size _ HB.out HI.out H.out hl).mono ?_
    rintro e wq ⟨rfl, rfl⟩
    rw [H3.out]
    go_wp2_with fail
    refine (within_any i 6 hi A l c b w.heap.size _ HB.out HI.out H.out hl).mono ?_
    rintro e wq ⟨rfl, rfl⟩
    rw [H6.out]
    go_wp2
    go_ret
    exact ⟨rfl, below_alloc _ _⟩
   ·have H6 := Lib.hid h6
    have e : sepK l i 7 = 6 := by rw [sepK, if_neg (by rw [h3]; simp), if_pos ⟨rfl, h6⟩]
    rw [e]
    clear e h3 h6
    go_enter Tryz.func164, Tryz.ntmps164
    go_wp2_with fail
    refine (within_any i 3 hi A l c b w.heap.size _ HB.out HI.out H.out hl).mono ?_
    rintro e wq ⟨rfl, rfl⟩
    rw [H3.out]
    go_wp2_with fail
    refine (within_any i 6 hi A l c b w.heap.size _ HB.out HI.out H.out hl).mono ?_
    rintro e wq ⟨rfl, rfl⟩
    rw [H6.out]
    go_wp2
    go_ret
    exact ⟨rfl, below_alloc _ _⟩
 ·have H3 := Lib.hid h3
  rcases h7 : (k == 7) with _ | _
  ·rcases h4 : (k == 4) with _ | _
   ·have e : sepK l i k = k := by
     simp only [beq_eq_false_iff_ne] at h4 h7
     rw [sepK, if_neg (by rintro ⟨h | h, _⟩ <;> contradiction), if_neg (by rintro ⟨h, _⟩; contradiction)]
    rw [e]
    clear e h3
    go_enter Tryz.func164, Tryz.ntmps164
    go_wp2
    go_ret
    exact ⟨rfl, below_alloc _ _⟩
   ·have e : sepK l i k = 3 := by rw [sepK, if_pos ⟨.inl (by simpa using h4), h3⟩]
    rw [e]
    clear e h3
    go_enter Tryz.func164, Tryz.ntmps164
    go_wp2_with fail
    refine (within_any i 3 hi A l c b w.heap.size _ HB.out HI.out H.out hl).mono ?_
    rintro e wq ⟨rfl, rfl⟩
    rw [H3.out]
    go_wp2
    go_ret
    exact ⟨rfl, below_alloc _ _⟩
  ·obtain rfl : k = 7 := by simpa using h7
   clear h7
   have e : sepK l i 7 = 3 := by rw [sepK, if_pos ⟨.inr rfl, h3⟩]
   rw [e]
   clear e h3
   go_enter Tryz.func164, Tryz.ntmps164
   go_wp2_with fail
   refine (within_any i 3 hi A l c b w.heap.size _ HB.out HI.out H.out hl).mono ?_
   rintro e wq ⟨rfl, rfl⟩
   rw [H3.out]
   go_wp2
   go_ret
   exact ⟨rfl, below_alloc _ _⟩
end Go.Proofs.YtcbaahlahohfmaaGreatDoor
