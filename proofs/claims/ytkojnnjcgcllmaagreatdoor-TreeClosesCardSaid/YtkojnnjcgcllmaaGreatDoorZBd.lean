/- TreeCloses: Behind flags a set has just what is folded, or mirrored, as one of it; closed twice it is as once; of up to 30. Conditions: none. -/
import Derived.Test.YtkojnnjcgcllmaaGreatDoorRows
import Derived.Deep.DeepCutAuto
import Derived.IntWalk
import Derived.Test.YtkojnnjcgcllmaaGreatDoorZB1
import Derived.Test.YtkojnnjcgcllmaaGreatDoorZB6
import Derived.Test.YtkojnnjcgcllmaaGreatDoorZB12
import Derived.Test.YtkojnnjcgcllmaaGreatDoorZB18
namespace Go.Proofs.YtkojnnjcgcllmaaGreatDoor.lawCloses
open Go.ChangeShapes Go.WideShapes Go.ChangeAt Go.RowKit
def kinL (S : List (Int × Int)) (x : Int) (k : Nat) : Bool := (List.range k).any fun j => (fo (j : Int) == fo x) && hasR S (j : Int)
theorem kinL_succ (S : List (Int × Int)) (x : Int) (k : Nat) : kinL S x (k + 1) = (kinL S x k || ((fo (k : Int) == fo x) && hasR S (k : Int))) := by
 simp [kinL, List.range_succ]
theorem kin_is {S : List (Int × Int)} (hS : Canon 0 S) (x : Int) : (kinL S x 7936 || hasR S x) = true ↔ ∃ k, fo k = fo x ∧ hasR S k = true := by
 rw [Bool.or_eq_true]
 constructor
 ·rintro (h | h)
  ·simp only [kinL, List.any_eq_true, Bool.and_eq_true, beq_iff_eq] at h
   obtain ⟨j, -, h1, h2⟩ := h
   exact ⟨_, h1, h2⟩
  ·exact ⟨x, rfl, h⟩
 ·rintro ⟨k, hk, h⟩
  have hin := hS.has h
  by_cases hkx : k = x
  ·rw [hkx] at h
   exact .inr h
  ·have hlt : k < 7936 := by
    have h1 := fo_spec k
    have h2 := fo_spec x
    omega
   refine .inl ?_
   simp only [kinL, List.any_eq_true, Bool.and_eq_true, beq_iff_eq]
   exact ⟨k.toNat, by rw [List.mem_range]; omega, by rw [show ((k.toNat : Nat) : Int) = k by omega]; exact ⟨hk, h⟩⟩
set_option maxRecDepth 20000 in
set_option maxHeartbeats 8000000 in
theorem walk_ok (w : World) (hFT : FoTabs w) (A : Option Addr) (R : List (Int × Int)) (c : Nat) (x : Int) (hl : R.length ≤ 30) (h : Lies w w.heap.size A (prC R)) :
 Calls Tryz.prog 5 #[.slice A R.length c, .int .i64 x] w fun e w' => e = .returned (.bool true) ∧ Below w.heap.size w w' := by
 have HFT := Lib.hid hFT
 clear hFT
 have LR := Lib.hid h
 have hz1 := (setR_le R).2
 have hz2 := close_fold_len R
 have hz3 := closeR_le false true R
 have hz4 := closeR_le true true R
 have H1 : Hid (hasR (closeR true false R) x = (insB x && (kinL (setR R) x 7936 || hasR (setR R) x))) := Lib.hid (by
  rw [Bool.eq_iff_iff, close_fold (by omega), Bool.and_eq_true, kin_is (setR_canon R)]
  refine and_congr_left fun _ => ?_
  simp [inTop, insB])
 have H2 := Lib.hid (close_mirror (R := R) (by omega) x)
 have H3 : Hid (hasR (closeR true false R) x = true → hasR (closeR true true R) x = true) := Lib.hid fun h => fold_both (by omega) h
 have H4 := Lib.hid (fold_twice (R := R) (by omega))
 have H5 := Lib.hid (both_twice (R := R) (by omega))
 have H6 := Lib.hid (close_none R)
 obtain ⟨S, hS⟩ : ∃ S, setR R = S := ⟨_, rfl⟩
 have HS := Lib.hid hS
 rw [hS] at hz1 H1 H2 H6
 have hb4 := beh_fold (R := R) (by omega)
 have hb5 := beh_both (R := R) (by omega)
 obtain ⟨C, hC⟩ : ∃ C, closeR true false R = C := ⟨_, rfl⟩
 rw [hC] at hz2 H1 H3 H4 hb4
 obtain ⟨M, hM⟩ : ∃ C, closeR false true R = C := ⟨_, rfl⟩
 rw [hM] at hz3 H2
 obtain ⟨D, hD⟩ : ∃ C, closeR true true R = C := ⟨_, rfl⟩
 rw [hD] at hz4 H3 H5 hb5
 have HB4 : Hid (behR (bits .and .i64 1 1 == 1) (bits .and .i64 1 2 == 2) (setR C) = closeR (bits .and .i64 1 1 == 1) (bits .and .i64 1 2 == 2) C) := Lib.hid (by rw [show (bits .and .i64 1 1 == 1) = true by decide, show (bits .and .i64 1 2 == 2) = false by decide]; exact hb4)
 have HB5 : Hid (behR (bits .and .i64 3 1 == 1) (bits .and .i64 3 2 == 2) (setR D) = closeR (bits .and .i64 3 1 == 1) (bits .and .i64 3 2 == 2) D) := Lib.hid (by rw [show (bits .and .i64 3 1 == 1) = true by decide, show (bits .and .i64 3 2 == 2) = true by decide]; exact hb5)
 clear hb4 hb5
 have HC1 : Hid (closeR (bits .and .i64 1 1 == 1) (bits .and .i64 1 2 == 2) R = C) := Lib.hid (by rw [show (bits .and .i64 1 1 == 1) = true by decide, show (bits .and .i64 1 2 == 2) = false by decide]; exact hC)
 have HC2 : Hid (closeR (bits .and .i64 2 1 == 1) (bits .and .i64 2 2 == 2) R = M) := Lib.hid (by rw [show (bits .and .i64 2 1 == 1) = false by decide, show (bits .and .i64 2 2 == 2) = true by decide]; exact hM)
 have HC3 : Hid (closeR (bits .and .i64 3 1 == 1) (bits .and .i64 3 2 == 2) R = D) := Lib.hid (by rw [show (bits .and .i64 3 1 == 1) = true by decide, show (bits .and .i64 3 2 == 2) = true by decide]; exact hD)
 have HC4 : Hid (closeR (bits .and .i64 1 1 == 1) (bits .and .i64 1 2 == 2) C = C) := Lib.hid (by rw [show (bits .and .i64 1 1 == 1) = true by decide, show (bits .and .i64 1 2 == 2) = false by decide]; exact H4.out)
 have HC5 : Hid (closeR (bits .and .i64 3 1 == 1) (bits .and .i64 3 2 == 2) D = D) := Lib.hid (by rw [show (bits .and .i64 3 1 == 1) = true by decide, show (bits .and .i64 3 2 == 2) = true by decide]; exact H5.out)
 have HC6 : Hid (closeR (bits .and .i64 0 1 == 1) (bits .and .i64 0 2 == 2) R = S) := Lib.hid (by rw [show (bits .and .i64 0 1 == 1) = false by decide, show (bits .and .i64 0 2 == 2) = false by decide]; exact H6.out)
 have HX : Hid ((decide (0 ≤ x) && decide (x ≤ topR)) = insB x) := Lib.hid rfl
 obtain ⟨ins, hi⟩ : ∃ b, insB x = b := ⟨_, rfl⟩
 rw [hi] at HX H1
 obtain ⟨p, hp⟩ : ∃ b, hasR S x = b := ⟨_, rfl⟩
 have HP := Lib.hid hp
 rw [hp] at H1 H2
 obtain ⟨kl, hkl⟩ : ∃ b, kinL S x 7936 = b := ⟨_, rfl⟩
 have HKL := Lib.hid hkl
 rw [hkl] at H1
 obtain ⟨mx, hmx⟩ : ∃ b, mir x = b := ⟨_, rfl⟩
 have HMX := Lib.hid hmx
 rw [hmx] at H2
 obtain ⟨q, hq⟩ : ∃ b, hasR S mx = b := ⟨_, rfl⟩
 have HQ := Lib.hid hq
 rw [hq] at H2
 obtain ⟨fx, hfx⟩ : ∃ b, fo x = b := ⟨_, rfl⟩
 have HFX := Lib.hid hfx
 have d1 : decide (30 < (R.length : Int)) = false := decide_eq_false (by omega)
 clear h hS hC hM hD hi hp hkl hmx hq hfx H4 H5 H6
 go_enter Tryz.func5, Tryz.ntmps5
 go_wp2_with fail
 refine (alive_any w HFT.out).mono ?_
 rintro e w1 ⟨rfl, b⟩
 have LR := Lib.hid (LR.out.up b)
 have BB := Lib.hid (b)
 clear b
 go_wp2_with fail
 refine (trclose_any w1 (HFT.out.below BB.out HFT.out.big) A R c 1 LR.out (beh_close _ _ (by omega))).mono ?_
 rintro e w2 ⟨v, rfl, o, b⟩
 rw [HC1.out] at o
 obtain ⟨A1, c1, rfl, l, -, -⟩ := o.form
 have LR := Lib.hid (LR.out.up b)
 have BB := Lib.hid (below_then BB.out b)
 have L1 := Lib.hid l
 clear o b l
 go_wp2_with fail
 refine (trclose_any w2 (HFT.out.below BB.out HFT.out.big) A R c 2 LR.out (beh_close _ _ (by omega))).mono ?_
 rintro e w3 ⟨v, rfl, o, b⟩
 rw [HC2.out] at o
 obtain ⟨A2, c2, rfl, l, -, -⟩ := o.form
 have LR := Lib.hid (LR.out.up b)
 have L1 := Lib.hid (L1.out.up b)
 have BB := Lib.hid (below_then BB.out b)
 have L2 := Lib.hid l
 clear o b l
 go_wp2_with fail
 refine (trclose_any w3 (HFT.out.below BB.out HFT.out.big) A R c 3 LR.out (beh_close _ _ (by omega))).mono ?_
 rintro e w4 ⟨v, rfl, o, b⟩
 rw [HC3.out] at o
 obtain ⟨A3, c3, rfl, l, -, -⟩ := o.form
 have LR := Lib.hid (LR.out.up b)
 have L1 := Lib.hid (L1.out.up b)
 have L2 := Lib.hid (L2.out.up b)
 have BB := Lib.hid (below_then BB.out b)
 have L3 := Lib.hid l
 clear o b l
 go_wp2_with fail
 refine (trset_any w4 A R c LR.out).mono ?_
 rintro e w5 ⟨v, rfl, o, b⟩
 rw [HS.out] at o
 obtain ⟨A4, c4, rfl, l, -, -⟩ := o.form
 have LR := Lib.hid (LR.out.up b)
 have L1 := Lib.hid (L1.out.up b)
 have L2 := Lib.hid (L2.out.up b)
 have L3 := Lib.hid (L3.out.up b)
 have BB := Lib.hid (below_then BB.out b)
 have L4 := Lib.hid l
 clear o b l
 go_upto_region 7 with fail
 go_cut [9] (fun v wx => v = .bool ins ∧ w5 = wx)
 case first =>
  by_cases h0 : 0 ≤ x
  ·by_cases h1 : x ≤ 1114111
   ·have d2 : decide (0 ≤ x) = true := decide_eq_true h0
    have d3 : decide (x ≤ 1114111) = true := decide_eq_true h1
    have HE : Hid (true = ins) := Lib.hid (by rw [← HX.out]; unfold topR; rw [d2, d3]; rfl)
    clear h0 h1
    go_wp2_with fail
    go_meet
    exact ⟨by rw [HE.out], rfl⟩
   ·have d2 : decide (0 ≤ x) = true := decide_eq_true h0
    have d3 : decide (x ≤ 1114111) = false := decide_eq_false h1
    have HE : Hid (false = ins) := Lib.hid (by rw [← HX.out]; unfold topR; rw [d2, d3]; rfl)
    clear h0 h1
    go_wp2_with fail
    go_meet
    exact ⟨by rw [HE.out], rfl⟩
  ·have d2 : decide (0 ≤ x) = false := decide_eq_false h0
   have HE : Hid (false = ins) := Lib.hid (by rw [← HX.out, d2]; rfl)
   clear h0
   go_wp2_with fail
   go_meet
   exact ⟨by rw [HE.out], rfl⟩
 case rest =>
  obtain ⟨rfl, rfl⟩ := hcut
  go_wp2_with fail
  go_loopw [11, 10] (fun iv kv wr => ∃ k : Nat, k ≤ 7936 ∧ iv = .int .i64 k ∧ kv = .bool (kinL S x k) ∧ w5 = wr) (fun iv _ _ => 7936 - (intOf iv).toNat)
  case atStart => exact ⟨0, by omega, rfl, rfl, rfl⟩
  case round =>
   obtain ⟨k, hk, rfl, rfl, rfl⟩ := hrel
   by_cases hlt : k < 7936
   ·have k0 : (0 : Int) ≤ (k : Int) := by omega
    have k1 : (k : Int) < 7936 := by omega
    have HN := Lib.hid (kinL_succ S x k)
    obtain ⟨f, hf⟩ : ∃ f, fo (k : Int) = f := ⟨_, rfl⟩
    have HF := Lib.hid hf
    obtain ⟨hk1, hhk⟩ : ∃ b, hasR S (k : Int) = b := ⟨_, rfl⟩
    have HK := Lib.hid hhk
    rw [hf, hhk, HFX.out] at HN
    clear hf hhk
    rcases hb : kinL S x k with _ | _
    ·rw [hb] at HN
     rcases he : (f == fx) with _ | _
     ·have HE : Hid (kinL S x (k + 1) = false) := Lib.hid (by rw [HN.out, he]; rfl)
      clear hb
      go_wp2_with fail
      refine (rof_any (k : Int) w5).mono ?_
      rintro e wq ⟨rfl, rfl⟩
      rw [HF.out]
      go_wp2_with fail
      refine (rof_any x w5).mono ?_
      rintro e wq ⟨rfl, rfl⟩
      rw [HFX.out]
      go_wp2_with fail
      go_roundw
      case rel => exact ⟨k + 1, by omega, by go_num, by rw [HE.out], trivial⟩
      case measure => simp [intOf]; omega
     ·have HE : Hid (kinL S x (k + 1) = hk1) := Lib.hid (by rw [HN.out, he]; cases hk1 <;> rfl)
      clear hb
      go_wp2_with fail
      refine (rof_any (k : Int) w5).mono ?_
      rintro e wq ⟨rfl, rfl⟩
      rw [HF.out]
      go_wp2_with fail
      refine (rof_any x w5).mono ?_
      rintro e wq ⟨rfl, rfl⟩
      rw [HFX.out]
      go_wp2_with fail
      refine (rhas16_any w5 _ A4 S c4 (k : Int) L4.out (by omega)).mono ?_
      rintro e wq ⟨rfl, rfl⟩
      rw [HK.out]
      go_wp2_with fail
      go_roundw
      case rel => exact ⟨k + 1, by omega, by go_num, by rw [HE.out], trivial⟩
      case measure => simp [intOf]; omega
    ·have HE : Hid (kinL S x (k + 1) = true) := Lib.hid (by rw [HN.out, hb]; rfl)
     clear hb
     go_wp2_with fail
     go_roundw
     case rel => exact ⟨k + 1, by omega, by go_num, by rw [HE.out], trivial⟩
     case measure => simp [intOf]; omega
   ·obtain rfl : k = 7936 := by omega
    rw [HKL.out]
    obtain ⟨kn, hkn⟩ : ∃ b, (kl || p) = b := ⟨_, rfl⟩
    have HKN := Lib.hid hkn
    rw [hkn] at H1
    clear hkn
    go_upto_region 13 with fail
    go_cut [10] (fun v wx => v = .bool kn ∧ w5 = wx)
    case first =>
     rcases kl with _ | _
     ·have HE : Hid (p = kn) := Lib.hid (by rw [← HKN.out]; cases p <;> rfl)
      go_wp2_with fail
      refine (rhas16_any w5 _ A4 S c4 x L4.out (by omega)).mono ?_
      rintro e wq ⟨rfl, rfl⟩
      rw [HP.out, HE.out]
      go_wp2_with fail
      go_meet
      exact ⟨rfl, rfl⟩
     ·have HE : Hid (true = kn) := Lib.hid (by rw [← HKN.out]; rfl)
      go_wp2_with fail
      go_meet
      exact ⟨by rw [HE.out], rfl⟩
    case rest =>
     obtain ⟨rfl, rfl⟩ := hcut
     have H2q : Hid (hasR M x = (p || q)) := H2
     rcases p with _ | _
     ·rcases q with _ | _
      all_goals
       have H2' : Hid (hasR M x = _) := Lib.hid (by rw [H2q.out] <;> rfl)
       rcases ins with _ | _
       ·have H1' : Hid (hasR C x = false) := Lib.hid (by rw [H1.out]; rfl)
        go_wp2_with fail
        refine (trhas_any w5 A1 C c1 x L1.out (by omega)).mono ?_
        rintro e w6 ⟨rfl, b⟩
        rw [H1'.out]
        have LR := Lib.hid (LR.out.up b)
        have L1 := Lib.hid (L1.out.up b)
        have L2 := Lib.hid (L2.out.up b)
        have L3 := Lib.hid (L3.out.up b)
        have L4 := Lib.hid (L4.out.up b)
        have BB := Lib.hid (below_then BB.out b)
        clear b
        go_wp2_with fail
        refine (trhas_any w6 A2 M c2 x L2.out (by omega)).mono ?_
        rintro e w7 ⟨rfl, b⟩
        rw [H2'.out]
        have LR := Lib.hid (LR.out.up b)
        have L1 := Lib.hid (L1.out.up b)
        have L2 := Lib.hid (L2.out.up b)
        have L3 := Lib.hid (L3.out.up b)
        have L4 := Lib.hid (L4.out.up b)
        have BB := Lib.hid (below_then BB.out b)
        clear b
        go_wp2_with fail
        refine (rhas16_any w7 _ A4 S c4 x L4.out (by omega)).mono ?_
        rintro e wq ⟨rfl, rfl⟩
        rw [HP.out]
        go_wp2_with fail
        refine (rmirror_any x w7).mono ?_
        rintro e w8 ⟨rfl, b⟩
        rw [HMX.out]
        have LR := Lib.hid (LR.out.up b)
        have L1 := Lib.hid (L1.out.up b)
        have L2 := Lib.hid (L2.out.up b)
        have L3 := Lib.hid (L3.out.up b)
        have L4 := Lib.hid (L4.out.up b)
        have BB := Lib.hid (below_then BB.out b)
        clear b
        go_wp2_with fail
        refine (rhas16_any w8 _ A4 S c4 mx L4.out (by omega)).mono ?_
        rintro e wq ⟨rfl, rfl⟩
        rw [HQ.out]
        go_wp2_with fail
        refine (trclose_any w8 (HFT.out.below BB.out HFT.out.big) A1 C c1 1 L1.out HB4.out).mono ?_
        rintro e w9 ⟨v, rfl, o, b⟩
        rw [HC4.out] at o
        obtain ⟨A5, c5, rfl, l, -, -⟩ := o.form
        have LR := Lib.hid (LR.out.up b)
        have L1 := Lib.hid (L1.out.up b)
        have L2 := Lib.hid (L2.out.up b)
        have L3 := Lib.hid (L3.out.up b)
        have L4 := Lib.hid (L4.out.up b)
        have BB := Lib.hid (below_then BB.out b)
        have L5 := Lib.hid l
        clear o b l
        go_wp2_with fail
        refine (rsamesets_any w9 _ _ A5 A1 C C c5 c1 L5.out L1.out (by omega) (by omega)).mono ?_
        rintro e w10 ⟨rfl, b⟩
        rw [show decide (C = C) = true from decide_eq_true rfl]
        have LR := Lib.hid (LR.out.up b)
        have L1 := Lib.hid (L1.out.up b)
        have L2 := Lib.hid (L2.out.up b)
        have L3 := Lib.hid (L3.out.up b)
        have L4 := Lib.hid (L4.out.up b)
        have L5 := Lib.hid (L5.out.up b)
        have BB := Lib.hid (below_then BB.out b)
        clear b
        go_wp2_with fail
        refine (trclose_any w10 (HFT.out.below BB.out HFT.out.big) A3 D c3 3 L3.out HB5.out).mono ?_
        rintro e w11 ⟨v, rfl, o, b⟩
        rw [HC5.out] at o
        obtain ⟨A6, c6, rfl, l, -, -⟩ := o.form
        have LR := Lib.hid (LR.out.up b)
        have L1 := Lib.hid (L1.out.up b)
        have L2 := Lib.hid (L2.out.up b)
        have L3 := Lib.hid (L3.out.up b)
        have L4 := Lib.hid (L4.out.up b)
        have BB := Lib.hid (below_then BB.out b)
        have L6 := Lib.hid l
        clear o b l
        go_wp2_with fail
        refine (rsamesets_any w11 _ _ A6 A3 D D c6 c3 L6.out L3.out (by omega) (by omega)).mono ?_
        rintro e w12 ⟨rfl, b⟩
        rw [show decide (D = D) = true from decide_eq_true rfl]
        have LR := Lib.hid (LR.out.up b)
        have L1 := Lib.hid (L1.out.up b)
        have L2 := Lib.hid (L2.out.up b)
        have L3 := Lib.hid (L3.out.up b)
        have L4 := Lib.hid (L4.out.up b)
        have L6 := Lib.hid (L6.out.up b)
        have BB := Lib.hid (below_then BB.out b)
        clear b
        go_wp2_with fail
        refine (trclose_any w12 (HFT.out.below BB.out HFT.out.big) A R c 0 LR.out (beh_close _ _ (by omega))).mono ?_
        rintro e w13 ⟨v, rfl, o, b⟩
        rw [HC6.out] at o
        obtain ⟨A7, c7, rfl, l, -, -⟩ := o.form
        have LR := Lib.hid (LR.out.up b)
        have L1 := Lib.hid (L1.out.up b)
        have L2 := Lib.hid (L2.out.up b)
        have L3 := Lib.hid (L3.out.up b)
        have L4 := Lib.hid (L4.out.up b)
        have BB := Lib.hid (below_then BB.out b)
        have L7 := Lib.hid l
        clear o b l
        go_wp2_with fail
        refine (rsamesets_any w13 _ _ A7 A4 S S c7 c4 L7.out L4.out (by omega) (by omega)).mono ?_
        rintro e w14 ⟨rfl, b⟩
        rw [show decide (S = S) = true from decide_eq_true rfl]
        have LR := Lib.hid (LR.out.up b)
        have L1 := Lib.hid (L1.out.up b)
        have L2 := Lib.hid (L2.out.up b)
        have L3 := Lib.hid (L3.out.up b)
        have L4 := Lib.hid (L4.out.up b)
        have L7 := Lib.hid (L7.out.up b)
        have BB := Lib.hid (below_then BB.out b)
        clear b
        go_wp2_with fail
        refine (trhas_any w14 A1 C c1 x L1.out (by omega)).mono ?_
        rintro e w15 ⟨rfl, b⟩
        rw [H1'.out]
        have LR := Lib.hid (LR.out.up b)
        have L1 := Lib.hid (L1.out.up b)
        have L2 := Lib.hid (L2.out.up b)
        have L3 := Lib.hid (L3.out.up b)
        have L4 := Lib.hid (L4.out.up b)
        have L7 := Lib.hid (L7.out.up b)
        have BB := Lib.hid (below_then BB.out b)
        clear b
        go_wp2_with fail
        go_ret
        exact ⟨rfl, BB.out⟩
       ·rcases kn with _ | _
        ·have H1' : Hid (hasR C x = false) := Lib.hid (by rw [H1.out]; rfl)
         go_wp2_with fail
         refine (trhas_any w5 A1 C c1 x L1.out (by omega)).mono ?_
         rintro e w6 ⟨rfl, b⟩
         rw [H1'.out]
         have LR := Lib.hid (LR.out.up b)
         have L1 := Lib.hid (L1.out.up b)
         have L2 := Lib.hid (L2.out.up b)
         have L3 := Lib.hid (L3.out.up b)
         have L4 := Lib.hid (L4.out.up b)
         have BB := Lib.hid (below_then BB.out b)
         clear b
         go_wp2_with fail
         refine (trhas_any w6 A2 M c2 x L2.out (by omega)).mono ?_
         rintro e w7 ⟨rfl, b⟩
         rw [H2'.out]
         have LR := Lib.hid (LR.out.up b)
         have L1 := Lib.hid (L1.out.up b)
         have L2 := Lib.hid (L2.out.up b)
         have L3 := Lib.hid (L3.out.up b)
         have L4 := Lib.hid (L4.out.up b)
         have BB := Lib.hid (below_then BB.out b)
         clear b
         go_wp2_with fail
         refine (rhas16_any w7 _ A4 S c4 x L4.out (by omega)).mono ?_
         rintro e wq ⟨rfl, rfl⟩
         rw [HP.out]
         go_wp2_with fail
         refine (rmirror_any x w7).mono ?_
         rintro e w8 ⟨rfl, b⟩
         rw [HMX.out]
         have LR := Lib.hid (LR.out.up b)
         have L1 := Lib.hid (L1.out.up b)
         have L2 := Lib.hid (L2.out.up b)
         have L3 := Lib.hid (L3.out.up b)
         have L4 := Lib.hid (L4.out.up b)
         have BB := Lib.hid (below_then BB.out b)
         clear b
         go_wp2_with fail
         refine (rhas16_any w8 _ A4 S c4 mx L4.out (by omega)).mono ?_
         rintro e wq ⟨rfl, rfl⟩
         rw [HQ.out]
         go_wp2_with fail
         refine (trclose_any w8 (HFT.out.below BB.out HFT.out.big) A1 C c1 1 L1.out HB4.out).mono ?_
         rintro e w9 ⟨v, rfl, o, b⟩
         rw [HC4.out] at o
         obtain ⟨A5, c5, rfl, l, -, -⟩ := o.form
         have LR := Lib.hid (LR.out.up b)
         have L1 := Lib.hid (L1.out.up b)
         have L2 := Lib.hid (L2.out.up b)
         have L3 := Lib.hid (L3.out.up b)
         have L4 := Lib.hid (L4.out.up b)
         have BB := Lib.hid (below_then BB.out b)
         have L5 := Lib.hid l
         clear o b l
         go_wp2_with fail
         refine (rsamesets_any w9 _ _ A5 A1 C C c5 c1 L5.out L1.out (by omega) (by omega)).mono ?_
         rintro e w10 ⟨rfl, b⟩
         rw [show decide (C = C) = true from decide_eq_true rfl]
         have LR := Lib.hid (LR.out.up b)
         have L1 := Lib.hid (L1.out.up b)
         have L2 := Lib.hid (L2.out.up b)
         have L3 := Lib.hid (L3.out.up b)
         have L4 := Lib.hid (L4.out.up b)
         have L5 := Lib.hid (L5.out.up b)
         have BB := Lib.hid (below_then BB.out b)
         clear b
         go_wp2_with fail
         refine (trclose_any w10 (HFT.out.below BB.out HFT.out.big) A3 D c3 3 L3.out HB5.out).mono ?_
         rintro e w11 ⟨v, rfl, o, b⟩
         rw [HC5.out] at o
         obtain ⟨A6, c6, rfl, l, -, -⟩ := o.form
         have LR := Lib.hid (LR.out.up b)
         have L1 := Lib.hid (L1.out.up b)
         have L2 := Lib.hid (L2.out.up b)
         have L3 := Lib.hid (L3.out.up b)
         have L4 := Lib.hid (L4.out.up b)
         have BB := Lib.hid (below_then BB.out b)
         have L6 := Lib.hid l
         clear o b l
         go_wp2_with fail
         refine (rsamesets_any w11 _ _ A6 A3 D D c6 c3 L6.out L3.out (by omega) (by omega)).mono ?_
         rintro e w12 ⟨rfl, b⟩
         rw [show decide (D = D) = true from decide_eq_true rfl]
         have LR := Lib.hid (LR.out.up b)
         have L1 := Lib.hid (L1.out.up b)
         have L2 := Lib.hid (L2.out.up b)
         have L3 := Lib.hid (L3.out.up b)
         have L4 := Lib.hid (L4.out.up b)
         have L6 := Lib.hid (L6.out.up b)
         have BB := Lib.hid (below_then BB.out b)
         clear b
         go_wp2_with fail
         refine (trclose_any w12 (HFT.out.below BB.out HFT.out.big) A R c 0 LR.out (beh_close _ _ (by omega))).mono ?_
         rintro e w13 ⟨v, rfl, o, b⟩
         rw [HC6.out] at o
         obtain ⟨A7, c7, rfl, l, -, -⟩ := o.form
         have LR := Lib.hid (LR.out.up b)
         have L1 := Lib.hid (L1.out.up b)
         have L2 := Lib.hid (L2.out.up b)
         have L3 := Lib.hid (L3.out.up b)
         have L4 := Lib.hid (L4.out.up b)
         have BB := Lib.hid (below_then BB.out b)
         have L7 := Lib.hid l
         clear o b l
         go_wp2_with fail
         refine (rsamesets_any w13 _ _ A7 A4 S S c7 c4 L7.out L4.out (by omega) (by omega)).mono ?_
         rintro e w14 ⟨rfl, b⟩
         rw [show decide (S = S) = true from decide_eq_true rfl]
         have LR := Lib.hid (LR.out.up b)
         have L1 := Lib.hid (L1.out.up b)
         have L2 := Lib.hid (L2.out.up b)
         have L3 := Lib.hid (L3.out.up b)
         have L4 := Lib.hid (L4.out.up b)
         have L7 := Lib.hid (L7.out.up b)
         have BB := Lib.hid (below_then BB.out b)
         clear b
         go_wp2_with fail
         refine (trhas_any w14 A1 C c1 x L1.out (by omega)).mono ?_
         rintro e w15 ⟨rfl, b⟩
         rw [H1'.out]
         have LR := Lib.hid (LR.out.up b)
         have L1 := Lib.hid (L1.out.up b)
         have L2 := Lib.hid (L2.out.up b)
         have L3 := Lib.hid (L3.out.up b)
         have L4 := Lib.hid (L4.out.up b)
         have L7 := Lib.hid (L7.out.up b)
         have BB := Lib.hid (below_then BB.out b)
         clear b
         go_wp2_with fail
         go_ret
         exact ⟨rfl, BB.out⟩
        ·have H1' : Hid (hasR C x = true) := Lib.hid (by rw [H1.out]; rfl)
         have H3' : Hid (hasR D x = true) := Lib.hid (H3.out H1'.out)
         go_wp2_with fail
         refine (trhas_any w5 A1 C c1 x L1.out (by omega)).mono ?_
         rintro e w6 ⟨rfl, b⟩
         rw [H1'.out]
         have LR := Lib.hid (LR.out.up b)
         have L1 := Lib.hid (L1.out.up b)
         have L2 := Lib.hid (L2.out.up b)
         have L3 := Lib.hid (L3.out.up b)
         have L4 := Lib.hid (L4.out.up b)
         have BB := Lib.hid (below_then BB.out b)
         clear b
         go_wp2_with fail
         refine (trhas_any w6 A2 M c2 x L2.out (by omega)).mono ?_
         rintro e w7 ⟨rfl, b⟩
         rw [H2'.out]
         have LR := Lib.hid (LR.out.up b)
         have L1 := Lib.hid (L1.out.up b)
         have L2 := Lib.hid (L2.out.up b)
         have L3 := Lib.hid (L3.out.up b)
         have L4 := Lib.hid (L4.out.up b)
         have BB := Lib.hid (below_then BB.out b)
         clear b
         go_wp2_with fail
         refine (rhas16_any w7 _ A4 S c4 x L4.out (by omega)).mono ?_
         rintro e wq ⟨rfl, rfl⟩
         rw [HP.out]
         go_wp2_with fail
         refine (rmirror_any x w7).mono ?_
         rintro e w8 ⟨rfl, b⟩
         rw [HMX.out]
         have LR := Lib.hid (LR.out.up b)
         have L1 := Lib.hid (L1.out.up b)
         have L2 := Lib.hid (L2.out.up b)
         have L3 := Lib.hid (L3.out.up b)
         have L4 := Lib.hid (L4.out.up b)
         have BB := Lib.hid (below_then BB.out b)
         clear b
         go_wp2_with fail
         refine (rhas16_any w8 _ A4 S c4 mx L4.out (by omega)).mono ?_
         rintro e wq ⟨rfl, rfl⟩
         rw [HQ.out]
         go_wp2_with fail
         refine (trclose_any w8 (HFT.out.below BB.out HFT.out.big) A1 C c1 1 L1.out HB4.out).mono ?_
         rintro e w9 ⟨v, rfl, o, b⟩
         rw [HC4.out] at o
         obtain ⟨A5, c5, rfl, l, -, -⟩ := o.form
         have LR := Lib.hid (LR.out.up b)
         have L1 := Lib.hid (L1.out.up b)
         have L2 := Lib.hid (L2.out.up b)
         have L3 := Lib.hid (L3.out.up b)
         have L4 := Lib.hid (L4.out.up b)
         have BB := Lib.hid (below_then BB.out b)
         have L5 := Lib.hid l
         clear o b l
         go_wp2_with fail
         refine (rsamesets_any w9 _ _ A5 A1 C C c5 c1 L5.out L1.out (by omega) (by omega)).mono ?_
         rintro e w10 ⟨rfl, b⟩
         rw [show decide (C = C) = true from decide_eq_true rfl]
         have LR := Lib.hid (LR.out.up b)
         have L1 := Lib.hid (L1.out.up b)
         have L2 := Lib.hid (L2.out.up b)
         have L3 := Lib.hid (L3.out.up b)
         have L4 := Lib.hid (L4.out.up b)
         have L5 := Lib.hid (L5.out.up b)
         have BB := Lib.hid (below_then BB.out b)
         clear b
         go_wp2_with fail
         refine (trclose_any w10 (HFT.out.below BB.out HFT.out.big) A3 D c3 3 L3.out HB5.out).mono ?_
         rintro e w11 ⟨v, rfl, o, b⟩
         rw [HC5.out] at o
         obtain ⟨A6, c6, rfl, l, -, -⟩ := o.form
         have LR := Lib.hid (LR.out.up b)
         have L1 := Lib.hid (L1.out.up b)
         have L2 := Lib.hid (L2.out.up b)
         have L3 := Lib.hid (L3.out.up b)
         have L4 := Lib.hid (L4.out.up b)
         have BB := Lib.hid (below_then BB.out b)
         have L6 := Lib.hid l
         clear o b l
         go_wp2_with fail
         refine (rsamesets_any w11 _ _ A6 A3 D D c6 c3 L6.out L3.out (by omega) (by omega)).mono ?_
         rintro e w12 ⟨rfl, b⟩
         rw [show decide (D = D) = true from decide_eq_true rfl]
         have LR := Lib.hid (LR.out.up b)
         have L1 := Lib.hid (L1.out.up b)
         have L2 := Lib.hid (L2.out.up b)
         have L3 := Lib.hid (L3.out.up b)
         have L4 := Lib.hid (L4.out.up b)
         have L6 := Lib.hid (L6.out.up b)
         have BB := Lib.hid (below_then BB.out b)
         clear b
         go_wp2_with fail
         refine (trclose_any w12 (HFT.out.below BB.out HFT.out.big) A R c 0 LR.out (beh_close _ _ (by omega))).mono ?_
         rintro e w13 ⟨v, rfl, o, b⟩
         rw [HC6.out] at o
         obtain ⟨A7, c7, rfl, l, -, -⟩ := o.form
         have LR := Lib.hid (LR.out.up b)
         have L1 := Lib.hid (L1.out.up b)
         have L2 := Lib.hid (L2.out.up b)
         have L3 := Lib.hid (L3.out.up b)
         have L4 := Lib.hid (L4.out.up b)
         have BB := Lib.hid (below_then BB.out b)
         have L7 := Lib.hid l
         clear o b l
         go_wp2_with fail
         refine (rsamesets_any w13 _ _ A7 A4 S S c7 c4 L7.out L4.out (by omega) (by omega)).mono ?_
         rintro e w14 ⟨rfl, b⟩
         rw [show decide (S = S) = true from decide_eq_true rfl]
         have LR := Lib.hid (LR.out.up b)
         have L1 := Lib.hid (L1.out.up b)
         have L2 := Lib.hid (L2.out.up b)
         have L3 := Lib.hid (L3.out.up b)
         have L4 := Lib.hid (L4.out.up b)
         have L7 := Lib.hid (L7.out.up b)
         have BB := Lib.hid (below_then BB.out b)
         clear b
         go_wp2_with fail
         refine (trhas_any w14 A1 C c1 x L1.out (by omega)).mono ?_
         rintro e w15 ⟨rfl, b⟩
         rw [H1'.out]
         have LR := Lib.hid (LR.out.up b)
         have L1 := Lib.hid (L1.out.up b)
         have L2 := Lib.hid (L2.out.up b)
         have L3 := Lib.hid (L3.out.up b)
         have L4 := Lib.hid (L4.out.up b)
         have L7 := Lib.hid (L7.out.up b)
         have BB := Lib.hid (below_then BB.out b)
         clear b
         go_wp2_with fail
         refine (trhas_any w15 A3 D c3 x L3.out (by omega)).mono ?_
         rintro e w16 ⟨rfl, b⟩
         rw [H3'.out]
         have LR := Lib.hid (LR.out.up b)
         have L1 := Lib.hid (L1.out.up b)
         have L2 := Lib.hid (L2.out.up b)
         have L3 := Lib.hid (L3.out.up b)
         have L4 := Lib.hid (L4.out.up b)
         have L7 := Lib.hid (L7.out.up b)
         have BB := Lib.hid (below_then BB.out b)
         clear b
         go_wp2_with fail
         go_ret
         exact ⟨rfl, BB.out⟩
     ·have H2' : Hid (hasR M x = true) := Lib.hid (by rw [H2q.out] <;> rfl)
      rcases ins with _ | _
      ·have H1' : Hid (hasR C x = false) := Lib.hid (by rw [H1.out]; rfl)
       go_wp2_with fail
       refine (trhas_any w5 A1 C c1 x L1.out (by omega)).mono ?_
       rintro e w6 ⟨rfl, b⟩
       rw [H1'.out]
       have LR := Lib.hid (LR.out.up b)
       have L1 := Lib.hid (L1.out.up b)
       have L2 := Lib.hid (L2.out.up b)
       have L3 := Lib.hid (L3.out.up b)
       have L4 := Lib.hid (L4.out.up b)
       have BB := Lib.hid (below_then BB.out b)
       clear b
       go_wp2_with fail
       refine (trhas_any w6 A2 M c2 x L2.out (by omega)).mono ?_
       rintro e w7 ⟨rfl, b⟩
       rw [H2'.out]
       have LR := Lib.hid (LR.out.up b)
       have L1 := Lib.hid (L1.out.up b)
       have L2 := Lib.hid (L2.out.up b)
       have L3 := Lib.hid (L3.out.up b)
       have L4 := Lib.hid (L4.out.up b)
       have BB := Lib.hid (below_then BB.out b)
       clear b
       go_wp2_with fail
       refine (rhas16_any w7 _ A4 S c4 x L4.out (by omega)).mono ?_
       rintro e wq ⟨rfl, rfl⟩
       rw [HP.out]
       go_wp2_with fail
       refine (trclose_any w7 (HFT.out.below BB.out HFT.out.big) A1 C c1 1 L1.out HB4.out).mono ?_
       rintro e w8 ⟨v, rfl, o, b⟩
       rw [HC4.out] at o
       obtain ⟨A5, c5, rfl, l, -, -⟩ := o.form
       have LR := Lib.hid (LR.out.up b)
       have L1 := Lib.hid (L1.out.up b)
       have L2 := Lib.hid (L2.out.up b)
       have L3 := Lib.hid (L3.out.up b)
       have L4 := Lib.hid (L4.out.up b)
       have BB := Lib.hid (below_then BB.out b)
       have L5 := Lib.hid l
       clear o b l
       go_wp2_with fail
       refine (rsamesets_any w8 _ _ A5 A1 C C c5 c1 L5.out L1.out (by omega) (by omega)).mono ?_
       rintro e w9 ⟨rfl, b⟩
       rw [show decide (C = C) = true from decide_eq_true rfl]
       have LR := Lib.hid (LR.out.up b)
       have L1 := Lib.hid (L1.out.up b)
       have L2 := Lib.hid (L2.out.up b)
       have L3 := Lib.hid (L3.out.up b)
       have L4 := Lib.hid (L4.out.up b)
       have L5 := Lib.hid (L5.out.up b)
       have BB := Lib.hid (below_then BB.out b)
       clear b
       go_wp2_with fail
       refine (trclose_any w9 (HFT.out.below BB.out HFT.out.big) A3 D c3 3 L3.out HB5.out).mono ?_
       rintro e w10 ⟨v, rfl, o, b⟩
       rw [HC5.out] at o
       obtain ⟨A6, c6, rfl, l, -, -⟩ := o.form
       have LR := Lib.hid (LR.out.up b)
       have L1 := Lib.hid (L1.out.up b)
       have L2 := Lib.hid (L2.out.up b)
       have L3 := Lib.hid (L3.out.up b)
       have L4 := Lib.hid (L4.out.up b)
       have BB := Lib.hid (below_then BB.out b)
       have L6 := Lib.hid l
       clear o b l
       go_wp2_with fail
       refine (rsamesets_any w10 _ _ A6 A3 D D c6 c3 L6.out L3.out (by omega) (by omega)).mono ?_
       rintro e w11 ⟨rfl, b⟩
       rw [show decide (D = D) = true from decide_eq_true rfl]
       have LR := Lib.hid (LR.out.up b)
       have L1 := Lib.hid (L1.out.up b)
       have L2 := Lib.hid (L2.out.up b)
       have L3 := Lib.hid (L3.out.up b)
       have L4 := Lib.hid (L4.out.up b)
       have L6 := Lib.hid (L6.out.up b)
       have BB := Lib.hid (below_then BB.out b)
       clear b
       go_wp2_with fail
       refine (trclose_any w11 (HFT.out.below BB.out HFT.out.big) A R c 0 LR.out (beh_close _ _ (by omega))).mono ?_
       rintro e w12 ⟨v, rfl, o, b⟩
       rw [HC6.out] at o
       obtain ⟨A7, c7, rfl, l, -, -⟩ := o.form
       have LR := Lib.hid (LR.out.up b)
       have L1 := Lib.hid (L1.out.up b)
       have L2 := Lib.hid (L2.out.up b)
       have L3 := Lib.hid (L3.out.up b)
       have L4 := Lib.hid (L4.out.up b)
       have BB := Lib.hid (below_then BB.out b)
       have L7 := Lib.hid l
       clear o b l
       go_wp2_with fail
       refine (rsamesets_any w12 _ _ A7 A4 S S c7 c4 L7.out L4.out (by omega) (by omega)).mono ?_
       rintro e w13 ⟨rfl, b⟩
       rw [show decide (S = S) = true from decide_eq_true rfl]
       have LR := Lib.hid (LR.out.up b)
       have L1 := Lib.hid (L1.out.up b)
       have L2 := Lib.hid (L2.out.up b)
       have L3 := Lib.hid (L3.out.up b)
       have L4 := Lib.hid (L4.out.up b)
       have L7 := Lib.hid (L7.out.up b)
       have BB := Lib.hid (below_then BB.out b)
       clear b
       go_wp2_with fail
       refine (trhas_any w13 A1 C c1 x L1.out (by omega)).mono ?_
       rintro e w14 ⟨rfl, b⟩
       rw [H1'.out]
       have LR := Lib.hid (LR.out.up b)
       have L1 := Lib.hid (L1.out.up b)
       have L2 := Lib.hid (L2.out.up b)
       have L3 := Lib.hid (L3.out.up b)
       have L4 := Lib.hid (L4.out.up b)
       have L7 := Lib.hid (L7.out.up b)
       have BB := Lib.hid (below_then BB.out b)
       clear b
       go_wp2_with fail
       go_ret
       exact ⟨rfl, BB.out⟩
      ·rcases kn with _ | _
       ·have H1' : Hid (hasR C x = false) := Lib.hid (by rw [H1.out]; rfl)
        go_wp2_with fail
        refine (trhas_any w5 A1 C c1 x L1.out (by omega)).mono ?_
        rintro e w6 ⟨rfl, b⟩
        rw [H1'.out]
        have LR := Lib.hid (LR.out.up b)
        have L1 := Lib.hid (L1.out.up b)
        have L2 := Lib.hid (L2.out.up b)
        have L3 := Lib.hid (L3.out.up b)
        have L4 := Lib.hid (L4.out.up b)
        have BB := Lib.hid (below_then BB.out b)
        clear b
        go_wp2_with fail
        refine (trhas_any w6 A2 M c2 x L2.out (by omega)).mono ?_
        rintro e w7 ⟨rfl, b⟩
        rw [H2'.out]
        have LR := Lib.hid (LR.out.up b)
        have L1 := Lib.hid (L1.out.up b)
        have L2 := Lib.hid (L2.out.up b)
        have L3 := Lib.hid (L3.out.up b)
        have L4 := Lib.hid (L4.out.up b)
        have BB := Lib.hid (below_then BB.out b)
        clear b
        go_wp2_with fail
        refine (rhas16_any w7 _ A4 S c4 x L4.out (by omega)).mono ?_
        rintro e wq ⟨rfl, rfl⟩
        rw [HP.out]
        go_wp2_with fail
        refine (trclose_any w7 (HFT.out.below BB.out HFT.out.big) A1 C c1 1 L1.out HB4.out).mono ?_
        rintro e w8 ⟨v, rfl, o, b⟩
        rw [HC4.out] at o
        obtain ⟨A5, c5, rfl, l, -, -⟩ := o.form
        have LR := Lib.hid (LR.out.up b)
        have L1 := Lib.hid (L1.out.up b)
        have L2 := Lib.hid (L2.out.up b)
        have L3 := Lib.hid (L3.out.up b)
        have L4 := Lib.hid (L4.out.up b)
        have BB := Lib.hid (below_then BB.out b)
        have L5 := Lib.hid l
        clear o b l
        go_wp2_with fail
        refine (rsamesets_any w8 _ _ A5 A1 C C c5 c1 L5.out L1.out (by omega) (by omega)).mono ?_
        rintro e w9 ⟨rfl, b⟩
        rw [show decide (C = C) = true from decide_eq_true rfl]
        have LR := Lib.hid (LR.out.up b)
        have L1 := Lib.hid (L1.out.up b)
        have L2 := Lib.hid (L2.out.up b)
        have L3 := Lib.hid (L3.out.up b)
        have L4 := Lib.hid (L4.out.up b)
        have L5 := Lib.hid (L5.out.up b)
        have BB := Lib.hid (below_then BB.out b)
        clear b
        go_wp2_with fail
        refine (trclose_any w9 (HFT.out.below BB.out HFT.out.big) A3 D c3 3 L3.out HB5.out).mono ?_
        rintro e w10 ⟨v, rfl, o, b⟩
        rw [HC5.out] at o
        obtain ⟨A6, c6, rfl, l, -, -⟩ := o.form
        have LR := Lib.hid (LR.out.up b)
        have L1 := Lib.hid (L1.out.up b)
        have L2 := Lib.hid (L2.out.up b)
        have L3 := Lib.hid (L3.out.up b)
        have L4 := Lib.hid (L4.out.up b)
        have BB := Lib.hid (below_then BB.out b)
        have L6 := Lib.hid l
        clear o b l
        go_wp2_with fail
        refine (rsamesets_any w10 _ _ A6 A3 D D c6 c3 L6.out L3.out (by omega) (by omega)).mono ?_
        rintro e w11 ⟨rfl, b⟩
        rw [show decide (D = D) = true from decide_eq_true rfl]
        have LR := Lib.hid (LR.out.up b)
        have L1 := Lib.hid (L1.out.up b)
        have L2 := Lib.hid (L2.out.up b)
        have L3 := Lib.hid (L3.out.up b)
        have L4 := Lib.hid (L4.out.up b)
        have L6 := Lib.hid (L6.out.up b)
        have BB := Lib.hid (below_then BB.out b)
        clear b
        go_wp2_with fail
        refine (trclose_any w11 (HFT.out.below BB.out HFT.out.big) A R c 0 LR.out (beh_close _ _ (by omega))).mono ?_
        rintro e w12 ⟨v, rfl, o, b⟩
        rw [HC6.out] at o
        obtain ⟨A7, c7, rfl, l, -, -⟩ := o.form
        have LR := Lib.hid (LR.out.up b)
        have L1 := Lib.hid (L1.out.up b)
        have L2 := Lib.hid (L2.out.up b)
        have L3 := Lib.hid (L3.out.up b)
        have L4 := Lib.hid (L4.out.up b)
        have BB := Lib.hid (below_then BB.out b)
        have L7 := Lib.hid l
        clear o b l
        go_wp2_with fail
        refine (rsamesets_any w12 _ _ A7 A4 S S c7 c4 L7.out L4.out (by omega) (by omega)).mono ?_
        rintro e w13 ⟨rfl, b⟩
        rw [show decide (S = S) = true from decide_eq_true rfl]
        have LR := Lib.hid (LR.out.up b)
        have L1 := Lib.hid (L1.out.up b)
        have L2 := Lib.hid (L2.out.up b)
        have L3 := Lib.hid (L3.out.up b)
        have L4 := Lib.hid (L4.out.up b)
        have L7 := Lib.hid (L7.out.up b)
        have BB := Lib.hid (below_then BB.out b)
        clear b
        go_wp2_with fail
        refine (trhas_any w13 A1 C c1 x L1.out (by omega)).mono ?_
        rintro e w14 ⟨rfl, b⟩
        rw [H1'.out]
        have LR := Lib.hid (LR.out.up b)
        have L1 := Lib.hid (L1.out.up b)
        have L2 := Lib.hid (L2.out.up b)
        have L3 := Lib.hid (L3.out.up b)
        have L4 := Lib.hid (L4.out.up b)
        have L7 := Lib.hid (L7.out.up b)
        have BB := Lib.hid (below_then BB.out b)
        clear b
        go_wp2_with fail
        go_ret
        exact ⟨rfl, BB.out⟩
       ·have H1' : Hid (hasR C x = true) := Lib.hid (by rw [H1.out]; rfl)
        have H3' : Hid (hasR D x = true) := Lib.hid (H3.out H1'.out)
        go_wp2_with fail
        refine (trhas_any w5 A1 C c1 x L1.out (by omega)).mono ?_
        rintro e w6 ⟨rfl, b⟩
        rw [H1'.out]
        have LR := Lib.hid (LR.out.up b)
        have L1 := Lib.hid (L1.out.up b)
        have L2 := Lib.hid (L2.out.up b)
        have L3 := Lib.hid (L3.out.up b)
        have L4 := Lib.hid (L4.out.up b)
        have BB := Lib.hid (below_then BB.out b)
        clear b
        go_wp2_with fail
        refine (trhas_any w6 A2 M c2 x L2.out (by omega)).mono ?_
        rintro e w7 ⟨rfl, b⟩
        rw [H2'.out]
        have LR := Lib.hid (LR.out.up b)
        have L1 := Lib.hid (L1.out.up b)
        have L2 := Lib.hid (L2.out.up b)
        have L3 := Lib.hid (L3.out.up b)
        have L4 := Lib.hid (L4.out.up b)
        have BB := Lib.hid (below_then BB.out b)
        clear b
        go_wp2_with fail
        refine (rhas16_any w7 _ A4 S c4 x L4.out (by omega)).mono ?_
        rintro e wq ⟨rfl, rfl⟩
        rw [HP.out]
        go_wp2_with fail
        refine (trclose_any w7 (HFT.out.below BB.out HFT.out.big) A1 C c1 1 L1.out HB4.out).mono ?_
        rintro e w8 ⟨v, rfl, o, b⟩
        rw [HC4.out] at o
        obtain ⟨A5, c5, rfl, l, -, -⟩ := o.form
        have LR := Lib.hid (LR.out.up b)
        have L1 := Lib.hid (L1.out.up b)
        have L2 := Lib.hid (L2.out.up b)
        have L3 := Lib.hid (L3.out.up b)
        have L4 := Lib.hid (L4.out.up b)
        have BB := Lib.hid (below_then BB.out b)
        have L5 := Lib.hid l
        clear o b l
        go_wp2_with fail
        refine (rsamesets_any w8 _ _ A5 A1 C C c5 c1 L5.out L1.out (by omega) (by omega)).mono ?_
        rintro e w9 ⟨rfl, b⟩
        rw [show decide (C = C) = true from decide_eq_true rfl]
        have LR := Lib.hid (LR.out.up b)
        have L1 := Lib.hid (L1.out.up b)
        have L2 := Lib.hid (L2.out.up b)
        have L3 := Lib.hid (L3.out.up b)
        have L4 := Lib.hid (L4.out.up b)
        have L5 := Lib.hid (L5.out.up b)
        have BB := Lib.hid (below_then BB.out b)
        clear b
        go_wp2_with fail
        refine (trclose_any w9 (HFT.out.below BB.out HFT.out.big) A3 D c3 3 L3.out HB5.out).mono ?_
        rintro e w10 ⟨v, rfl, o, b⟩
        rw [HC5.out] at o
        obtain ⟨A6, c6, rfl, l, -, -⟩ := o.form
        have LR := Lib.hid (LR.out.up b)
        have L1 := Lib.hid (L1.out.up b)
        have L2 := Lib.hid (L2.out.up b)
        have L3 := Lib.hid (L3.out.up b)
        have L4 := Lib.hid (L4.out.up b)
        have BB := Lib.hid (below_then BB.out b)
        have L6 := Lib.hid l
        clear o b l
        go_wp2_with fail
        refine (rsamesets_any w10 _ _ A6 A3 D D c6 c3 L6.out L3.out (by omega) (by omega)).mono ?_
        rintro e w11 ⟨rfl, b⟩
        rw [show decide (D = D) = true from decide_eq_true rfl]
        have LR := Lib.hid (LR.out.up b)
        have L1 := Lib.hid (L1.out.up b)
        have L2 := Lib.hid (L2.out.up b)
        have L3 := Lib.hid (L3.out.up b)
        have L4 := Lib.hid (L4.out.up b)
        have L6 := Lib.hid (L6.out.up b)
        have BB := Lib.hid (below_then BB.out b)
        clear b
        go_wp2_with fail
        refine (trclose_any w11 (HFT.out.below BB.out HFT.out.big) A R c 0 LR.out (beh_close _ _ (by omega))).mono ?_
        rintro e w12 ⟨v, rfl, o, b⟩
        rw [HC6.out] at o
        obtain ⟨A7, c7, rfl, l, -, -⟩ := o.form
        have LR := Lib.hid (LR.out.up b)
        have L1 := Lib.hid (L1.out.up b)
        have L2 := Lib.hid (L2.out.up b)
        have L3 := Lib.hid (L3.out.up b)
        have L4 := Lib.hid (L4.out.up b)
        have BB := Lib.hid (below_then BB.out b)
        have L7 := Lib.hid l
        clear o b l
        go_wp2_with fail
        refine (rsamesets_any w12 _ _ A7 A4 S S c7 c4 L7.out L4.out (by omega) (by omega)).mono ?_
        rintro e w13 ⟨rfl, b⟩
        rw [show decide (S = S) = true from decide_eq_true rfl]
        have LR := Lib.hid (LR.out.up b)
        have L1 := Lib.hid (L1.out.up b)
        have L2 := Lib.hid (L2.out.up b)
        have L3 := Lib.hid (L3.out.up b)
        have L4 := Lib.hid (L4.out.up b)
        have L7 := Lib.hid (L7.out.up b)
        have BB := Lib.hid (below_then BB.out b)
        clear b
        go_wp2_with fail
        refine (trhas_any w13 A1 C c1 x L1.out (by omega)).mono ?_
        rintro e w14 ⟨rfl, b⟩
        rw [H1'.out]
        have LR := Lib.hid (LR.out.up b)
        have L1 := Lib.hid (L1.out.up b)
        have L2 := Lib.hid (L2.out.up b)
        have L3 := Lib.hid (L3.out.up b)
        have L4 := Lib.hid (L4.out.up b)
        have L7 := Lib.hid (L7.out.up b)
        have BB := Lib.hid (below_then BB.out b)
        clear b
        go_wp2_with fail
        refine (trhas_any w14 A3 D c3 x L3.out (by omega)).mono ?_
        rintro e w15 ⟨rfl, b⟩
        rw [H3'.out]
        have LR := Lib.hid (LR.out.up b)
        have L1 := Lib.hid (L1.out.up b)
        have L2 := Lib.hid (L2.out.up b)
        have L3 := Lib.hid (L3.out.up b)
        have L4 := Lib.hid (L4.out.up b)
        have L7 := Lib.hid (L7.out.up b)
        have BB := Lib.hid (below_then BB.out b)
        clear b
        go_wp2_with fail
        go_ret
        exact ⟨rfl, BB.out⟩
set_option maxRecDepth 20000 in
set_option maxHeartbeats 1000000 in
theorem walk_long (w : World) (hFT : FoTabs w) (A : Option Addr) (R : List (Int × Int)) (c : Nat) (x : Int) (hl : 30 < R.length) :
 Calls Tryz.prog 5 #[.slice A R.length c, .int .i64 x] w fun e w' => e = .returned (.bool true) ∧ Below w.heap.size w w' := by
 have d1 : decide (30 < (R.length : Int)) = true := decide_eq_true (by omega)
 clear hl
 go_enter Tryz.func5, Tryz.ntmps5
 go_wp2_with fail
 refine (alive_any w hFT).mono ?_
 rintro e w1 ⟨rfl, b1⟩
 have B1 := Lib.hid b1
 clear b1
 go_wp2_with fail
 go_ret
 exact ⟨rfl, B1.out⟩
theorem walk (w : World) (hFT : FoTabs w) (A : Option Addr) (R : List (Int × Int)) (c : Nat) (_ : R.length ≤ c) (_ : c ≤ maxLen) (h : Lies w w.heap.size A (prC R)) (_ : ∀ r ∈ R, (Lit.int .i64 r.1).wf = true ∧ (Lit.int .i64 r.2).wf = true) (x : Int) (_ : (Lit.int .i64 x).wf = true) :
 Calls Tryz.prog 5 #[.slice A R.length c, .int .i64 x] w fun e w' => e = .returned (.bool true) ∧ Below w.heap.size w w' := by
 by_cases hh : 30 < R.length
 ·exact walk_long w hFT A R c x hh
 ·exact walk_ok w hFT A R c x (by omega) h
-- WRAP
theorem spec : LawSpec Rows.treeClosesSpec 2 := ⟨rfl, fun H ds h => by
 match ds, h with
 | [d0, d1], _ => rfl⟩
theorem params_ok : ∀ t ∈ Tryz.f5.params.toList, Tryz.prog.readableRec t = true ∧ t < Tryz.prog.types.size := by
 rw [Tryz.params5]
 intro t ht
 simp only [List.mem_cons, List.mem_nil_iff, or_false] at ht
 rcases ht with rfl | rfl
 all_goals exact ⟨by kernel_rfl, of_decide_eq_true (by kernel_rfl)⟩
set_option maxRecDepth 100000 in
theorem contract (H : Type) (enc : TypeId × Value → H) (W : World) (base : Nat) (args : Array Value) (ds gs : List (DataW H)) (before : List MemPlace)
 (hval : ∀ (j : Nat) t v, Tryz.f5.params[j]? = some t → args[j]? = some v → Value.okWide Tryz.prog W .any base t v)
 (hW : DataW.Whole enc Tryz.prog Tryz.f5.params.toList Rows.treeClosesSpec.vars false W args.toList ds gs before) (hL : laidMetH Tryz.prog laidList W) :
 Calls Tryz.prog 5 args W fun e W' => ∃ v, e = .returned v ∧ Rows.treeClosesSpec.post enc Tryz.prog Tryz.f5 false true false false W args v W' := by
 have hW' := hW
 obtain ⟨p, q, hA0, hV, rfl, hfz, hnd⟩ := hW
 have hA : DataW.TrodAll enc Tryz.prog W 0 (fun _ => true) true Tryz.f5.params.toList args.toList ds p := hA0
 rw [Tryz.params5] at hA hval
 obtain ⟨v0, vs0, d0, ds0, p0, q0, hargs, rfl, rfl, h0, r0⟩ := trodAll_cons hA
 obtain ⟨v1, vs1, d1, ds1, p1, q1, rfl, rfl, rfl, h1, r1⟩ := trodAll_cons r0
 obtain ⟨rfl, rfl, rfl⟩ := trodAll_nil r1
 obtain rfl : args = #[v0, v1] := by cases args; simp_all
 obtain ⟨A0, l0, c0, rfl, hc0, hm0, hl0, wf0⟩ := open_ranges Tryz.underlying22 Tryz.underlying30 (by kernel_rfl) rfl rfl (by kernel_rfl) (by kernel_rfl) Tryz.underlying3 Tryz.underlying3 (hval 0 22 v0 rfl rfl) h0
 obtain ⟨a1, rfl, rfl, rfl, w1⟩ := open_int Tryz.underlying3 (hval 1 3 v1 rfl rfl) h1
 exact (walk W (tabs_of hL) A0 l0 c0 hc0 hm0 hl0 wf0 a1 w1).mono fun e W' ⟨he, hg⟩ => ⟨_, he, law_post spec (by rw [Tryz.params5]; rfl) (by kernel_rfl) params_ok (by kernel_rfl) Tryz.underlying4 hW' hg⟩
set_option maxRecDepth 100000 in
theorem laid_met (os : Os) : laidMet Tryz.prog Rows.treeClosesRow.laid ((laidWorld os #[.slice none 0 0, .int .i64 0]).forCall (fun _ _ => 0) ⟨#[], #[.slice none 0 0, .int .i64 0], []⟩).memory :=
 laidMet_of_run' 8 (by kernel_rfl) (by kernel_rfl)
set_option maxRecDepth 100000 in
theorem reads (os : Os) {H : Type} (enc : TypeId × Value → H) : ∃ places, DataW.whole enc Tryz.prog ((laidWorld os #[.slice none 0 0, .int .i64 0]).forCall (fun _ _ => 0) ⟨#[], #[.slice none 0 0, .int .i64 0], []⟩).memory Tryz.f5.params.toList Rows.treeClosesSpec.vars false #[.slice none 0 0, .int .i64 0].toList 8 = some ([.nil, .lit (.int .i64 0)], [], places) :=
 ⟨[], by kernel_rfl⟩
set_option maxRecDepth 100000 in
theorem lifted (os : Os) (started : os.Started) (H : Type) (enc : TypeId × Value → H) (F : Stop.Interp) :
 ReturnsInHanded {} Tryz.checked os 5 .any ((OpenSpec.ofChange Rows.treeClosesSpec).preRow enc Tryz.prog Tryz.f5 Rows.treeClosesRow.domain false Rows.treeClosesRow.laid) (((OpenSpec.ofChange Rows.treeClosesSpec).at F).post enc Tryz.prog Tryz.f5 false true false false) := by
 obtain ⟨places, hx⟩ := reads os enc
 refine returnsInHanded_of_row (C := Tryz.checked) (s := OpenSpec.ofChange Rows.treeClosesSpec) own started (by kernel_rfl) Tryz.func5
  (witness_row_at (enc := enc) (C := Tryz.checked) false (laidWorld os #[.slice none 0 0, .int .i64 0]) #[.slice none 0 0, .int .i64 0] rfl (by kernel_rfl) (by kernel_rfl) (by kernel_rfl)
   (OpenSpec.preRow_of_cond 8 hx (by kernel_rfl) (fun k hk => by cases hk) (by kernel_rfl) (laid_met os))) ?_
 intro W base args ds gs before hval hW _ _ _ hL _ _
 exact contract H enc W base args ds gs before hval hW hL
set_option maxRecDepth 100000 in
theorem said : Rows.TreeClosesSaid :=
 OpenClaim.holds_of_cond 5 Tryz.f5 rfl rfl rfl rfl rfl rfl rfl ⟨rfl, rfl, rfl, rfl, rfl⟩ rfl rfl rfl rfl rfl (by kernel_rfl) Tryz.func5 (by kernel_rfl)
  (of_decide_eq_true (by kernel_rfl)) (by unfold Func.isWrapper; first | (rw [if_pos (by decide +kernel)]; kernel_rfl) | (rw [if_neg (by decide +kernel)]; exact ⟨rfl, rfl⟩))
  (fun os started H enc _ F => by rw [OpenClaim.pre_eq_preRow]; exact lifted os started H enc F)
set_option maxRecDepth 100000 in
theorem card : Rows.TreeClosesCardSaid :=
 Claim7.holds_tied_plain_at .later [] _ _ _ _ said (fun _ h => by cases h) (by kernel_rfl) (fun _ h => by cases h) treeCloses_row_tie rfl ⟨rfl, rfl⟩ (by kernel_rfl) rfl
  (plainOf "ductus/ductuslaw16.TreeCloses" 5 Tryz.f5 (by kernel_rfl) Tryz.func5 (by kernel_rfl) (fun j t ht => by
   rw [Tryz.params5] at ht
   have hm := Array.mem_of_getElem? ht
   simp only [List.mem_toArray, List.mem_cons, List.mem_nil_iff, or_false] at hm
   rcases hm with rfl | rfl
   all_goals (show Tryz.prog.wantsStandIn _ = false; kernel_rfl))) (by kernel_rfl)
end Go.Proofs.YtkojnnjcgcllmaaGreatDoor.lawCloses
