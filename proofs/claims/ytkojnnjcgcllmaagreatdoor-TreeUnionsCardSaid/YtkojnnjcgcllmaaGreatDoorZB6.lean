/- Shared texts, shaken for one claim. -/
import Derived.Deep.DeepCutAuto
import Derived.Test.YtkojnnjcgcllmaaGreatDoorZB4
import Derived.Test.YtkojnnjcgcllmaaGreatDoorZB5
namespace Go.Proofs.YtkojnnjcgcllmaaGreatDoor
open Go.RowKit
def addA (S : List (Int × Int)) (L : List Int) : List (Int × Int) := (L.filter fun t => hasR S t).map fun t => (fo t, fo t)
def addB (S : List (Int × Int)) (L : List Int) : List (Int × Int) := (L.filter fun t => hasR S (fo t)).map fun t => (t, t)
def addM (S : List (Int × Int)) (L : List Int) : List (Int × Int) := (L.filter fun t => isM t && hasR S t).map fun t => (mir t, mir t)
def upN (k : Nat) : List Int := (List.range k).map Int.ofNat
def closeA (S : List (Int × Int)) : List (Int × Int) := setR (S ++ addA S (turnedN 7936))
def closeB (S : List (Int × Int)) : List (Int × Int) := setR (S ++ addB S (turnedN 7936))
def closeM (S : List (Int × Int)) : List (Int × Int) := setR (S ++ addM S (upN 12544))
def closeF (b : Bool) (R : List (Int × Int)) : List (Int × Int) := if b = true then closeB (closeA (setR R)) else setR R
def closeG (b : Bool) (S : List (Int × Int)) : List (Int × Int) := if b = true then closeM S else S
def closeR (b1 b2 : Bool) (R : List (Int × Int)) : List (Int × Int) := closeG b2 (closeF b1 R)
theorem addA_next {S : List (Int × Int)} {L : List Int} {i : Nat} (h : i < L.length) : addA S (L.take (i + 1)) = addA S (L.take i) ++ (if hasR S L[i] = true then [(fo L[i], fo L[i])] else []) := by
 unfold addA; rw [List.take_succ_eq_append_getElem h, List.filter_append, List.map_append]; congr 1
 by_cases hh : hasR S L[i] = true <;> simp [hh]
theorem addB_next {S : List (Int × Int)} {L : List Int} {i : Nat} (h : i < L.length) : addB S (L.take (i + 1)) = addB S (L.take i) ++ (if hasR S (fo L[i]) = true then [(L[i], L[i])] else []) := by
 unfold addB; rw [List.take_succ_eq_append_getElem h, List.filter_append, List.map_append]; congr 1
 by_cases hh : hasR S (fo L[i]) = true <;> simp [hh]
theorem addM_next {S : List (Int × Int)} {i : Nat} : addM S (upN (i + 1)) = addM S (upN i) ++ (if (isM i && hasR S i) = true then [(mir i, mir i)] else []) := by
 unfold addM upN; rw [List.range_succ, List.map_append, List.filter_append, List.map_append]; congr 1
 by_cases hh : (isM i && hasR S i) = true <;> simp [hh]
theorem addA_len (S : List (Int × Int)) (L : List Int) : (addA S L).length ≤ L.length := by unfold addA; rw [List.length_map]; exact List.length_filter_le _ _
theorem addB_len (S : List (Int × Int)) (L : List Int) : (addB S L).length ≤ L.length := by unfold addB; rw [List.length_map]; exact List.length_filter_le _ _
theorem addM_len (S : List (Int × Int)) (k : Nat) : (addM S (upN k)).length ≤ k := by
 unfold addM upN; rw [List.length_map]
 refine Nat.le_trans (List.length_filter_le _ _) ?_
 simp
set_option maxRecDepth 20000 in
set_option maxHeartbeats 8000000 in
theorem rclose16_any (w : World) (A : Option Addr) (R : List (Int × Int)) (c : Nat) (f : Int) (h : Lies w w.heap.size A (prC R)) :
 Calls Tryz.prog 13 #[.slice A R.length c, .int .i64 f] w (RowedRg w (closeR (bits .and .i64 f 1 == 1) (bits .and .i64 f 2 == 2) R)) := by
 have HL := Lib.hid h
 obtain ⟨f1, hf1⟩ : ∃ b, (bits .and .i64 f 1 == 1) = b := ⟨_, rfl⟩
 obtain ⟨f2, hf2⟩ : ∃ b, (bits .and .i64 f 2 == 2) = b := ⟨_, rfl⟩
 rw [hf1, hf2, closeR]
 obtain ⟨S, hS⟩ : ∃ S, setR R = S := ⟨_, rfl⟩
 have hsn := (setR_le R).1
 have HC0 := Lib.hid (rset16_any w A R c h)
 have HF1 : Hid (closeF f1 R = if f1 = true then closeB (closeA S) else S) := Lib.hid (by unfold closeF; rw [hS])
 rw [hS] at HC0 hsn
 obtain ⟨S1, hS1⟩ : ∃ S1, closeF f1 R = S1 := ⟨_, rfl⟩
 rw [hS1] at HF1 ⊢
 obtain ⟨Z, hZ⟩ : ∃ Z, closeG f2 S1 = Z := ⟨_, rfl⟩
 have HG := Lib.hid hZ
 rw [hZ]
 have hs1n : S1.length ≤ 500 := by
  rw [HF1.out]
  split
  ·exact (setR_le _).1
  ·exact hsn
 clear h hS hS1 hZ
 go_enter Tryz.func13, Tryz.ntmps13
 go_wp2_with fail
 refine HC0.out.mono ?_
 rintro e w1 ⟨v1, rfl, o1, b1⟩
 obtain ⟨n0, hn0⟩ : ∃ n, S.length = n := ⟨_, rfl⟩
 have SN := Lib.hid hn0
 rw [hn0] at o1 hsn
 have O1 := Lib.hid o1
 obtain ⟨A1, c1, rfl, l1, -, -⟩ := o1.form
 have L1 := Lib.hid l1
 have B1 := Lib.hid b1
 clear o1 l1 b1 hn0
 go_upto_if 16 with fail
 go_cut [5] (fun v wx => Hid (OwnN wx w.heap.size 30 2 v S1.length (prC S1)) ∧ Hid (Below w.heap.size w wx))
 case first =>
  rcases f1 with _ | _
  ·have HE : Hid (S1 = S) := Lib.hid (by rw [HF1.out]; rfl)
   go_wp2_with fail
   go_meet
   exact ⟨Lib.hid (by rw [HE.out, SN.out]; exact O1.out), B1⟩
  ·have HE : Hid (S1 = closeB (closeA S)) := Lib.hid (by rw [HF1.out]; rfl)
   go_wp2_with fail
   refine (rturned_any w1).mono ?_
   rintro e w2 ⟨v2, rfl, o2, b2⟩
   obtain ⟨T, hT⟩ : ∃ T, turnedN 7936 = T := ⟨_, rfl⟩
   have TN : Hid (T.length = 131) := Lib.hid (by rw [← hT]; exact turned_few)
   have HTT := Lib.hid hT
   rw [hT] at o2
   obtain ⟨A2, c2, rfl, l2, -, -⟩ := o2.form
   rw [ints, List.length_map, TN.out]
   have B2 := Lib.hid (below_then B1.out b2)
   have L2 := Lib.hid l2
   have L1' := Lib.hid (L1.out.up b2)
   clear o2 l2 b2 hT
   have Ew2 := Lib.hid (OwnN.ofLit (w := w2) (B := w2.heap.size) (e := 30) (size := 2) (n := 0) #[] (Nat.le_refl _) (by simp [maxLen]) rfl)
   go_wp2_with (first
    | (at_builtin; refine appN_at rgT w2 _ w2.heap.size _ _ _ (.slice (some ⟨w2.heap.size, 0, none⟩) 0 0) 0 n0 [] (prC S) _ _ rfl rfl rfl rfl Ew2.out (L1'.out.alloc (Nat.le_refl _) _) (by rw [prC_length]; exact congrArg (· * 2) SN.out) (prC_one _) (below_alloc _ _) (by simp) (by unfold maxLen; omega) (by omega) ?_; intro vm wm om bm _ _; have OM : Hid (OwnN wm w2.heap.size 30 2 vm S.length (prC S)) := Lib.hid (by rw [SN.out]; simpa using om); have BM := Lib.hid bm; clear om bm)
    | fail)
   go_loopw [8, 7] (fun iv ov wr => ∃ i : Nat, i ≤ 131 ∧ iv = .int .i64 i ∧ Hid (OwnN wr w2.heap.size 30 2 ov (S ++ addA S (T.take i)).length (prC (S ++ addA S (T.take i)))) ∧ Hid (Below w2.heap.size w2 wr)) (fun iv _ _ => 131 - (intOf iv).toNat)
   case atStart => exact ⟨0, by omega, rfl, Lib.hid (by rw [List.take_zero, show addA S [] = [] from rfl, List.append_nil]; exact OM.out), BM⟩
   case round =>
    obtain ⟨i, hi, rfl, HO, HB⟩ := hrel
    have hqn : (S ++ addA S (T.take i)).length ≤ 700 := by
     have h1 := addA_len S (T.take i)
     have h2 := SN.out
     rw [List.length_append]
     simp at h1
     omega
    obtain ⟨AO, co, rfl, -, -, -⟩ := HO.out.form
    obtain ⟨Q, hQ⟩ : ∃ Q, S ++ addA S (T.take i) = Q := ⟨_, rfl⟩
    have HQ := Lib.hid hQ
    obtain ⟨no, hno⟩ : ∃ n, Q.length = n := ⟨_, rfl⟩
    have HQN := Lib.hid hno
    rw [hQ] at hqn HO ⊢
    rw [hno] at hqn HO ⊢
    have HBZ : Hid (w2.heap.size ≤ wr.heap.size) := Lib.hid HB.out.size
    clear hQ hno
    by_cases hlt : i < 131
    ·have hltT : i < T.length := by rw [TN.out]; exact hlt
     obtain ⟨p, rfl, hpb, hcx⟩ := (L2.out.below HB.out).int hltT
     have HNX := Lib.hid (addA_next (S := S) hltT)
     obtain ⟨x, hx⟩ : ∃ x, T[i] = x := ⟨_, rfl⟩
     rw [hx] at hcx HNX
     have HSL := Lib.hid ((L1'.out.below HB.out).wider HB.out.size)
     have k0 : (0 : Int) ≤ (i : Int) := by omega
     have k1 : (i : Int) < 131 := by omega
     have HCX : Hid (∀ u : World, Below wr.heap.size wr u → u.cell? (p.add i) = some (.int .i64 x)) := Lib.hid fun u hu => by rw [hu.cell (by rw [add_block]; have := HBZ.out; omega)]; exact hcx
     clear hx hltT hpb
     rcases hh : hasR S x with _ | _
     ·have HE : Hid (S ++ addA S (T.take (i + 1)) = Q) := Lib.hid (by rw [HNX.out, hh, ← HQ.out]; simp)
      have HH := Lib.hid hh
      clear hh
      go_wp2_with fail
      have HAS := rhas16_any wr _ A1 S c1 x HSL.out (by have := SN.out; omega)
      rw [SN.out, HH.out] at HAS
      refine HAS.mono ?_
      clear HAS
      rintro e wq ⟨rfl, rfl⟩
      go_wp2_with fail
      go_roundw
      case rel => exact ⟨i + 1, by omega, by go_num, by rw [HE.out, HQN.out]; exact HO, HB⟩
      case measure => simp [intOf]; omega
     ·have HE : Hid (S ++ addA S (T.take (i + 1)) = Q ++ [(fo x, fo x)]) := Lib.hid (by rw [HNX.out, hh, ← HQ.out]; simp)
      have HH := Lib.hid hh
      clear hh
      go_wp2_with fail
      have HAS := rhas16_any wr _ A1 S c1 x HSL.out (by have := SN.out; omega)
      rw [SN.out, HH.out] at HAS
      refine HAS.mono ?_
      clear HAS
      rintro e wq ⟨rfl, rfl⟩
      go_wp2_with fail
      refine (rof_any x wr).mono ?_
      rintro e wq ⟨rfl, rfl⟩
      go_wp2_with fail
      refine (rone16_any (fo x) wr).mono ?_
      rintro e wx ⟨rfl, bx⟩
      have BX := Lib.hid bx
      have HLIT := Lib.hid (rg_lit wx (fo x, fo x))
      clear bx
      go_wp2_with (first
       | (at_builtin; refine appN_at rgT wr _ w2.heap.size _ _ _ (.slice AO no co) no 1 (prC Q) (prC [(fo x, fo x)]) _ _ rfl rfl rfl rfl ((HO.out.below BX.out (Nat.le_refl _)).alloc _) HLIT.out rfl (prC_one _) (((BX.out.mono HBZ.out)).alloc (by have := BX.out.size; have := HBZ.out; omega) _) (by have := BX.out.size; have := HBZ.out; simp; omega) (by unfold maxLen; omega) (by omega) ?_; intro v9 w9 o9 b9 _ _; have O9 : Hid (OwnN w9 w2.heap.size 30 2 v9 (Q ++ [(fo x, fo x)]).length (prC (Q ++ [(fo x, fo x)]))) := Lib.hid (by rw [prC_append, List.length_append, HQN.out]; exact o9); have B9 := Lib.hid (HB.out.trans b9); clear o9 b9)
       | fail)
      go_roundw
      case rel => exact ⟨i + 1, by omega, by go_num, by rw [HE.out]; exact O9, B9⟩
      case measure => simp [intOf]; omega
    ·obtain rfl : i = 131 := by omega
     have HQ2 : Hid (S ++ addA S T = Q) := Lib.hid (by have := HQ.out; rwa [List.take_of_length_le (by rw [TN.out]; exact Nat.le_refl _)] at this)
     obtain ⟨AO', co', hvo, lo, -, -⟩ := HO.out.form
     injection hvo with hA _ hco
     subst hA hco
     have HC := Lib.hid (rset16_any wr AO Q co lo)
     rw [HQN.out, ← HQ2.out] at HC
     clear lo
     obtain ⟨U, hU⟩ : ∃ U, setR (S ++ addA S T) = U := ⟨_, rfl⟩
     have hun : U.length ≤ 500 := by rw [← hU]; exact (setR_le _).1
     have HUU : Hid (closeA S = U) := Lib.hid (by rw [← hU, ← HTT.out]; rfl)
     rw [hU] at HC
     obtain ⟨nu, hnu⟩ : ∃ n, U.length = n := ⟨_, rfl⟩
     have UN := Lib.hid hnu
     rw [hnu] at hun
     clear hU hnu
     go_wp2_with fail
     refine HC.out.mono ?_
     rintro e w4 ⟨v4, rfl, o4, b4⟩
     rw [UN.out] at o4
     obtain ⟨A4, c4, rfl, l4, -, -⟩ := o4.form
     have L4 := Lib.hid l4
     have B4 := Lib.hid (below_then B2.out (below_then HB.out b4))
     have L2' := Lib.hid ((L2.out.up HB.out).up b4)
     clear o4 l4 b4 HC HO HQ HQ2 HQN
     have Ew4 := Lib.hid (OwnN.ofLit (w := w4) (B := w4.heap.size) (e := 30) (size := 2) (n := 0) #[] (Nat.le_refl _) (by simp [maxLen]) rfl)
     go_wp2_with (first
      | (at_builtin; refine appN_at rgT w4 _ w4.heap.size _ _ _ (.slice (some ⟨w4.heap.size, 0, none⟩) 0 0) 0 nu [] (prC U) _ _ rfl rfl rfl rfl Ew4.out (L4.out.alloc (Nat.le_refl _) _) (by rw [prC_length]; exact congrArg (· * 2) UN.out) (prC_one _) (below_alloc _ _) (by simp) (by unfold maxLen; omega) (by omega) ?_; intro vm wm om bm _ _; have OM : Hid (OwnN wm w4.heap.size 30 2 vm U.length (prC U)) := Lib.hid (by rw [UN.out]; simpa using om); have BM := Lib.hid bm; clear om bm)
      | fail)
     go_loopw [9, 7] (fun iv ov wr => ∃ i : Nat, i ≤ 131 ∧ iv = .int .i64 i ∧ Hid (OwnN wr w4.heap.size 30 2 ov (U ++ addB U (T.take i)).length (prC (U ++ addB U (T.take i)))) ∧ Hid (Below w4.heap.size w4 wr)) (fun iv _ _ => 131 - (intOf iv).toNat)
     case atStart => exact ⟨0, by omega, rfl, Lib.hid (by rw [List.take_zero, show addB U [] = [] from rfl, List.append_nil]; exact OM.out), BM⟩
     case round =>
      obtain ⟨i, hi, rfl, HO, HB⟩ := hrel
      have hqn : (U ++ addB U (T.take i)).length ≤ 700 := by
       have h1 := addB_len U (T.take i)
       have h2 := UN.out
       rw [List.length_append]
       simp at h1
       omega
      obtain ⟨AO, co, rfl, -, -, -⟩ := HO.out.form
      obtain ⟨Q, hQ⟩ : ∃ Q, U ++ addB U (T.take i) = Q := ⟨_, rfl⟩
      have HQ := Lib.hid hQ
      obtain ⟨no, hno⟩ : ∃ n, Q.length = n := ⟨_, rfl⟩
      have HQN := Lib.hid hno
      rw [hQ] at hqn HO ⊢
      rw [hno] at hqn HO ⊢
      have HBZ : Hid (w4.heap.size ≤ wr.heap.size) := Lib.hid HB.out.size
      clear hQ hno
      by_cases hlt : i < 131
      ·have hltT : i < T.length := by rw [TN.out]; exact hlt
       obtain ⟨p, rfl, hpb, hcx⟩ := (L2'.out.below HB.out).int hltT
       have HNX := Lib.hid (addB_next (S := U) hltT)
       obtain ⟨x, hx⟩ : ∃ x, T[i] = x := ⟨_, rfl⟩
       rw [hx] at hcx HNX
       have HSL := Lib.hid ((L4.out.below HB.out).wider HB.out.size)
       have k0 : (0 : Int) ≤ (i : Int) := by omega
       have k1 : (i : Int) < 131 := by omega
       have HCX : Hid (∀ u : World, Below wr.heap.size wr u → u.cell? (p.add i) = some (.int .i64 x)) := Lib.hid fun u hu => by rw [hu.cell (by rw [add_block]; have := HBZ.out; omega)]; exact hcx
       clear hx hltT hpb
       rcases hh : hasR U (fo x) with _ | _
       ·have HE : Hid (U ++ addB U (T.take (i + 1)) = Q) := Lib.hid (by rw [HNX.out, hh, ← HQ.out]; simp)
        have HH := Lib.hid hh
        clear hh
        go_wp2_with fail
        refine (rof_any x wr).mono ?_
        rintro e wq ⟨rfl, rfl⟩
        go_wp2_with fail
        have HAS := rhas16_any wr _ A4 U c4 (fo x) HSL.out (by have := UN.out; omega)
        rw [UN.out, HH.out] at HAS
        refine HAS.mono ?_
        clear HAS
        rintro e wq ⟨rfl, rfl⟩
        go_wp2_with fail
        go_roundw
        case rel => exact ⟨i + 1, by omega, by go_num, by rw [HE.out, HQN.out]; exact HO, HB⟩
        case measure => simp [intOf]; omega
       ·have HE : Hid (U ++ addB U (T.take (i + 1)) = Q ++ [(x, x)]) := Lib.hid (by rw [HNX.out, hh, ← HQ.out]; simp)
        have HH := Lib.hid hh
        clear hh
        go_wp2_with fail
        refine (rof_any x wr).mono ?_
        rintro e wq ⟨rfl, rfl⟩
        go_wp2_with fail
        have HAS := rhas16_any wr _ A4 U c4 (fo x) HSL.out (by have := UN.out; omega)
        rw [UN.out, HH.out] at HAS
        refine HAS.mono ?_
        clear HAS
        rintro e wq ⟨rfl, rfl⟩
        go_wp2_with fail
        refine (rone16_any (x) wr).mono ?_
        rintro e wx ⟨rfl, bx⟩
        have BX := Lib.hid bx
        have HLIT := Lib.hid (rg_lit wx (x, x))
        clear bx
        go_wp2_with (first
         | (at_builtin; refine appN_at rgT wr _ w4.heap.size _ _ _ (.slice AO no co) no 1 (prC Q) (prC [(x, x)]) _ _ rfl rfl rfl rfl ((HO.out.below BX.out (Nat.le_refl _)).alloc _) HLIT.out rfl (prC_one _) (((BX.out.mono HBZ.out)).alloc (by have := BX.out.size; have := HBZ.out; omega) _) (by have := BX.out.size; have := HBZ.out; simp; omega) (by unfold maxLen; omega) (by omega) ?_; intro v9 w9 o9 b9 _ _; have O9 : Hid (OwnN w9 w4.heap.size 30 2 v9 (Q ++ [(x, x)]).length (prC (Q ++ [(x, x)]))) := Lib.hid (by rw [prC_append, List.length_append, HQN.out]; exact o9); have B9 := Lib.hid (HB.out.trans b9); clear o9 b9)
         | fail)
        go_roundw
        case rel => exact ⟨i + 1, by omega, by go_num, by rw [HE.out]; exact O9, B9⟩
        case measure => simp [intOf]; omega
      ·obtain rfl : i = 131 := by omega
       have HQ2 : Hid (U ++ addB U T = Q) := Lib.hid (by have := HQ.out; rwa [List.take_of_length_le (by rw [TN.out]; exact Nat.le_refl _)] at this)
       obtain ⟨AO', co', hvo, lo, -, -⟩ := HO.out.form
       injection hvo with hA _ hco
       subst hA hco
       have HC := Lib.hid (rset16_any wr AO Q co lo)
       rw [HQN.out, ← HQ2.out] at HC
       clear lo
       have HV : Hid (setR (U ++ addB U T) = S1) := Lib.hid (by rw [HE.out, HUU.out, ← HTT.out]; rfl)
       rw [HV.out] at HC
       go_wp2_with fail
       refine HC.out.mono ?_
       rintro e w6 ⟨v6, rfl, o6, b6⟩
       have O6 := Lib.hid (o6.weaken (Nat.le_trans B4.out.size HB.out.size))
       have B6 := Lib.hid (below_then B4.out (below_then HB.out b6))
       clear o6 b6
       go_wp2_with fail
       go_meet
       exact ⟨O6, B6⟩
 case rest =>
  obtain ⟨HO5, HB5⟩ := hcut
  obtain ⟨n1, hn1⟩ : ∃ n, S1.length = n := ⟨_, rfl⟩
  have S1N := Lib.hid hn1
  rw [hn1] at HO5 hs1n
  obtain ⟨A5, c5, rfl, l5, -, -⟩ := HO5.out.form
  have L5 := Lib.hid l5
  clear l5 hn1
  rcases f2 with _ | _
  ·have HE : Hid (S1 = Z) := Lib.hid HG.out
   go_wp2_with fail
   go_ret
   refine ⟨_, rfl, ?_, HB5.out⟩
   rw [← HE.out, S1N.out]
   exact HO5.out
  ·have HE : Hid (closeM S1 = Z) := Lib.hid HG.out
   have Ewc := Lib.hid (OwnN.ofLit (w := wc) (B := wc.heap.size) (e := 30) (size := 2) (n := 0) #[] (Nat.le_refl _) (by simp [maxLen]) rfl)
   go_wp2_with (first
    | (at_builtin; refine appN_at rgT wc _ wc.heap.size _ _ _ (.slice (some ⟨wc.heap.size, 0, none⟩) 0 0) 0 n1 [] (prC S1) _ _ rfl rfl rfl rfl Ewc.out (L5.out.alloc (Nat.le_refl _) _) (by rw [prC_length]; exact congrArg (· * 2) S1N.out) (prC_one _) (below_alloc _ _) (by simp) (by unfold maxLen; omega) (by omega) ?_; intro vm wm om bm _ _; have OM : Hid (OwnN wm wc.heap.size 30 2 vm S1.length (prC S1)) := Lib.hid (by rw [S1N.out]; simpa using om); have BM := Lib.hid bm; clear om bm)
    | fail)
   go_loopw [11, 10] (fun iv ov wr => ∃ i : Nat, i ≤ 12544 ∧ iv = .int .i64 i ∧ Hid (OwnN wr wc.heap.size 30 2 ov (S1 ++ addM S1 (upN i)).length (prC (S1 ++ addM S1 (upN i)))) ∧ Hid (Below wc.heap.size wc wr)) (fun iv _ _ => 12544 - (intOf iv).toNat)
   case atStart => exact ⟨0, by omega, rfl, Lib.hid (by rw [show addM S1 (upN 0) = [] from rfl, List.append_nil]; exact OM.out), BM⟩
   case round =>
    obtain ⟨i, hi, rfl, HO, HB⟩ := hrel
    have hqn : (S1 ++ addM S1 (upN i)).length ≤ 13100 := by
     have h1 := addM_len S1 i
     have h2 := S1N.out
     rw [List.length_append]
     omega
    obtain ⟨AO, co, rfl, -, -, -⟩ := HO.out.form
    obtain ⟨Q, hQ⟩ : ∃ Q, S1 ++ addM S1 (upN i) = Q := ⟨_, rfl⟩
    have HQ := Lib.hid hQ
    obtain ⟨no, hno⟩ : ∃ n, Q.length = n := ⟨_, rfl⟩
    have HQN := Lib.hid hno
    rw [hQ] at hqn HO ⊢
    rw [hno] at hqn HO ⊢
    have HBZ : Hid (wc.heap.size ≤ wr.heap.size) := Lib.hid HB.out.size
    clear hQ hno
    by_cases hlt : i < 12544
    ·have HNX := Lib.hid (addM_next (S := S1) (i := i))
     have HSL := Lib.hid ((L5.out.below HB.out).wider HB.out.size)
     have k0 : (0 : Int) ≤ (i : Int) := by omega
     have k1 : (i : Int) < 12544 := by omega
     rcases hm : isM (i : Int) with _ | _
     ·have HE2 : Hid (S1 ++ addM S1 (upN (i + 1)) = Q) := Lib.hid (by rw [HNX.out, hm, ← HQ.out]; simp)
      have HM := Lib.hid hm
      clear hm
      go_wp2_with fail
      refine (rmirrored_any (i : Int) wr).mono ?_
      rintro e wm ⟨rfl, bm⟩
      rw [HM.out]
      have BM2 := Lib.hid bm
      clear bm
      go_wp2_with fail
      go_roundw
      case rel => exact ⟨i + 1, by omega, by go_num, by rw [HE2.out, HQN.out]; exact Lib.hid (HO.out.below BM2.out (Nat.le_refl _)), Lib.hid (below_then HB.out BM2.out)⟩
      case measure => simp [intOf]; omega
     ·rcases hh : hasR S1 (i : Int) with _ | _
      ·have HE2 : Hid (S1 ++ addM S1 (upN (i + 1)) = Q) := Lib.hid (by rw [HNX.out, hm, hh, ← HQ.out]; simp)
       have HM := Lib.hid hm
       have HH := Lib.hid hh
       clear hm hh
       go_wp2_with fail
       refine (rmirrored_any (i : Int) wr).mono ?_
       rintro e wm ⟨rfl, bm⟩
       rw [HM.out]
       have BM2 := Lib.hid bm
       have HSM := Lib.hid (HSL.out.up bm)
       clear bm
       go_wp2_with fail
       have HAS := rhas16_any wm _ A5 S1 c5 (i : Int) HSM.out (by have := S1N.out; omega)
       rw [S1N.out, HH.out] at HAS
       refine HAS.mono ?_
       clear HAS
       rintro e wq ⟨rfl, rfl⟩
       go_wp2_with fail
       go_roundw
       case rel => exact ⟨i + 1, by omega, by go_num, by rw [HE2.out, HQN.out]; exact Lib.hid (HO.out.below BM2.out (Nat.le_refl _)), Lib.hid (below_then HB.out BM2.out)⟩
       case measure => simp [intOf]; omega
      ·have HE2 : Hid (S1 ++ addM S1 (upN (i + 1)) = Q ++ [(mir i, mir i)]) := Lib.hid (by rw [HNX.out, hm, hh, ← HQ.out]; simp)
       have HM := Lib.hid hm
       have HH := Lib.hid hh
       clear hm hh
       go_wp2_with fail
       refine (rmirrored_any (i : Int) wr).mono ?_
       rintro e wm ⟨rfl, bm⟩
       rw [HM.out]
       have BM2 := Lib.hid bm
       have HSM := Lib.hid (HSL.out.up bm)
       clear bm
       go_wp2_with fail
       have HAS := rhas16_any wm _ A5 S1 c5 (i : Int) HSM.out (by have := S1N.out; omega)
       rw [S1N.out, HH.out] at HAS
       refine HAS.mono ?_
       clear HAS
       rintro e wq ⟨rfl, rfl⟩
       go_wp2_with fail
       refine (rmirror_any (i : Int) wm).mono ?_
       rintro e wk ⟨rfl, bk⟩
       have BK := Lib.hid (below_then BM2.out bk)
       obtain ⟨mi, hmi⟩ : ∃ m, mir (i : Int) = m := ⟨_, rfl⟩
       rw [hmi] at HE2 ⊢
       clear bk hmi
       go_wp2_with fail
       refine (rone16_any mi wk).mono ?_
       rintro e wx ⟨rfl, bx⟩
       have BX := Lib.hid (below_then BK.out bx)
       have HLIT := Lib.hid (rg_lit wx (mi, mi))
       clear bx
       go_wp2_with (first
        | (at_builtin; refine appN_at rgT wr _ wc.heap.size _ _ _ (.slice AO no co) no 1 (prC Q) (prC [(mi, mi)]) _ _ rfl rfl rfl rfl ((HO.out.below BX.out (Nat.le_refl _)).alloc _) HLIT.out rfl (prC_one _) (((BX.out.mono HBZ.out)).alloc (by have := BX.out.size; have := HBZ.out; omega) _) (by have := BX.out.size; have := HBZ.out; simp; omega) (by unfold maxLen; omega) (by omega) ?_; intro v9 w9 o9 b9 _ _; have O9 : Hid (OwnN w9 wc.heap.size 30 2 v9 (Q ++ [(mi, mi)]).length (prC (Q ++ [(mi, mi)]))) := Lib.hid (by rw [prC_append, List.length_append, HQN.out]; exact o9); have B9 := Lib.hid (HB.out.trans b9); clear o9 b9)
        | fail)
       go_roundw
       case rel => exact ⟨i + 1, by omega, by go_num, by rw [HE2.out]; exact O9, B9⟩
       case measure => simp [intOf]; omega
    ·obtain rfl : i = 12544 := by omega
     have HQ2 : Hid (closeM S1 = setR Q) := Lib.hid (by rw [closeM, HQ.out])
     obtain ⟨AO', co', hvo, lo, -, -⟩ := HO.out.form
     injection hvo with hA _ hco
     subst hA hco
     have HC := Lib.hid (rset16_any wr AO Q co lo)
     rw [HQN.out, ← HQ2.out, HE.out] at HC
     clear lo
     go_wp2_with fail
     refine HC.out.mono ?_
     rintro e w6 ⟨v6, rfl, o6, b6⟩
     have O6 := Lib.hid (o6.weaken (Nat.le_trans HB5.out.size HB.out.size))
     have B6 := Lib.hid (below_then HB5.out (below_then HB.out b6))
     clear o6 b6
     go_wp2_with fail
     go_ret
     exact ⟨_, rfl, O6.out, B6.out⟩
end Go.Proofs.YtkojnnjcgcllmaaGreatDoor
namespace Go.Proofs.YtkojnnjcgcllmaaGreatDoor
open Go.RowKit Go.Maps
def inTop (c : Int) : Prop := 0 ≤ c ∧ c ≤ topR
theorem hasR_of {L : List Int} {g : Int → Int} {c : Int} : hasR (L.map fun t => (g t, g t)) c = true ↔ ∃ t ∈ L, g t = c := by
 rw [hasR_iff]
 constructor
 ·rintro ⟨r, hr, h1, h2⟩
  rw [List.mem_map] at hr
  obtain ⟨t, ht, rfl⟩ := hr
  exact ⟨t, ht, by dsimp only at h1 h2; omega⟩
 ·rintro ⟨t, ht, rfl⟩
  exact ⟨_, List.mem_map.2 ⟨t, ht, rfl⟩, Int.le_refl _, Int.le_refl _⟩
theorem mem_up {x : Int} {k : Nat} : x ∈ upN k ↔ 0 ≤ x ∧ x < k := by
 unfold upN
 rw [List.mem_map]
 constructor
 ·rintro ⟨a, ha, rfl⟩
  rw [List.mem_range] at ha
  show 0 ≤ (a : Int) ∧ (a : Int) < k
  omega
 ·rintro ⟨h1, h2⟩
  exact ⟨x.toNat, by rw [List.mem_range]; omega, by show ((x.toNat : Nat) : Int) = x; omega⟩
theorem addA_has {S : List (Int × Int)} {L : List Int} {c : Int} : hasR (addA S L) c = true ↔ ∃ t, t ∈ L ∧ hasR S t = true ∧ fo t = c := by
 unfold addA
 rw [hasR_of]
 simp [List.mem_filter, and_assoc]
theorem addB_has {S : List (Int × Int)} {L : List Int} {c : Int} : hasR (addB S L) c = true ↔ c ∈ L ∧ hasR S (fo c) = true := by
 unfold addB
 rw [hasR_of (g := fun t => t)]
 simp [List.mem_filter]
theorem addM_has {S : List (Int × Int)} {k : Nat} {c : Int} : hasR (addM S (upN k)) c = true ↔ ∃ t, t ∈ upN k ∧ isM t = true ∧ hasR S t = true ∧ mir t = c := by
 unfold addM
 rw [hasR_of]
 simp [List.mem_filter, and_assoc]
theorem isM_facts (c : Int) : isM c = true → 0 ≤ c ∧ c < 12544 ∧ fo c = c ∧ froms c = [] := by
 refine all_mrs (Q := fun c => isM c = true → 0 ≤ c ∧ c < 12544 ∧ fo c = c ∧ froms c = []) (fun c h hm => ?_) (by decide +kernel) c
 rw [isM, othM, h] at hm
 simp at hm
theorem isM_iff {c : Int} : isM c = true ↔ mir c ≠ c := by rw [← isM_ne]; simp
theorem isM_alone {c k : Int} (h : isM k = true) (hf : fo c = fo k) : c = k := by
 obtain ⟨-, -, h1, h2⟩ := isM_facts k h
 false_or_by_contra
 rename_i hne
 have : c ∈ froms k := mem_froms.2 ⟨by rw [hf, h1], hne⟩
 rw [h2] at this
 simp at this
set_option maxRecDepth 100000 in
theorem up_few : ((upN 12544).filter isM).length = 26 := by decide +kernel
theorem addM_few (S : List (Int × Int)) : (addM S (upN 12544)).length ≤ 26 := by
 unfold addM
 rw [List.length_map, ← up_few, show (fun t => isM t && hasR S t) = fun t => hasR S t && isM t from funext fun t => Bool.and_comm _ _, ← List.filter_filter]
 exact List.length_filter_le _ _
theorem fo_in {c : Int} (h : inTop c) : inTop (fo c) := by
 obtain ⟨h1, h2⟩ := h
 unfold inTop topR at *
 have := fo_spec c
 omega
theorem mir_in {c : Int} (h : inTop (mir c)) : inTop c := by
 by_cases he : mir c = c
 ·rwa [he] at h
 ·have := isM_facts c (isM_iff.2 he)
  unfold inTop topR
  omega
theorem closeA_len (S : List (Int × Int)) : (closeA S).length ≤ S.length + 131 := by
 have h := (setR_le (S ++ addA S (turnedN 7936))).2
 have h2 := addA_len S (turnedN 7936)
 rw [turned_few] at h2
 rw [List.length_append] at h
 unfold closeA
 omega
theorem closeB_len (S : List (Int × Int)) : (closeB S).length ≤ S.length + 131 := by
 have h := (setR_le (S ++ addB S (turnedN 7936))).2
 have h2 := addB_len S (turnedN 7936)
 rw [turned_few] at h2
 rw [List.length_append] at h
 unfold closeB
 omega
theorem closeM_len (S : List (Int × Int)) : (closeM S).length ≤ S.length + 26 := by
 have h := (setR_le (S ++ addM S (upN 12544))).2
 have h2 := addM_few S
 rw [List.length_append] at h
 unfold closeM
 omega
theorem closeA_has {S : List (Int × Int)} (hl : S.length ≤ 369) (c : Int) : hasR (closeA S) c = true ↔ inTop c ∧ (hasR S c = true ∨ ∃ t, fo t ≠ t ∧ hasR S t = true ∧ fo t = c) := by
 have h2 := addA_len S (turnedN 7936)
 rw [turned_few] at h2
 unfold closeA
 rw [setR_has (by rw [List.length_append]; omega), hasR_append]
 simp only [Bool.and_eq_true, Bool.or_eq_true, decide_eq_true_eq, addA_has, mem_turned, inTop]
theorem closeB_has {S : List (Int × Int)} (hl : S.length ≤ 369) (c : Int) : hasR (closeB S) c = true ↔ inTop c ∧ (hasR S c = true ∨ fo c ≠ c ∧ hasR S (fo c) = true) := by
 have h2 := addB_len S (turnedN 7936)
 rw [turned_few] at h2
 unfold closeB
 rw [setR_has (by rw [List.length_append]; omega), hasR_append]
 simp only [Bool.and_eq_true, Bool.or_eq_true, decide_eq_true_eq, addB_has, mem_turned, inTop]
theorem closeM_has {S : List (Int × Int)} (hl : S.length ≤ 474) (c : Int) : hasR (closeM S) c = true ↔ inTop c ∧ (hasR S c = true ∨ hasR S (mir c) = true) := by
 have h2 := addM_few S
 unfold closeM
 rw [setR_has (by rw [List.length_append]; omega), hasR_append]
 simp only [Bool.and_eq_true, Bool.or_eq_true, decide_eq_true_eq, addM_has, inTop]
 constructor
 ·rintro ⟨hc, h | ⟨t, -, h1, h2, rfl⟩⟩
  ·exact ⟨hc, .inl h⟩
  ·exact ⟨hc, .inr (by rw [mir_twice]; exact h2)⟩
 ·rintro ⟨hc, h | h⟩
  ·exact ⟨hc, .inl h⟩
  ·refine ⟨hc, ?_⟩
   by_cases he : mir c = c
   ·rw [he] at h
    exact .inl h
   ·have hm : isM (mir c) = true := isM_iff.2 (by rw [mir_twice]; exact fun e => he e.symm)
    obtain ⟨f1, f2, -⟩ := isM_facts _ hm
    exact .inr ⟨mir c, mem_up.2 ⟨f1, f2⟩, hm, h, mir_twice c⟩
theorem fold_has {S : List (Int × Int)} (hl : S.length ≤ 238) (c : Int) : hasR (closeB (closeA S)) c = true ↔ inTop c ∧ ∃ k, fo k = fo c ∧ hasR S k = true := by
 have hA := closeA_len S
 rw [closeB_has (by omega), closeA_has (by omega), closeA_has (by omega)]
 constructor
 ·rintro ⟨hc, h⟩
  refine ⟨hc, ?_⟩
  rcases h with ⟨-, h | ⟨t, h1, h2, h3⟩⟩ | ⟨h0, -, h | ⟨t, h1, h2, h3⟩⟩
  ·exact ⟨c, rfl, h⟩
  ·exact ⟨t, by rw [← h3, fo_twice], h2⟩
  ·exact ⟨fo c, fo_twice c, h⟩
  ·exact ⟨t, h3, h2⟩
 ·rintro ⟨hc, k, hk, h⟩
  refine ⟨hc, ?_⟩
  by_cases hfc : fo c = c
  ·refine .inl ⟨hc, ?_⟩
   by_cases hfk : fo k = k
   ·have hkc : k = c := by rw [← hfk, hk, hfc]
    rw [hkc] at h
    exact .inl h
   ·exact .inr ⟨k, hfk, h, by rw [hk, hfc]⟩
  ·refine .inr ⟨hfc, fo_in hc, ?_⟩
   by_cases hfk : fo k = k
   ·rw [← hk, hfk]
    exact .inl h
   ·exact .inr ⟨k, hfk, h, hk⟩
theorem setR_is {S : List (Int × Int)} (hS : Canon 0 S) (hl : S.length ≤ 500) : setR S = S := by
 rw [setR_small hl]
 exact setP_is hS fun _ _ _ => rfl
def Folded (S : List (Int × Int)) : Prop := ∀ c k, inTop c → fo k = fo c → hasR S k = true → hasR S c = true
theorem closeA_is {S : List (Int × Int)} (hS : Canon 0 S) (hl : S.length ≤ 369) (hf : Folded S) : closeA S = S := by
 refine canon_ext (setR_canon _) hS fun c h0 h1 => ?_
 show hasR (closeA S) c = _
 rw [Bool.eq_iff_iff, closeA_has hl]
 constructor
 ·rintro ⟨hi, h | ⟨t, -, h2, h3⟩⟩
  ·exact h
  ·exact hf c t hi (by rw [← h3, fo_twice]) h2
 ·exact fun h => ⟨⟨h0, h1⟩, .inl h⟩
theorem closeB_is {S : List (Int × Int)} (hS : Canon 0 S) (hl : S.length ≤ 369) (hf : Folded S) : closeB S = S := by
 refine canon_ext (setR_canon _) hS fun c h0 h1 => ?_
 show hasR (closeB S) c = _
 rw [Bool.eq_iff_iff, closeB_has hl]
 constructor
 ·rintro ⟨hi, h | ⟨-, h⟩⟩
  ·exact h
  ·exact hf c (fo c) hi (fo_twice c) h
 ·exact fun h => ⟨⟨h0, h1⟩, .inl h⟩
theorem closeM_is {S : List (Int × Int)} (hS : Canon 0 S) (hl : S.length ≤ 474) (hf : ∀ c, hasR S (mir c) = true → hasR S c = true) : closeM S = S := by
 refine canon_ext (setR_canon _) hS fun c h0 h1 => ?_
 show hasR (closeM S) c = _
 rw [Bool.eq_iff_iff, closeM_has hl]
 constructor
 ·rintro ⟨hi, h | h⟩
  ·exact h
  ·exact hf c h
 ·exact fun h => ⟨⟨h0, h1⟩, .inl h⟩
theorem close_none (R : List (Int × Int)) : closeR false false R = setR R := by unfold closeR closeG closeF; simp
theorem close_10 (R : List (Int × Int)) : closeR true false R = closeB (closeA (setR R)) := by unfold closeR closeG closeF; simp
theorem close_01 (R : List (Int × Int)) : closeR false true R = closeM (setR R) := by unfold closeR closeG closeF; simp
theorem close_11 (R : List (Int × Int)) : closeR true true R = closeM (closeR true false R) := by unfold closeR closeG closeF; simp
theorem close_fold {R : List (Int × Int)} (hl : R.length ≤ 238) (c : Int) : hasR (closeR true false R) c = true ↔ inTop c ∧ ∃ k, fo k = fo c ∧ hasR (setR R) k = true := by
 rw [close_10]
 exact fold_has (Nat.le_trans (setR_le R).2 hl) c
theorem close_folded {R : List (Int × Int)} (hl : R.length ≤ 238) : Folded (closeR true false R) := by
 intro c k hc hk h
 rw [close_fold hl] at h ⊢
 obtain ⟨-, j, hj, h⟩ := h
 exact ⟨hc, j, by rw [hj, hk], h⟩
theorem close_canon (b1 b2 : Bool) (R : List (Int × Int)) : Canon 0 (closeR b1 b2 R) := by
 cases b2
 ·cases b1
  ·rw [close_none]; exact setR_canon _
  ·rw [close_10, closeB]; exact setR_canon _
 ·unfold closeR closeG
  rw [if_pos rfl, closeM]
  exact setR_canon _
theorem closeR_le (b1 b2 : Bool) (R : List (Int × Int)) : (closeR b1 b2 R).length ≤ 500 := by
 cases b2
 ·cases b1
  ·rw [close_none]; exact (setR_le _).1
  ·rw [close_10, closeB]; exact (setR_le _).1
 ·unfold closeR closeG
  rw [if_pos rfl, closeM]
  exact (setR_le _).1
theorem close_fold_len (R : List (Int × Int)) : (closeR true false R).length ≤ R.length + 262 := by
 have h1 := closeB_len (closeA (setR R))
 have h2 := closeA_len (setR R)
 have h3 := (setR_le R).2
 rw [close_10]
 omega
theorem has_in {R : List (Int × Int)} (b1 b2 : Bool) {c : Int} (h : hasR (closeR b1 b2 R) c = true) : inTop c := (close_canon b1 b2 R).has h
theorem close_mirror {R : List (Int × Int)} (hl : R.length ≤ 474) (c : Int) : hasR (closeR false true R) c = (hasR (setR R) c || hasR (setR R) (mir c)) := by
 rw [close_01]
 rw [Bool.eq_iff_iff, closeM_has (Nat.le_trans (setR_le R).2 hl), Bool.or_eq_true]
 refine ⟨fun h => h.2, fun h => ⟨?_, h⟩⟩
 rcases h with h | h
 ·exact (setR_canon R).has h
 ·exact mir_in ((setR_canon R).has h)
theorem close_both {R : List (Int × Int)} (hl : R.length ≤ 200) (c : Int) : hasR (closeR true true R) c = (hasR (closeR true false R) c || hasR (closeR true false R) (mir c)) := by
 have hn := close_fold_len R
 rw [close_11]
 rw [Bool.eq_iff_iff, closeM_has (by omega), Bool.or_eq_true]
 refine ⟨fun h => h.2, fun h => ⟨?_, h⟩⟩
 rcases h with h | h
 ·exact has_in _ _ h
 ·exact mir_in (has_in _ _ h)
theorem fold_twice {R : List (Int × Int)} (hl : R.length ≤ 100) : closeR true false (closeR true false R) = closeR true false R := by
 have hn := close_fold_len R
 have hC := close_canon true false R
 have hF := close_folded (R := R) (by omega)
 obtain ⟨C, hc⟩ : ∃ C, closeR true false R = C := ⟨_, rfl⟩
 rw [hc] at hn hC hF ⊢
 rw [close_10, setR_is hC (by omega), closeA_is hC (by omega) hF, closeB_is hC (by omega) hF]
theorem both_twice {R : List (Int × Int)} (hl : R.length ≤ 60) : closeR true true (closeR true true R) = closeR true true R := by
 have hn := close_fold_len R
 have hB := close_both (R := R) (by omega)
 have hF := close_folded (R := R) (by omega)
 have hin : ∀ {c}, hasR (closeR true false R) c = true → inTop c := fun h => has_in true false h
 have hC := close_canon true true R
 have hm : (closeR true true R).length ≤ (closeR true false R).length + 26 := by rw [close_11]; exact closeM_len _
 obtain ⟨C, hc⟩ : ∃ C, closeR true false R = C := ⟨_, rfl⟩
 obtain ⟨D, hd⟩ : ∃ D, closeR true true R = D := ⟨_, rfl⟩
 rw [hc] at hn hB hF hm hin
 rw [hd] at hB hC hm ⊢
 have hFD : Folded D := by
  intro c k hi hk h
  rw [hB, Bool.or_eq_true] at h ⊢
  rcases h with h | h
  ·exact .inl (hF c k hi hk h)
  ·by_cases he : mir k = k
   ·rw [he] at h
    exact .inl (hF c k hi hk h)
   ·have := isM_alone (isM_iff.2 he) hk.symm
    rw [this]
    exact .inr h
 have hMD : ∀ c, hasR D (mir c) = true → hasR D c = true := by
  intro c h
  rw [hB, mir_twice, Bool.or_eq_true] at h
  rw [hB, Bool.or_eq_true]
  exact h.symm
 rw [close_11, close_10, setR_is hC (by omega), closeA_is hC (by omega) hFD, closeB_is hC (by omega) hFD, closeM_is hC (by omega) hMD]
theorem fold_both {R : List (Int × Int)} (hl : R.length ≤ 200) {c : Int} (h : hasR (closeR true false R) c = true) : hasR (closeR true true R) c = true := by
 rw [close_both hl, h]
 rfl
end Go.Proofs.YtkojnnjcgcllmaaGreatDoor
