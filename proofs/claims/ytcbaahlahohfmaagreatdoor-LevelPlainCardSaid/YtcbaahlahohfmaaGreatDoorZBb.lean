/- LevelPlain: for every list of bytes, every number and both kinds, a text of Latin letters alone has the base of its direction, all levels even; of Hebrew ones all are odd. Conditions: none. -/
import Derived.Deep.DeepCutAuto
import Derived.Test.YtcbaahlahohfmaaGreatDoorRows
import Derived.Test.YtcbaahlahohfmaaGreatDoorZB22
import Derived.Test.YtcbaahlahohfmaaGreatDoorZB23
namespace Go.Proofs.YtcbaahlahohfmaaGreatDoor.lawPlain
open Go.ChangeShapes Go.WideShapes Go.ChangeAt Go.RowKit Reckon
def letter (heb : Bool) (x : Int) : Int := if heb then 1488 + x % 27 else 97 + x % 26
def textL (heb : Bool) (l : List Int) : List Int := l.map (letter heb)
theorem cls_latin : ∀ n : Nat, n < 26 → cls (97 + (n : Int)) = 0 := by decide +kernel
theorem cls_hebrew : ∀ n : Nat, n < 27 → cls (1488 + (n : Int)) = 1 := by decide +kernel
theorem cls_letter (heb : Bool) (x : Int) : cls (letter heb x) = if heb then 1 else 0 := by
 cases heb
 ·have h := cls_latin (x % 26).toNat (by omega)
  rw [show (((x % 26).toNat : Nat) : Int) = x % 26 by omega] at h
  exact h
 ·have h := cls_hebrew (x % 27).toNat (by omega)
  rw [show (((x % 27).toNat : Nat) : Int) = x % 27 by omega] at h
  exact h
def wantI (heb : Bool) (l : List Int) (dir : Int) : Int := if dir = 1 ∨ dir = 2 ∨ l.length = 0 then (if dir = 2 then 1 else 0) else if heb then 1 else 0
theorem want_ok (heb : Bool) (l : List Int) (dir : Int) : baseI (textL heb l) dir = wantI heb l dir := by
 rw [base_plain (h := if heb then 1 else 0) (by cases heb <;> simp) (fun c hc => by
  obtain ⟨x, _, rfl⟩ := List.mem_map.1 hc
  exact cls_letter heb x) dir, wantI]
 by_cases h1 : dir = 1
 ·subst h1; simp
 ·by_cases h2 : dir = 2
  ·subst h2; simp
  ·rw [if_neg h1, if_neg h2]
   by_cases hz : l.length = 0
   ·have := List.eq_nil_of_length_eq_zero hz
    subst this
    simp [textL, h2]
   ·rw [if_neg (fun e => hz (by have := congrArg List.length e; simpa [textL] using this)), if_neg (show ¬ (dir = 1 ∨ dir = 2 ∨ l.length = 0) by omega)]
theorem lev_ok (heb : Bool) (l : List Int) (dir : Int) : ∃ v : Nat, (∀ q, q < l.length → (levI (textL heb l) dir).getD q 0 = (v : Int)) ∧ v % 2 = (if heb then 1 else 0) ∧ wantI heb l dir ≤ (v : Int) ∧ (v : Int) ≤ wantI heb l dir + 1 ∧ wholeI (levI (textL heb l) dir) = true := by
 have hh : (if heb then (1 : Int) else 0) = 0 ∨ (if heb then (1 : Int) else 0) = 1 := by cases heb <;> simp
 have hall : ∀ c ∈ textL heb l, cls c = (if heb then 1 else 0) := fun c hc => by
  obtain ⟨x, _, rfl⟩ := List.mem_map.1 hc
  exact cls_letter heb x
 have hb := base_two (textL heb l) dir
 have hw := want_ok heb l dir
 have hlen : (textL heb l).length = l.length := by simp [textL]
 have hlev : ∀ q, q < l.length → (levI (textL heb l) dir).getD q 0 = nLevelI (if heb then 1 else 0) (baseI (textL heb l) dir) := fun q hq => level_plain hh hall dir (by omega)
 have hv : ∃ v : Nat, nLevelI (if heb then 1 else 0) (baseI (textL heb l) dir) = (v : Int) ∧ v % 2 = (if heb then 1 else 0) ∧ baseI (textL heb l) dir ≤ (v : Int) ∧ (v : Int) ≤ baseI (textL heb l) dir + 1 := by
  rcases hb with e | e <;> rw [e] <;> cases heb
  ·exact ⟨0, by decide +kernel, by decide +kernel, by decide +kernel, by decide +kernel⟩
  ·exact ⟨1, by decide +kernel, by decide +kernel, by decide +kernel, by decide +kernel⟩
  ·exact ⟨2, by decide +kernel, by decide +kernel, by decide +kernel, by decide +kernel⟩
  ·exact ⟨1, by decide +kernel, by decide +kernel, by decide +kernel, by decide +kernel⟩
 obtain ⟨v, v1, v2, v3, v4⟩ := hv
 rw [hw] at v3 v4
 refine ⟨v, fun q hq => (hlev q hq).trans v1, v2, v3, v4, ?_⟩
 rw [wholeI, List.all_eq_true]
 intro x hx
 obtain ⟨q, hq, rfl⟩ := List.mem_iff_getElem.1 hx
 rw [levI_length, hlen] at hq
 have h1 := hlev q hq
 have h0 := hlev 0 (by omega)
 rw [getD_at (by rw [levI_length, hlen]; exact hq)] at h1
 have h2 : (levI (textL heb l) dir).headD 0 = (levI (textL heb l) dir).getD 0 0 := by cases levI (textL heb l) dir <;> rfl
 rw [h1, h2, h0]
 simp
set_option maxRecDepth 20000 in
set_option maxHeartbeats 8000000 in
theorem walk_ok (w : World) (hTb : ClsTabs w) (A : Option Addr) (l : List Int) (c : Nat) (hl : l.length ≤ 200) (h : Lies w w.heap.size A (ints .u8 l)) (wf : ∀ n ∈ l, (Lit.int .u8 n).wf = true) (dir : Int) (heb : Bool) :
 Calls Tryz.prog 6 #[.slice A l.length c, .int .i64 dir, .bool heb] w fun e w' => e = .returned (.bool true) ∧ Below w.heap.size w w' := by
 have HTb := Lib.hid hTb
 clear hTb
 have H := Lib.hid h
 have HWF := Lib.hid wf
 obtain ⟨T, hT⟩ : ∃ T, textL heb l = T := ⟨_, rfl⟩
 have HT := Lib.hid hT
 have HTL : Hid (T.length = l.length) := Lib.hid (by rw [← hT]; simp [textL])
 obtain ⟨L, hL⟩ : ∃ L, levI T dir = L := ⟨_, rfl⟩
 have HL := Lib.hid hL
 have HLL : Hid (L.length = l.length) := Lib.hid (by rw [← hL, levI_length, HTL.out])
 obtain ⟨bs, hbs⟩ : ∃ b, wantI heb l dir = b := ⟨_, rfl⟩
 have HBS : Hid (baseI T dir = bs) := Lib.hid (by rw [← hT, want_ok, hbs])
 have HWT : Hid ((if dir = 1 ∨ dir = 2 ∨ l.length = 0 then (if dir = 2 then (1 : Int) else 0) else if heb then 1 else 0) = bs) := Lib.hid (by rw [← hbs, wantI])
 obtain ⟨v, v1, v2, v3, v4, v5⟩ := lev_ok heb l dir
 rw [hbs] at v3 v4
 rw [hT, hL] at v1 v5
 have HV1 := Lib.hid v1
 have HV2 := Lib.hid v2
 have HWL : Hid (wholeI (levI T dir) = true) := Lib.hid (by rw [hL]; exact v5)
 have hb2 : bs = 0 ∨ bs = 1 := HBS.out ▸ base_two T dir
 have HB2 := Lib.hid hb2
 have HV34 := Lib.hid (And.intro v3 v4)
 clear h wf hT hL hbs v1 v2 v3 v4 v5 hb2
 go_enter Tryz.func6, Tryz.ntmps6
 go_wp2_with fail
 refine (lalive_any w HTb.out).mono ?_
 rintro e w1 ⟨rfl, b1⟩
 have B1 := Lib.hid b1
 have D1 := Lib.hid b1
 clear b1
 have H1 := Lib.hid (H.out.up B1.out)
 go_wp2_with fail
 go_loopw [8, 7] (fun iv ov wr => ∃ i : Nat, i ≤ l.length ∧ iv = .int .i64 i ∧ Hid (Own wr w1.heap.size 3 ov (ints .i64 (textL heb (l.take i)))) ∧ Hid (Below w1.heap.size w1 wr)) (fun iv _ _ => l.length - (intOf iv).toNat)
 case atStart => exact ⟨0, by omega, rfl, Lib.hid (Own.empty _ _ _), Lib.hid (Below.refl _ _)⟩
 case round =>
  obtain ⟨i, hi, rfl, HO, HB⟩ := hrel
  by_cases hlt : i < l.length
  ·obtain ⟨p, hp, _, hcx⟩ := (H1.out.up HB.out).int hlt
   subst hp
   obtain ⟨x, hx⟩ : ∃ x, l[i] = x := ⟨_, rfl⟩
   have hxb := bounds_u8 (HWF.out _ (List.getElem_mem hlt))
   rw [hx] at hcx hxb
   obtain ⟨n, rfl⟩ : ∃ n : Nat, x = n := ⟨x.toNat, by omega⟩
   have HS : Hid (textL heb (l.take (i + 1)) = textL heb (l.take i) ++ [letter heb (n : Int)]) := Lib.hid (by rw [take_snoc l i hlt, hx, textL, List.map_append]; rfl)
   have i0 : (0 : Int) ≤ (i : Int) := by omega
   have i1 : (i : Int) < (l.length : Int) := by omega
   have hw0 : IntKind.i64.wrap (n : Int) = (n : Int) := IntWalk.i64_in _ (by omega)
   have hw1 : IntKind.i64.wrap (97 + (n : Int) % 26) = 97 + (n : Int) % 26 := IntWalk.i64_in _ (by omega)
   have hw2 : IntKind.i64.wrap (1488 + (n : Int) % 27) = 1488 + (n : Int) % 27 := IntWalk.i64_in _ (by omega)
   have HLT := Lib.hid hlt
   clear hx
   cases heb
   ·go_wp2_with (first
     | (at_builtin; refine app_lit intsT w1 wr w1.heap.size _ _ #[.int .i64 (97 + (n : Int) % 26)] 1 _ _ rfl rfl rfl rfl HO.out (by simp [Value.oneCell']) HB.out HB.out.size (by unfold maxLen; simp [ints, textL]; omega) (by simp [ints, textL]; omega) ?_; intro v9 w9 o9 b9 _ _; have O9 := Lib.hid o9; have B9 := Lib.hid b9; clear o9 b9)
     | fail)
    go_roundw
    case rel => exact ⟨i + 1, by omega, by go_num, Lib.hid (by rw [HS.out]; simpa [ints, letter] using O9.out), B9⟩
    case measure => simp [intOf]; omega
   ·go_wp2_with (first
     | (at_builtin; refine app_lit intsT w1 wr w1.heap.size _ _ #[.int .i64 (1488 + (n : Int) % 27)] 1 _ _ rfl rfl rfl rfl HO.out (by simp [Value.oneCell']) HB.out HB.out.size (by unfold maxLen; simp [ints, textL]; omega) (by simp [ints, textL]; omega) ?_; intro v9 w9 o9 b9 _ _; have O9 := Lib.hid o9; have B9 := Lib.hid b9; clear o9 b9)
     | fail)
    go_roundw
    case rel => exact ⟨i + 1, by omega, by go_num, Lib.hid (by rw [HS.out]; simpa [ints, letter] using O9.out), B9⟩
    case measure => simp [intOf]; omega
  ·obtain rfl : i = l.length := by omega
   have hot := HO.out
   rw [List.take_length, HT.out] at hot
   obtain ⟨At, ct, hvt, lt, -, -⟩ := hot.form
   rw [ints, List.length_map, HTL.out] at hvt
   subst hvt
   have LT := Lib.hid lt
   have HOF : Hid (Calls Tryz.prog 9 #[.slice At l.length ct, .int .i64 dir] wr fun ed w' => Rowed2 wr wr.heap.size 3 (ints .i64 L) bs ed w') := Lib.hid (by
    have := lof_any At T ct dir wr (HTb.out.below (below_then B1.out HB.out) HTb.out.big) lt (by rw [HTL.out]; omega)
    rw [HTL.out, HL.out, HBS.out] at this
    exact this)
   clear hot lt
   go_wp2_with fail
   refine HOF.out.mono ?_
   rintro e w3 ⟨v3, rfl, o3, b3⟩
   obtain ⟨A3, c3, hv3, l3, -, -⟩ := o3.form
   rw [ints, List.length_map, HLL.out] at hv3
   subst hv3
   have B3 := Lib.hid (below_then (below_then B1.out HB.out) b3)
   have LT3 := Lib.hid (LT.out.up b3)
   have L3 := Lib.hid l3
   clear o3 l3 b3
   obtain ⟨od, hod⟩ : ∃ o : Int, (if heb then 1 else 0) = o := ⟨_, rfl⟩
   have HOD := Lib.hid hod
   have HVO : Hid (((v : Int) % 2 == od) = true) := Lib.hid (by
    have h1 := HV2.out
    rw [← hod]
    cases heb
    ·simp at h1 ⊢; omega
    ·simp at h1 ⊢; omega)
   have HBO : Hid (¬ (dir = 1 ∨ dir = 2 ∨ l.length = 0) → od = bs) := Lib.hid fun hn => by
    have := HWT.out
    rw [if_neg hn, hod] at this
    exact this
   have HBC : Hid (dir = 1 ∨ dir = 2 ∨ l.length = 0 → (if dir = 2 then (1 : Int) else 0) = bs) := Lib.hid fun hn => by
    have := HWT.out
    rw [if_pos hn] at this
    exact this
   clear hod
   go_upto_if 51 with fail
   go_cut [2, 12] (fun v1 v2 wx => v1 = .bool heb ∧ v2 = .int .i64 od ∧ w3 = wx)
   case first =>
    cases heb
    ·have e : Hid ((0 : Int) = od) := Lib.hid (by rw [← HOD.out]; rfl)
     go_wp2_with fail
     go_meet
     exact ⟨rfl, by rw [e.out], rfl⟩
    ·have e : Hid ((1 : Int) = od) := Lib.hid (by rw [← HOD.out]; rfl)
     go_wp2_with fail
     go_meet
     exact ⟨rfl, by rw [e.out], rfl⟩
   case rest =>
    obtain ⟨rfl, rfl, rfl⟩ := hcut
    go_upto_region 18 with fail
    go_cut [63] (fun v1 wx => v1 = .bool (decide (dir = 1 ∨ dir = 2 ∨ l.length = 0)) ∧ w3 = wx)
    case first =>
     rcases h1 : (dir == 1) with _ | _
     ·rcases h2 : (dir == 2) with _ | _
      ·rcases h3 : ((l.length : Int) == 0) with _ | _
       ·have e : Hid (false = decide (dir = 1 ∨ dir = 2 ∨ l.length = 0)) := Lib.hid (by rw [eq_comm, decide_eq_false_iff_not]; have a1 : ¬ dir = 1 := (by simpa using h1); have a2 : ¬ dir = 2 := (by simpa using h2); have a3 : ¬ (l.length : Int) = 0 := (by simpa using h3); omega)
        go_wp2_with fail
        go_meet
        exact ⟨by rw [← e.out], rfl⟩
       ·have e : Hid (true = decide (dir = 1 ∨ dir = 2 ∨ l.length = 0)) := Lib.hid (by rw [eq_comm, decide_eq_true_iff]; simp at h3; exact .inr (.inr (by simp [h3])))
        go_wp2_with fail
        go_meet
        exact ⟨by rw [← e.out], rfl⟩
      ·have e : Hid (true = decide (dir = 1 ∨ dir = 2 ∨ l.length = 0)) := Lib.hid (by rw [eq_comm, decide_eq_true_iff]; exact .inr (.inl (by simpa using h2)))
       go_wp2_with fail
       go_meet
       exact ⟨by rw [← e.out], rfl⟩
     ·have e : Hid (true = decide (dir = 1 ∨ dir = 2 ∨ l.length = 0)) := Lib.hid (by rw [eq_comm, decide_eq_true_iff]; exact .inl (by simpa using h1))
      go_wp2_with fail
      go_meet
      exact ⟨by rw [← e.out], rfl⟩
    case rest =>
     obtain ⟨rfl, rfl⟩ := hcut
     obtain ⟨cn, hcn⟩ : ∃ b : Bool, decide (dir = 1 ∨ dir = 2 ∨ l.length = 0) = b := ⟨_, rfl⟩
     rw [hcn]
     have HCN := Lib.hid hcn
     clear hcn
     go_upto_if 63 with fail
     go_cut [13] (fun v1 wx => v1 = .int .i64 bs ∧ w3 = wx)
     case first =>
      cases cn
      ·have e : Hid (od = bs) := Lib.hid (HBO.out (of_decide_eq_false HCN.out))
       go_wp2_with fail
       go_meet
       exact ⟨by rw [e.out], rfl⟩
      ·have hif := HBC.out (of_decide_eq_true HCN.out)
       rcases h2 : (dir == 2) with _ | _
       ·have e : Hid ((0 : Int) = bs) := Lib.hid (by rw [if_neg (by simpa using h2)] at hif; exact hif)
        clear hif
        go_wp2_with fail
        go_meet
        exact ⟨by rw [e.out], rfl⟩
       ·have e : Hid ((1 : Int) = bs) := Lib.hid (by rw [if_pos (by simpa using h2)] at hif; exact hif)
        clear hif
        go_wp2_with fail
        go_meet
        exact ⟨by rw [e.out], rfl⟩
     case rest =>
      obtain ⟨rfl, rfl⟩ := hcut
      go_wp2_with fail
      go_loopw [14] (fun iv wx => ∃ i : Nat, i ≤ l.length ∧ iv = .int .i64 i ∧ Hid (Below w3.heap.size w3 wx)) (fun iv _ => l.length - (intOf iv).toNat)
      case atStart => exact ⟨0, by omega, rfl, Lib.hid (Below.refl _ _)⟩
      case round =>
       rename World => wx
       obtain ⟨i, hi2, rfl, HBx⟩ := hrel
       by_cases hlt2 : i < l.length
       ·have hlo : i < L.length := by rw [HLL.out]; exact hlt2
        obtain ⟨p3, hp3, _, hcv⟩ := (L3.out.up HBx.out).int hlo
        subst hp3
        have hv := HV1.out i hlt2
        rw [getD_at hlo] at hv
        rw [hv] at hcv
        have i0 : (0 : Int) ≤ (i : Int) := by omega
        have i1 : (i : Int) < (l.length : Int) := by omega
        have g0 : ((v : Int) % 2 != od) = false := by rw [bne, HVO.out]; rfl
        have g1 : decide ((v : Int) < bs) = false := by have := HV34.out.1; simp; omega
        have g2 : IntKind.i64.wrap (bs + 1) = bs + 1 := IntWalk.i64_in _ (by have := HB2.out; omega)
        have g3 : decide ((v : Int) > bs + 1) = false := by have := HV34.out.2; simp; omega
        have g3' : decide (bs + 1 < (v : Int)) = false := by have := HV34.out.2; simp; omega
        clear hv hlo
        go_wp2_with fail
        go_roundw
        case rel => exact ⟨i + 1, by omega, by go_num, HBx⟩
        case measure => simp [intOf]; omega
       ·obtain rfl : i = l.length := by omega
        have HWC : Hid (Calls Tryz.prog 16 #[.slice At l.length ct, .int .i64 dir] wx fun ed w' => ed = .returned (.bool true) ∧ Below wx.heap.size wx w') := Lib.hid (by
         have := lwhole_any At T ct dir wx (HTb.out.below (below_then B3.out HBx.out) HTb.out.big) (LT3.out.up HBx.out) (by rw [HTL.out]; omega)
         rw [HTL.out, HWL.out] at this
         exact this)
        have gb : (bs == bs) = true := by simp
        go_wp2_with fail
        refine HWC.out.mono ?_
        rintro e w5 ⟨rfl, b5⟩
        have B5 := Lib.hid (below_then (below_then B3.out HBx.out) b5)
        clear b5
        go_wp2
        go_ret
        exact ⟨rfl, B5.out⟩
set_option maxRecDepth 20000 in
set_option maxHeartbeats 1000000 in
theorem walk_long (w : World) (hTb : ClsTabs w) (A : Option Addr) (l : List Int) (c : Nat) (dir : Int) (heb : Bool) (hl : l.length ≤ 9223372036854775807) (hh : 200 < l.length) :
 Calls Tryz.prog 6 #[.slice A l.length c, .int .i64 dir, .bool heb] w fun e w' => e = .returned (.bool true) ∧ Below w.heap.size w w' := by
 have HTb := Lib.hid hTb
 clear hTb
 go_enter Tryz.func6, Tryz.ntmps6
 go_wp2_with fail
 refine (lalive_any w HTb.out).mono ?_
 rintro e w1 ⟨rfl, b1⟩
 have B1 := Lib.hid b1
 have D1 := Lib.hid b1
 clear b1
 go_wp2
 go_ret
 exact ⟨rfl, B1.out⟩
theorem walk (w : World) (hTb : ClsTabs w) (A : Option Addr) (l : List Int) (c : Nat) (hc : l.length ≤ c) (hm : c ≤ maxLen) (h : Lies w w.heap.size A (ints .u8 l)) (wf : ∀ n ∈ l, (Lit.int .u8 n).wf = true) (dir : Int) (_ : (Lit.int .i64 dir).wf = true) (heb : Bool) :
 Calls Tryz.prog 6 #[.slice A l.length c, .int .i64 dir, .bool heb] w fun e w' => e = .returned (.bool true) ∧ Below w.heap.size w w' := by
 unfold maxLen at hm
 by_cases hh : 200 < l.length
 ·exact walk_long w hTb A l c dir heb (by omega) hh
 ·exact walk_ok w hTb A l c (by omega) h wf dir heb
-- WRAP
theorem spec : LawSpec Rows.levelPlainSpec 3 := ⟨rfl, fun H ds h => by
 match ds, h with
 | [d0, d1, d2], _ => rfl⟩
theorem params_ok : ∀ t ∈ Tryz.f6.params.toList, Tryz.prog.readableRec t = true ∧ t < Tryz.prog.types.size := by
 rw [Tryz.params6]
 intro t ht
 simp only [List.mem_cons, List.mem_nil_iff, or_false] at ht
 rcases ht with rfl | rfl | rfl
 all_goals exact ⟨by kernel_rfl, of_decide_eq_true (by kernel_rfl)⟩
set_option maxRecDepth 100000 in
theorem contract (H : Type) (enc : TypeId × Value → H) (W : World) (base : Nat) (args : Array Value) (ds gs : List (DataW H)) (before : List MemPlace)
 (hval : ∀ (j : Nat) t v, Tryz.f6.params[j]? = some t → args[j]? = some v → Value.okWide Tryz.prog W .any base t v)
 (hW : DataW.Whole enc Tryz.prog Tryz.f6.params.toList Rows.levelPlainSpec.vars false W args.toList ds gs before) (hL : laidMetH Tryz.prog laidList W) :
 Calls Tryz.prog 6 args W fun e W' => ∃ v, e = .returned v ∧ Rows.levelPlainSpec.post enc Tryz.prog Tryz.f6 false true false false W args v W' := by
 have hW' := hW
 obtain ⟨p, q, hA0, hV, rfl, hfz, hnd⟩ := hW
 have hA : DataW.TrodAll enc Tryz.prog W 0 (fun _ => true) true Tryz.f6.params.toList args.toList ds p := hA0
 rw [Tryz.params6] at hA hval
 obtain ⟨v0, vs0, d0, ds0, p0, q0, hargs, rfl, rfl, h0, r0⟩ := trodAll_cons hA
 obtain ⟨v1, vs1, d1, ds1, p1, q1, rfl, rfl, rfl, h1, r1⟩ := trodAll_cons r0
 obtain ⟨v2, vs2, d2, ds2, p2, q2, rfl, rfl, rfl, h2, r2⟩ := trodAll_cons r1
 obtain ⟨rfl, rfl, rfl⟩ := trodAll_nil r2
 obtain rfl : args = #[v0, v1, v2] := by cases args; simp_all
 obtain ⟨A0, l0, c0, rfl, hc0, hm0, hl0, wf0⟩ := open_list Tryz.underlying33 Tryz.underlying5 (by kernel_rfl) (hval 0 33 v0 rfl rfl) h0
 obtain ⟨a1, rfl, rfl, rfl, w1⟩ := open_int Tryz.underlying3 (hval 1 3 v1 rfl rfl) h1
 obtain ⟨a2, rfl, rfl, rfl⟩ := open_bool Tryz.underlying4 (hval 2 4 v2 rfl rfl) h2
 exact (walk W (tabs_of hL) A0 l0 c0 hc0 hm0 hl0 wf0 a1 w1 a2).mono fun e W' ⟨he, hg⟩ => ⟨_, he, law_post spec (by rw [Tryz.params6]; rfl) (by kernel_rfl) params_ok (by kernel_rfl) Tryz.underlying4 hW' hg⟩
set_option maxRecDepth 100000 in
theorem laid_met (os : Os) : laidMet Tryz.prog Rows.levelPlainRow.laid ((laidWorld os #[.slice none 0 0, .int .i64 0, .bool false]).forCall (fun _ _ => 0) ⟨#[], #[.slice none 0 0, .int .i64 0, .bool false], []⟩).memory :=
 laidMet_of_run' 8 (by kernel_rfl) (by kernel_rfl)
set_option maxRecDepth 100000 in
theorem reads (os : Os) {H : Type} (enc : TypeId × Value → H) : ∃ places, DataW.whole enc Tryz.prog ((laidWorld os #[.slice none 0 0, .int .i64 0, .bool false]).forCall (fun _ _ => 0) ⟨#[], #[.slice none 0 0, .int .i64 0, .bool false], []⟩).memory Tryz.f6.params.toList Rows.levelPlainSpec.vars false #[.slice none 0 0, .int .i64 0, .bool false].toList 8 = some ([.nil, .lit (.int .i64 0), .lit (.bool false)], [], places) :=
 ⟨[], by kernel_rfl⟩
set_option maxRecDepth 100000 in
theorem lifted (os : Os) (started : os.Started) (H : Type) (enc : TypeId × Value → H) (F : Stop.Interp) :
 ReturnsInHanded {} Tryz.checked os 6 .any ((OpenSpec.ofChange Rows.levelPlainSpec).preRow enc Tryz.prog Tryz.f6 Rows.levelPlainRow.domain false Rows.levelPlainRow.laid) (((OpenSpec.ofChange Rows.levelPlainSpec).at F).post enc Tryz.prog Tryz.f6 false true false false) := by
 obtain ⟨places, hx⟩ := reads os enc
 refine returnsInHanded_of_row (C := Tryz.checked) (s := OpenSpec.ofChange Rows.levelPlainSpec) own started (by kernel_rfl) Tryz.func6
  (witness_row_at (enc := enc) (C := Tryz.checked) false (laidWorld os #[.slice none 0 0, .int .i64 0, .bool false]) #[.slice none 0 0, .int .i64 0, .bool false] rfl (by kernel_rfl) (by kernel_rfl) (by kernel_rfl)
   (OpenSpec.preRow_of_cond 8 hx (by kernel_rfl) (fun k hk => by cases hk) (by kernel_rfl) (laid_met os))) ?_
 intro W base args ds gs before hval hW _ _ _ hL _ _
 exact contract H enc W base args ds gs before hval hW hL
set_option maxRecDepth 100000 in
theorem said : Rows.LevelPlainSaid :=
 OpenClaim.holds_of_cond 6 Tryz.f6 rfl rfl rfl rfl rfl rfl rfl ⟨rfl, rfl, rfl, rfl, rfl⟩ rfl rfl rfl rfl rfl (by kernel_rfl) Tryz.func6 (by kernel_rfl)
  (of_decide_eq_true (by kernel_rfl)) (by unfold Func.isWrapper; first | (rw [if_pos (by decide +kernel)]; kernel_rfl) | (rw [if_neg (by decide +kernel)]; exact ⟨rfl, rfl⟩))
  (fun os started H enc _ F => by rw [OpenClaim.pre_eq_preRow]; exact lifted os started H enc F)
set_option maxRecDepth 100000 in
theorem card : Rows.LevelPlainCardSaid :=
 Claim7.holds_tied_plain_at .later [] _ _ _ _ said (fun _ h => by cases h) (by kernel_rfl) (fun _ h => by cases h) levelPlain_row_tie rfl ⟨rfl, rfl⟩ (by kernel_rfl) rfl
  (plainOf "ductus/ductuslaw12.LevelPlain" 6 Tryz.f6 (by kernel_rfl) Tryz.func6 (by kernel_rfl) (fun j t ht => by
   rw [Tryz.params6] at ht
   have hm := Array.mem_of_getElem? ht
   simp only [List.mem_toArray, List.mem_cons, List.mem_nil_iff, or_false] at hm
   rcases hm with rfl | rfl | rfl
   all_goals (show Tryz.prog.wantsStandIn _ = false; kernel_rfl))) (by kernel_rfl)
end Go.Proofs.YtcbaahlahohfmaaGreatDoor.lawPlain
