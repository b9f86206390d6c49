/- LevelMosts: for every two lists of numbers and every number, the greatest level is one of them, and none is above it; a text all of one level is whole. Conditions: none. -/
import Derived.Test.YtcbaahlahohfmaaGreatDoorRows
import Derived.Test.YtcbaahlahohfmaaGreatDoorZB22
import Derived.Test.YtcbaahlahohfmaaGreatDoorZB23
namespace Go.Proofs.YtcbaahlahohfmaaGreatDoor.lawMosts
open Go.ChangeShapes Go.WideShapes Go.ChangeAt Go.RowKit
theorem max_fold : ∀ (l : List Int) (a : Int), a ≤ l.foldl max a ∧ (∀ x ∈ l, x ≤ l.foldl max a) ∧ (l.foldl max a = a ∨ l.foldl max a ∈ l)
 | [], a => ⟨Int.le_refl _, fun x hx => (by cases hx), .inl rfl⟩
 | y :: l, a => by
  obtain ⟨h1, h2, h3⟩ := max_fold l (max a y)
  have e1 : a ≤ max a y := Int.le_max_left _ _
  have e2 : y ≤ max a y := Int.le_max_right _ _
  rw [List.foldl_cons]
  refine ⟨by omega, fun x hx => ?_, ?_⟩
  ·rcases List.mem_cons.1 hx with rfl | hx
   ·omega
   ·exact h2 x hx
  ·rcases h3 with h3 | h3
   ·rw [h3]
    rcases Int.le_total a y with h | h
    ·rw [Int.max_eq_right h]; exact .inr (by simp)
    ·rw [Int.max_eq_left h]; exact .inl rfl
   ·exact .inr (List.mem_cons_of_mem _ h3)
theorem most_ge {l : List Int} {x : Int} (h : x ∈ l) : x ≤ mostI l := by
 cases l with
 | nil => cases h
 | cons a l =>
  rcases List.mem_cons.1 h with rfl | h
  ·exact (max_fold l _).1
  ·exact (max_fold l a).2.1 x h
theorem most_mem {l : List Int} (h : l ≠ []) : mostI l ∈ l := by
 cases l with
 | nil => exact absurd rfl h
 | cons a l =>
  rcases (max_fold l a).2.2 with e | e
  ·rw [mostI, e]; simp
  ·exact List.mem_cons_of_mem _ e
theorem any_next (l : List Int) (m : Int) {i : Nat} (h : i < l.length) : (l.take (i + 1)).any (fun x => x == m) = ((l.take i).any (fun x => x == m) || l[i] == m) := by
 rw [take_snoc l i h, List.any_append]; simp
theorem all_next (l : List Int) (m : Int) {i : Nat} (h : i < l.length) : (l.take (i + 1)).all (fun x => x == m) = ((l.take i).all (fun x => x == m) && l[i] == m) := by
 rw [take_snoc l i h, List.all_append]; simp
set_option maxRecDepth 20000 in
set_option maxHeartbeats 8000000 in
theorem walk_ok (w : World) (hT : ClsTabs w) (A : Option Addr) (chars : List Int) (c : Nat) (hl : chars.length ≤ 200) (h : Lies w w.heap.size A (ints .i64 chars)) (dir : Int) (A' : Option Addr) (levels : List Int) (c' : Nat) (hl' : levels.length ≤ 200) (h' : Lies w w.heap.size A' (ints .i64 levels)) :
 Calls Tryz.prog 7 #[.slice A chars.length c, .int .i64 dir, .slice A' levels.length c'] w fun e w' => e = .returned (.bool true) ∧ Below w.heap.size w w' := by
 have HT := Lib.hid hT
 clear hT
 have H := Lib.hid h
 have H' := Lib.hid h'
 obtain ⟨m, hm⟩ : ∃ m, mostI levels = m := ⟨_, rfl⟩
 have HM := Lib.hid hm
 have HGE : Hid (∀ x ∈ levels, x ≤ m) := Lib.hid fun x hx => hm ▸ most_ge hx
 have HIS : Hid ((decide (levels.length = 0) || levels.any (fun x => x == m)) = true) := Lib.hid (by
  cases hz : levels with
  | nil => rfl
  | cons a r =>
   have hmem : m ∈ levels := hm ▸ most_mem (by rw [hz]; simp)
   rw [hz] at hmem
   rw [Bool.or_eq_true]
   exact .inr (List.any_eq_true.2 ⟨m, hmem, by simp⟩))
 have HM0 : Hid (levels.length = 0 → m = -1) := Lib.hid fun hz => by
  rw [← hm, List.eq_nil_of_length_eq_zero hz]; rfl
 obtain ⟨L, hL⟩ : ∃ L, levI chars dir = L := ⟨_, rfl⟩
 obtain ⟨bs, hbs⟩ : ∃ b, baseI chars dir = b := ⟨_, rfl⟩
 have hb2 : bs = 0 ∨ bs = 1 := hbs ▸ base_two chars dir
 have HL := Lib.hid hL
 have HBS := Lib.hid hbs
 have HLL : Hid (L.length = chars.length) := Lib.hid (by rw [← hL, levI_length])
 have hb0 : decide (0 ≤ bs) = true := by simp; omega
 have hb1 : decide (bs ≤ 1) = true := by simp; omega
 clear h h' hm hL hbs hb2
 go_enter Tryz.func7, Tryz.ntmps7
 go_wp2_with fail
 refine (lalive_any w HT.out).mono ?_
 rintro e w1 ⟨rfl, b1⟩
 have B1 := Lib.hid b1
 have D1 := Lib.hid b1
 clear b1
 have H1 := Lib.hid (H.out.up B1.out)
 have H1' := Lib.hid (H'.out.up B1.out)
 go_wp2_with fail
 refine (lmost_any A' levels c' w1 H1'.out (by omega)).mono ?_
 rintro e w2 ⟨rfl, b2⟩
 rw [HM.out]
 have B2 := Lib.hid (below_then B1.out b2)
 have H2 := Lib.hid (H1.out.up b2)
 have H2' := Lib.hid (H1'.out.up b2)
 clear b2
 go_upto_region 6 with fail
 go_cut [8] (fun v wx => v = .bool (decide (levels.length = 0)) ∧ w2 = wx)
 case first =>
  rcases hz : ((levels.length : Int) == 0) with _ | _
  ·have e : Hid (false = decide (levels.length = 0)) := Lib.hid (by rw [eq_comm, decide_eq_false_iff_not]; simpa using hz)
   go_wp2_with fail
   go_meet
   exact ⟨by rw [← e.out], rfl⟩
  ·have hz0 : levels.length = 0 := by simpa using hz
   have e : Hid (true = decide (levels.length = 0)) := Lib.hid (by simp [hz0])
   have hm1 : (m == -1) = true := by have := HM0.out hz0; simp [this]
   clear hz0
   go_wp2_with fail
   go_meet
   exact ⟨by rw [← e.out], rfl⟩
 case rest =>
  obtain ⟨rfl, rfl⟩ := hcut
  obtain ⟨b0, hb0'⟩ : ∃ b, decide (levels.length = 0) = b := ⟨_, rfl⟩
  rw [hb0'] at HIS ⊢
  clear hb0'
  go_wp2_with fail
  go_loopw [9, 8] (fun iv bv wr => ∃ (i : Nat) (q : Bool), i ≤ levels.length ∧ iv = .int .i64 i ∧ bv = .bool q ∧ Hid (q = (b0 || (levels.take i).any (fun x => x == m))) ∧ w2 = wr) (fun iv _ _ => levels.length - (intOf iv).toNat)
  case atStart => exact ⟨0, b0, by omega, rfl, rfl, Lib.hid (by simp), rfl⟩
  case round =>
   obtain ⟨i, q, hi, rfl, rfl, HQ, rfl⟩ := hrel
   by_cases hlt : i < levels.length
   ·obtain ⟨p, rfl, _, hcx⟩ := H2'.out.int hlt
    obtain ⟨x, hx⟩ : ∃ x, levels[i] = x := ⟨_, rfl⟩
    have hge := HGE.out _ (List.getElem_mem hlt)
    have HAN := Lib.hid (any_next levels m hlt)
    rw [hx] at hcx hge HAN
    have i0 : (0 : Int) ≤ (i : Int) := by omega
    have i1 : (i : Int) < (levels.length : Int) := by omega
    have d0 : decide (m < x) = false := by simp; omega
    have d0' : decide (x > m) = false := by simp; omega
    clear hx hge
    cases q
    ·rcases hxm : (x == m) with _ | _
     ·have HX := Lib.hid hxm
      go_wp2_with fail
      go_roundw
      case rel => exact ⟨i + 1, false, by omega, by go_num, rfl, Lib.hid (by rw [HAN.out, HX.out, Bool.or_false]; exact HQ.out), by first | rfl | trivial⟩
      case measure => simp [intOf]; omega
     ·have HX := Lib.hid hxm
      go_wp2_with fail
      go_roundw
      case rel => exact ⟨i + 1, true, by omega, by go_num, rfl, Lib.hid (by rw [HAN.out, HX.out, Bool.or_true, Bool.or_true]), by first | rfl | trivial⟩
      case measure => simp [intOf]; omega
    ·go_wp2_with fail
     go_roundw
     case rel => exact ⟨i + 1, true, by omega, by go_num, rfl, Lib.hid (by rw [HAN.out, ← Bool.or_assoc, ← HQ.out, Bool.true_or]), by first | rfl | trivial⟩
     case measure => simp [intOf]; omega
   ·obtain rfl : i = levels.length := by omega
    have HQ1 : Hid (true = q) := Lib.hid (by have h1 := HQ.out; rw [List.take_length, HIS.out] at h1; exact h1.symm)
    obtain rfl := HQ1.out
    go_wp2_with fail
    refine (lof_any A chars c dir w2 (HT.out.below B2.out HT.out.big) H2.out (by omega)).mono ?_
    rintro e w3 ⟨v3, rfl, o3, b3⟩
    rw [HL.out] at o3
    rw [HBS.out]
    obtain ⟨A3, c3, hv3, l3, -, -⟩ := o3.form
    rw [ints, List.length_map, HLL.out] at hv3
    subst hv3
    have B3 := Lib.hid (below_then B2.out b3)
    have H3 := Lib.hid (H2.out.up b3)
    have L3 := Lib.hid l3
    clear o3 l3 b3
    obtain ⟨f, hf⟩ : ∃ f, L.headD 0 = f := ⟨_, rfl⟩
    have HWH : Hid (wholeI L = L.all (fun x => x == f)) := Lib.hid (by rw [wholeI, hf])
    have HF := Lib.hid hf
    clear hf
    go_wp2_with fail
    go_loopw [13, 12] (fun iv bv wr => ∃ (i : Nat) (q : Bool), i ≤ chars.length ∧ iv = .int .i64 i ∧ bv = .bool q ∧ Hid (q = (L.take i).all (fun x => x == f)) ∧ Hid (Below w3.heap.size w3 wr)) (fun iv _ _ => chars.length - (intOf iv).toNat)
    case atStart => exact ⟨0, true, by omega, rfl, rfl, Lib.hid (by simp), Lib.hid (Below.refl _ _)⟩
    case round =>
     obtain ⟨i, q, hi2, rfl, rfl, HQ2, HB⟩ := hrel
     by_cases hlt2 : i < chars.length
     ·have hlo : i < L.length := by rw [HLL.out]; exact hlt2
      obtain ⟨b, off, hA3, hbw, hcell⟩ := (L3.out.up HB.out).plainInts (by omega)
      subst hA3
      obtain ⟨x, hx⟩ : ∃ x, L[i] = x := ⟨_, rfl⟩
      have hc1 := hcell i hlo
      have hc0 := hcell 0 (by omega)
      rw [hx] at hc1
      have h0f : L[0]'(by omega) = f := by rw [← HF.out]; cases L with
       | nil => simp at hlo
       | cons a r => rfl
      rw [h0f, Nat.add_zero] at hc0
      have HAN := Lib.hid (all_next L f hlo)
      rw [hx] at HAN
      have i0 : (0 : Int) ≤ (i : Int) := by omega
      have i1 : (i : Int) < (chars.length : Int) := by omega
      have i2 : (0 : Int) < (chars.length : Int) := by omega
      clear hx h0f hcell hlo
      cases q
      ·go_wp2_with fail
       go_quiet (fail)
       go_wp2_with fail
       go_roundw
       case rel => exact ⟨i + 1, false, by omega, by go_num, rfl, Lib.hid (by rw [HAN.out, ← HQ2.out, Bool.false_and]), Lib.hid (below_drawn HB.out _)⟩
       case measure => simp [intOf]; omega
      ·rcases hxm : (x == f) with _ | _
       ·have HX := Lib.hid hxm
        go_wp2_with fail
        go_quiet (fail)
        go_wp2_with fail
        go_roundw
        case rel => exact ⟨i + 1, false, by omega, by go_num, rfl, Lib.hid (by rw [HAN.out, HX.out, Bool.and_false]), Lib.hid (below_drawn HB.out _)⟩
        case measure => simp [intOf]; omega
       ·have HX := Lib.hid hxm
        go_wp2_with fail
        go_quiet (fail)
        go_wp2_with fail
        go_roundw
        case rel => exact ⟨i + 1, true, by omega, by go_num, rfl, Lib.hid (by rw [HAN.out, HX.out, Bool.and_true]; exact HQ2.out), Lib.hid (below_drawn HB.out _)⟩
        case measure => simp [intOf]; omega
     ·obtain rfl : i = chars.length := by omega
      have HQW : Hid (wholeI L = q) := Lib.hid (by rw [HWH.out, HQ2.out, List.take_of_length_le (by rw [HLL.out]; exact Nat.le_refl _)])
      go_wp2_with fail
      refine (lwhole_any A chars c dir wr (HT.out.below (below_then B3.out HB.out) HT.out.big) (H3.out.up HB.out) (by omega)).mono ?_
      rintro e w5 ⟨rfl, b5⟩
      rw [HL.out, HQW.out]
      have B5 := Lib.hid (below_then (below_then B3.out HB.out) b5)
      clear b5
      cases q
      ·go_wp2
       go_ret
       exact ⟨rfl, B5.out⟩
      ·go_wp2
       go_ret
       exact ⟨rfl, B5.out⟩
set_option maxHeartbeats 1000000 in
theorem walk_long (w : World) (hT : ClsTabs w) (A : Option Addr) (chars : List Int) (c : Nat) (dir : Int) (A' : Option Addr) (levels : List Int) (c' : Nat) (hl : chars.length ≤ 9223372036854775807) (hl' : levels.length ≤ 9223372036854775807) (hh : 200 < chars.length ∨ 200 < levels.length) :
 Calls Tryz.prog 7 #[.slice A chars.length c, .int .i64 dir, .slice A' levels.length c'] w fun e w' => e = .returned (.bool true) ∧ Below w.heap.size w w' := by
 have HT := Lib.hid hT
 clear hT
 by_cases h1 : 200 < chars.length
 ·clear hh
  go_enter Tryz.func7, Tryz.ntmps7
  go_wp2_with fail
  refine (lalive_any w HT.out).mono ?_
  rintro e w1 ⟨rfl, b1⟩
  have B1 := Lib.hid b1
  have D1 := Lib.hid b1
  clear b1
  go_wp2
  go_ret
  exact ⟨rfl, B1.out⟩
 ·have h2 : 200 < levels.length := by omega
  clear hh
  go_enter Tryz.func7, Tryz.ntmps7
  go_wp2_with fail
  refine (lalive_any w HT.out).mono ?_
  rintro e w1 ⟨rfl, b1⟩
  have B1 := Lib.hid b1
  have D1 := Lib.hid b1
  clear b1
  go_wp2
  go_ret
  exact ⟨rfl, B1.out⟩
theorem walk (w : World) (hT : ClsTabs w) (A : Option Addr) (chars : List Int) (c : Nat) (hc : chars.length ≤ c) (hm : c ≤ maxLen) (h : Lies w w.heap.size A (ints .i64 chars)) (_ : ∀ n ∈ chars, (Lit.int .i64 n).wf = true) (dir : Int) (_ : (Lit.int .i64 dir).wf = true)
 (A' : Option Addr) (levels : List Int) (c' : Nat) (hc' : levels.length ≤ c') (hm' : c' ≤ maxLen) (h' : Lies w w.heap.size A' (ints .i64 levels)) (_ : ∀ n ∈ levels, (Lit.int .i64 n).wf = true) :
 Calls Tryz.prog 7 #[.slice A chars.length c, .int .i64 dir, .slice A' levels.length c'] w fun e w' => e = .returned (.bool true) ∧ Below w.heap.size w w' := by
 unfold maxLen at hm hm'
 by_cases hh : 200 < chars.length ∨ 200 < levels.length
 ·exact walk_long w hT A chars c dir A' levels c' (by omega) (by omega) hh
 ·exact walk_ok w hT A chars c (by omega) h dir A' levels c' (by omega) h'
-- WRAP
theorem spec : LawSpec Rows.levelMostsSpec 3 := ⟨rfl, fun H ds h => by
 match ds, h with
 | [d0, d1, d2], _ => rfl⟩
theorem params_ok : ∀ t ∈ Tryz.f7.params.toList, Tryz.prog.readableRec t = true ∧ t < Tryz.prog.types.size := by
 rw [Tryz.params7]
 intro t ht
 simp only [List.mem_cons, List.mem_nil_iff, or_false] at ht
 rcases ht with rfl | rfl | rfl
 all_goals exact ⟨by kernel_rfl, of_decide_eq_true (by kernel_rfl)⟩
set_option maxRecDepth 100000 in
theorem contract (H : Type) (enc : TypeId × Value → H) (W : World) (base : Nat) (args : Array Value) (ds gs : List (DataW H)) (before : List MemPlace)
 (hval : ∀ (j : Nat) t v, Tryz.f7.params[j]? = some t → args[j]? = some v → Value.okWide Tryz.prog W .any base t v)
 (hW : DataW.Whole enc Tryz.prog Tryz.f7.params.toList Rows.levelMostsSpec.vars false W args.toList ds gs before) (hL : laidMetH Tryz.prog laidList W) :
 Calls Tryz.prog 7 args W fun e W' => ∃ v, e = .returned v ∧ Rows.levelMostsSpec.post enc Tryz.prog Tryz.f7 false true false false W args v W' := by
 have hW' := hW
 obtain ⟨p, q, hA0, hV, rfl, hfz, hnd⟩ := hW
 have hA : DataW.TrodAll enc Tryz.prog W 0 (fun _ => true) true Tryz.f7.params.toList args.toList ds p := hA0
 rw [Tryz.params7] at hA hval
 obtain ⟨v0, vs0, d0, ds0, p0, q0, hargs, rfl, rfl, h0, r0⟩ := trodAll_cons hA
 obtain ⟨v1, vs1, d1, ds1, p1, q1, rfl, rfl, rfl, h1, r1⟩ := trodAll_cons r0
 obtain ⟨v2, vs2, d2, ds2, p2, q2, rfl, rfl, rfl, h2, r2⟩ := trodAll_cons r1
 obtain ⟨rfl, rfl, rfl⟩ := trodAll_nil r2
 obtain rfl : args = #[v0, v1, v2] := by cases args; simp_all
 obtain ⟨A0, l0, c0, rfl, hc0, hm0, hl0, wf0⟩ := open_list Tryz.underlying22 Tryz.underlying3 (by kernel_rfl) (hval 0 22 v0 rfl rfl) h0
 obtain ⟨a1, rfl, rfl, rfl, w1⟩ := open_int Tryz.underlying3 (hval 1 3 v1 rfl rfl) h1
 obtain ⟨A2, l2, c2, rfl, hc2, hm2, hl2, wf2⟩ := open_list Tryz.underlying22 Tryz.underlying3 (by kernel_rfl) (hval 2 22 v2 rfl rfl) h2
 exact (walk W (tabs_of hL) A0 l0 c0 hc0 hm0 hl0 wf0 a1 w1 A2 l2 c2 hc2 hm2 hl2 wf2).mono fun e W' ⟨he, hg⟩ => ⟨_, he, law_post spec (by rw [Tryz.params7]; rfl) (by kernel_rfl) params_ok (by kernel_rfl) Tryz.underlying4 hW' hg⟩
set_option maxRecDepth 100000 in
theorem laid_met (os : Os) : laidMet Tryz.prog Rows.levelMostsRow.laid ((laidWorld os #[.slice none 0 0, .int .i64 0, .slice none 0 0]).forCall (fun _ _ => 0) ⟨#[], #[.slice none 0 0, .int .i64 0, .slice none 0 0], []⟩).memory :=
 laidMet_of_run' 8 (by kernel_rfl) (by kernel_rfl)
set_option maxRecDepth 100000 in
theorem reads (os : Os) {H : Type} (enc : TypeId × Value → H) : ∃ places, DataW.whole enc Tryz.prog ((laidWorld os #[.slice none 0 0, .int .i64 0, .slice none 0 0]).forCall (fun _ _ => 0) ⟨#[], #[.slice none 0 0, .int .i64 0, .slice none 0 0], []⟩).memory Tryz.f7.params.toList Rows.levelMostsSpec.vars false #[.slice none 0 0, .int .i64 0, .slice none 0 0].toList 8 = some ([.nil, .lit (.int .i64 0), .nil], [], places) :=
 ⟨[], by kernel_rfl⟩
set_option maxRecDepth 100000 in
theorem lifted (os : Os) (started : os.Started) (H : Type) (enc : TypeId × Value → H) (F : Stop.Interp) :
 ReturnsInHanded {} Tryz.checked os 7 .any ((OpenSpec.ofChange Rows.levelMostsSpec).preRow enc Tryz.prog Tryz.f7 Rows.levelMostsRow.domain false Rows.levelMostsRow.laid) (((OpenSpec.ofChange Rows.levelMostsSpec).at F).post enc Tryz.prog Tryz.f7 false true false false) := by
 obtain ⟨places, hx⟩ := reads os enc
 refine returnsInHanded_of_row (C := Tryz.checked) (s := OpenSpec.ofChange Rows.levelMostsSpec) own started (by kernel_rfl) Tryz.func7
  (witness_row_at (enc := enc) (C := Tryz.checked) false (laidWorld os #[.slice none 0 0, .int .i64 0, .slice none 0 0]) #[.slice none 0 0, .int .i64 0, .slice none 0 0] rfl (by kernel_rfl) (by kernel_rfl) (by kernel_rfl)
   (OpenSpec.preRow_of_cond 8 hx (by kernel_rfl) (fun k hk => by cases hk) (by kernel_rfl) (laid_met os))) ?_
 intro W base args ds gs before hval hW _ _ _ hL _ _
 exact contract H enc W base args ds gs before hval hW hL
set_option maxRecDepth 100000 in
theorem said : Rows.LevelMostsSaid :=
 OpenClaim.holds_of_cond 7 Tryz.f7 rfl rfl rfl rfl rfl rfl rfl ⟨rfl, rfl, rfl, rfl, rfl⟩ rfl rfl rfl rfl rfl (by kernel_rfl) Tryz.func7 (by kernel_rfl)
  (of_decide_eq_true (by kernel_rfl)) (by unfold Func.isWrapper; first | (rw [if_pos (by decide +kernel)]; kernel_rfl) | (rw [if_neg (by decide +kernel)]; exact ⟨rfl, rfl⟩))
  (fun os started H enc _ F => by rw [OpenClaim.pre_eq_preRow]; exact lifted os started H enc F)
set_option maxRecDepth 100000 in
theorem card : Rows.LevelMostsCardSaid :=
 Claim7.holds_tied_plain_at .later [] _ _ _ _ said (fun _ h => by cases h) (by kernel_rfl) (fun _ h => by cases h) levelMosts_row_tie rfl ⟨rfl, rfl⟩ (by kernel_rfl) rfl
  (plainOf "ductus/ductuslaw12.LevelMosts" 7 Tryz.f7 (by kernel_rfl) Tryz.func7 (by kernel_rfl) (fun j t ht => by
   rw [Tryz.params7] at ht
   have hm := Array.mem_of_getElem? ht
   simp only [List.mem_toArray, List.mem_cons, List.mem_nil_iff, or_false] at hm
   rcases hm with rfl | rfl | rfl
   all_goals (show Tryz.prog.wantsStandIn _ = false; kernel_rfl))) (by kernel_rfl)
end Go.Proofs.YtcbaahlahohfmaaGreatDoor.lawMosts
