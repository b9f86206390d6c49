/- WeakLeaves: for every list of numbers and both directions, behind all rules no mark and no part of a number is left, strong and neutral ones and AN stay, and no EN stands behind L. Conditions: none (the names of the classes are tied to the text of the program). -/
import Derived.Test.YtibconopcacelaaDoorWkV
import Derived.Test.YtibconopcacelaaDoorClL
import Derived.Test.YtibconopcacelaaDoorLaw
import Derived.Deep.DeepCutAuto
import Derived.Test.YtibconopcacelaaDoorRows
namespace Go.Proofs.YtibconopcacelaaDoor.lawLeaves
open Go.ChangeShapes Go.WideShapes Go.ChangeAt Go.RowKit

/-- what holds at a place -/
structure At (x k s : Int) : Prop where
  range : 0 ≤ k ∧ k ≤ 22
  gone : k ≠ 8 ∧ k ≠ 2 ∧ k ≠ 4 ∧ k ≠ 5 ∧ k ≠ 7
  l : x = 0 → k = 0
  r : x = 1 ∨ x = 2 → k = 1
  mid : 10 ≤ x ∧ x ≤ 22 → k = x
  an : x = 6 → k = 6
  en : k = 3 → s ≠ 0
theorem at_place (l : List Int) (n : Int) (out : List Int) (ho : ofI l n = out) (hol : out.length = l.length) {i : Nat} (hi : i < l.length) : At l[i] (out[i]'(by omega)) (strongI out (i : Int) n) := by
  have hi' : i < out.length := by omega
  have hf : Free [2, 4, 5, 7, 8] out := ho ▸ (ofI_eq l n).2
  have hk : ∀ k, l[i]? = some k → (k = 0 ∨ k = 1 ∨ k = 6 ∨ (10 ≤ k ∧ k ≤ 22)) → out[i]? = some k := fun k h1 h2 => ho ▸ of_keep h1 h2
  have ha : l[i]? = some 2 → out[i]? = some 1 := fun h1 => ho ▸ of_al h1
  have he : out[i]? = some 3 → strongI out (i : Int) n ≠ 0 := by subst ho; exact of_en
  clear ho
  have hg : l[i]? = some l[i] := List.getElem?_eq_getElem hi
  have hg' : out[i]? = some out[i] := List.getElem?_eq_getElem hi'
  have hf := hf _ (List.getElem_mem hi')
  generalize l[i] = x at *
  generalize out[i] = k at *
  have hb := hf.2.2
  simp at hb
  refine ⟨⟨hf.1, hf.2.1⟩, ⟨hb.2.2.2.2, hb.1, hb.2.1, hb.2.2.1, hb.2.2.2.1⟩, fun e => ?_, fun e => ?_, fun e => ?_, fun e => ?_, fun e => ?_⟩
  · have := hk x hg (.inl e)
    rw [hg'] at this; injection this with this; omega
  · rcases e with e | e
    · have := hk x hg (.inr (.inl e))
      rw [hg'] at this; injection this with this; omega
    · rw [e] at hg
      have := ha hg
      rw [hg'] at this; injection this with this
  · have := hk x hg (.inr (.inr (.inr e)))
    rw [hg'] at this; injection this with this
  · have := hk x hg (.inr (.inr (.inl e)))
    rw [hg'] at this; injection this with this; omega
  · rw [e] at hg'
    exact he hg'

set_option maxRecDepth 20000 in
set_option maxHeartbeats 8000000 in
theorem walk_ok (w : World) (hT : ClsTabs w) (A : Option Addr) (l : List Int) (c : Nat) (hl : l.length ≤ 200) (h : Lies w w.heap.size A (ints .i64 l)) (b : Bool) :
    Calls Tryd.prog 3 #[.slice A l.length c, .bool b] w fun e w' => e = .returned (.bool true) ∧ Below w.heap.size w w' := by
  have hl' : l.length ≤ 1000 := by omega
  have H := Lib.hid h
  have HTB := Lib.hid hT
  clear hT
  obtain ⟨n, hn⟩ : ∃ n : Int, (if b then 1 else 0) = n := ⟨_, rfl⟩
  have HB0 := Lib.hid hn
  obtain ⟨out, ho⟩ : ∃ x, ofI l n = x := ⟨_, rfl⟩
  have HO := Lib.hid ho
  have hol : out.length = l.length := by rw [← ho, ofI_length]
  have HOL := Lib.hid hol
  have HAT : Hid (∀ i (hi : i < l.length) (hi' : i < out.length), At l[i] out[i] (strongI out (i : Int) n)) := Lib.hid (fun i hi _ => at_place l n out ho hol hi)
  clear h hn ho hol
  go_enter Tryd.func3, Tryd.ntmps3
  go_wp2_with fail
  refine (walive_any w HTB.out).mono ?_
  rintro e w1 ⟨rfl, b1⟩
  have B1 := Lib.hid b1
  have D1 := Lib.hid b1
  clear b1
  go_upto_if 14 with fail
  go_cut [1, 5] (fun v1 v wx => v1 = .bool b ∧ v = .int .i64 n ∧ w1 = wx)
  case first =>
    rcases b with _ | _
    · have e : Hid ((0 : Int) = n) := Lib.hid (by rw [← HB0.out]; rfl)
      go_wp2_with fail
      go_meet
      exact ⟨rfl, by rw [e.out], rfl⟩
    · have e : Hid ((1 : Int) = n) := Lib.hid (by rw [← HB0.out]; rfl)
      go_wp2_with fail
      go_meet
      exact ⟨rfl, by rw [e.out], rfl⟩
  case rest =>
    obtain ⟨rfl, rfl, rfl⟩ := hcut
    have H1 := Lib.hid (H.out.up B1.out)
    go_wp2_with fail
    refine (wof_any A l c n w1 (HTB.out.below B1.out HTB.out.big) H1.out hl').mono ?_
    rintro e w2 ⟨v2, rfl, o2, b2⟩
    rw [HO.out] at o2
    obtain ⟨A2, c2, hv2, l2, hc2, -⟩ := o2.form
    rw [ints, List.length_map] at hc2
    rw [ints, List.length_map, HOL.out] at hv2
    subst hv2
    have B2 := Lib.hid (below_then B1.out b2)
    have L2 := Lib.hid l2
    have H2 := Lib.hid (H1.out.up b2)
    have HC2 := Lib.hid hc2
    clear o2 l2 b2 hc2
    have HST : Hid (∀ (i : Nat) u, i ≤ l.length → ClsTabs u → Lies u u.heap.size A2 (ints .i64 out) → Calls Tryd.prog 9 #[.slice A2 l.length c2, .int .i64 (i : Int), .int .i64 n] u fun ed w' => ed = .returned (.int .i64 (strongI out i n)) ∧ Below u.heap.size u w') := Lib.hid fun i u hi ht hu => by
      have := wstrong_any A2 out c2 i n u ht hu (by rw [HOL.out]; exact hl') HC2.out (by rw [HOL.out]; exact hi)
      rw [HOL.out] at this
      exact this
    go_wp2_with fail
    go_loopw [7] (fun iv wr => ∃ i : Nat, i ≤ l.length ∧ iv = .int .i64 i ∧ Below w2.heap.size w2 wr) (fun iv _ => l.length - (intOf iv).toNat)
    case atStart => exact ⟨0, by omega, rfl, Below.refl _ _⟩
    case round =>
      obtain ⟨i, hi, rfl, hb⟩ := hrel
      have HB := Lib.hid hb
      clear hb
      by_cases hlt : i < l.length
      · have hlo : i < out.length := by rw [HOL.out]; exact hlt
        obtain ⟨p, hp, _, hcx⟩ := (H2.out.up HB.out).int hlt
        obtain ⟨p2, hp2, _, hck⟩ := (L2.out.up HB.out).int hlo
        subst hp hp2
        obtain ⟨x, hx⟩ : ∃ x, l[i] = x := ⟨_, rfl⟩
        obtain ⟨k, hk⟩ : ∃ x, out[i] = x := ⟨_, rfl⟩
        obtain ⟨s, hs⟩ : ∃ x, strongI out (i : Int) n = x := ⟨_, rfl⟩
        have hat := HAT.out i hlt hlo
        rw [hx, hk, hs] at hat
        rw [hx] at hcx
        rw [hk] at hck
        have HSI : Hid (Calls Tryd.prog 9 #[.slice (some p2) l.length c2, .int .i64 (i : Int), .int .i64 n] wr fun ed w' => ed = .returned (.int .i64 s) ∧ Below wr.heap.size wr w') := Lib.hid (hs ▸ HST.out i wr (by omega) (HTB.out.below (below_then B2.out HB.out) HTB.out.big) (L2.out.up HB.out))
        have c0 : (0 : Int) ≤ (i : Int) := by omega
        have c1 : (i : Int) < (l.length : Int) := by omega
        clear hx hk hs hlo
        have g8 : (k == 8) = false := by simpa using hat.gone.1
        have g2 : (k == 2) = false := by simpa using hat.gone.2.1
        have g4 : (k == 4) = false := by simpa using hat.gone.2.2.1
        have g5 : (k == 5) = false := by simpa using hat.gone.2.2.2.1
        have g7 : (k == 7) = false := by simpa using hat.gone.2.2.2.2
        have r0 : decide (k < 0) = false := by have := hat.range; simp; omega
        have r22 : decide (22 < k) = false := by have := hat.range; simp; omega
        obtain ⟨ok, hok⟩ : ∃ y : Bool, y = false ∧ True := ⟨false, rfl, trivial⟩
        have HA := Lib.hid hat
        clear hat hok ok
        go_upto_region 17 with fail
        go_cut [118] (fun v wx => v = .bool false ∧ wr = wx)
        case first =>
          clear g8 g2 g4 g5 g7 r0 r22
          by_cases e0 : x = 0
          · have f := HA.out.l e0
            subst e0 f
            go_wp2_with fail
            go_meet
            exact ⟨rfl, rfl⟩
          · by_cases e1 : x = 1
            · have f := HA.out.r (.inl e1)
              subst e1 f
              go_wp2_with fail
              go_meet
              exact ⟨rfl, rfl⟩
            · by_cases e2 : x = 2
              · have f := HA.out.r (.inr e2)
                subst e2 f
                go_wp2_with fail
                go_meet
                exact ⟨rfl, rfl⟩
              · have f0 : (x == 0) = false := by simpa using e0
                have f1 : (x == 1) = false := by simpa using e1
                have f2 : (x == 2) = false := by simpa using e2
                by_cases e6 : x = 6
                · have f := HA.out.an e6
                  subst e6 f
                  clear f0 f1 f2
                  go_wp2_with fail
                  go_meet
                  exact ⟨rfl, rfl⟩
                · have f6 : (x == 6) = false := by simpa using e6
                  clear e0 e1 e2 e6
                  rcases h10 : decide (10 ≤ x) with _ | _
                  · go_wp2_with fail
                    go_meet
                    exact ⟨rfl, rfl⟩
                  · rcases h22 : decide (x ≤ 22) with _ | _
                    · go_wp2_with fail
                      go_meet
                      exact ⟨rfl, rfl⟩
                    · have f := HA.out.mid ⟨by simpa using h10, by simpa using h22⟩
                      subst f
                      go_wp2_with fail
                      go_meet
                      exact ⟨rfl, rfl⟩
        case rest =>
          obtain ⟨rfl, rfl⟩ := hcut
          clear g8 g2 g4 g5 g7 r0 r22 hcx hck
          rcases e3 : (k == 3) with _ | _
          · go_wp2_with fail
            go_roundw
            case rel => exact ⟨i + 1, by omega, by go_num, HB.out⟩
            case measure => simp [intOf]; omega
          · have es : (s == 0) = false := by simpa using HA.out.en (by simpa using e3)
            go_wp2_with fail
            refine HSI.out.mono ?_
            rintro e w3 ⟨rfl, b3⟩
            have B3 := Lib.hid (below_then HB.out b3)
            clear b3
            go_wp2_with fail
            go_roundw
            case rel => exact ⟨i + 1, by omega, by go_num, B3.out⟩
            case measure => simp [intOf]; omega
      · obtain rfl : i = l.length := by omega
        go_wp2_with fail
        go_ret
        exact ⟨rfl, below_then B2.out HB.out⟩

set_option maxHeartbeats 1000000 in
theorem walk_long (w : World) (hT : ClsTabs w) (A : Option Addr) (l : List Int) (c : Nat) (hl : l.length ≤ 9223372036854775807) (hh : 200 < l.length) (b : Bool) :
    Calls Tryd.prog 3 #[.slice A l.length c, .bool b] w fun e w' => e = .returned (.bool true) ∧ Below w.heap.size w w' := by
  have HTB := Lib.hid hT
  clear hT
  go_enter Tryd.func3, Tryd.ntmps3
  go_wp2_with fail
  refine (walive_any w HTB.out).mono ?_
  rintro e w1 ⟨rfl, b1⟩
  have B1 := Lib.hid b1
  have D1 := Lib.hid b1
  clear b1
  go_wp2
  go_ret
  exact ⟨rfl, B1.out⟩

theorem walk (w : World) (hT : ClsTabs w) (A : Option Addr) (l : List Int) (c : Nat) (hc : l.length ≤ c) (hm : c ≤ maxLen) (h : Lies w w.heap.size A (ints .i64 l)) (_ : ∀ n ∈ l, (Lit.int .i64 n).wf = true) (b : Bool) :
    Calls Tryd.prog 3 #[.slice A l.length c, .bool b] w fun e w' => e = .returned (.bool true) ∧ Below w.heap.size w w' := by
  unfold maxLen at hm
  by_cases hh : 200 < l.length
  · exact walk_long w hT A l c (by omega) hh _
  · exact walk_ok w hT A l c (by omega) h b
-- WRAP
theorem spec : LawSpec Rows.weakLeavesSpec 2 := ⟨rfl, fun H ds h => by
  match ds, h with
  | [d0, d1], _ => rfl⟩
theorem params_ok : ∀ t ∈ Tryd.f3.params.toList, Tryd.prog.readableRec t = true ∧ t < Tryd.prog.types.size := by
  rw [Tryd.params3]
  intro t ht
  simp only [List.mem_cons, List.mem_nil_iff, or_false] at ht
  rcases ht with rfl | rfl
  all_goals exact ⟨by kernel_rfl, of_decide_eq_true (by kernel_rfl)⟩

theorem contract (H : Type) (enc : TypeId × Value → H) (W : World) (base : Nat) (args : Array Value) (ds gs : List (DataW H)) (before : List MemPlace)
    (hval : ∀ (j : Nat) t v, Tryd.f3.params[j]? = some t → args[j]? = some v → Value.okWide Tryd.prog W .any base t v)
    (hW : DataW.Whole enc Tryd.prog Tryd.f3.params.toList Rows.weakLeavesSpec.vars false W args.toList ds gs before) (hL : laidMetH Tryd.prog laidList W) :
    Calls Tryd.prog 3 args W fun e W' => ∃ v, e = .returned v ∧ Rows.weakLeavesSpec.post enc Tryd.prog Tryd.f3 false true false false W args v W' := by
  have hW' := hW
  obtain ⟨p, q, hA0, hV, rfl, hfz, hnd⟩ := hW
  have hA : DataW.TrodAll enc Tryd.prog W 0 (fun _ => true) true Tryd.f3.params.toList args.toList ds p := hA0
  rw [Tryd.params3] at hA hval
  obtain ⟨v0, vs0, d0, ds0, p0, q0, hargs, rfl, rfl, h0, r0⟩ := trodAll_cons hA
  obtain ⟨v1, vs1, d1, ds1, p1, q1, rfl, rfl, rfl, h1, r1⟩ := trodAll_cons r0
  obtain ⟨rfl, rfl, rfl⟩ := trodAll_nil r1
  obtain rfl : args = #[v0, v1] := by cases args; simp_all
  obtain ⟨A0, l0, c0, rfl, hc0, hm0, hl0, wf0⟩ := open_list Tryd.underlying22 Tryd.underlying3 (by kernel_rfl) (hval 0 22 v0 rfl rfl) h0
  obtain ⟨a1, rfl, rfl, rfl⟩ := open_bool Tryd.underlying4 (hval 1 4 v1 rfl rfl) h1
  exact (walk W (tabs_of hL) A0 l0 c0 hc0 hm0 hl0 wf0 a1).mono fun e W' ⟨he, hg⟩ => ⟨_, he, law_post spec (by rw [Tryd.params3]; rfl) (by kernel_rfl) params_ok (by kernel_rfl) Tryd.underlying4 hW' hg⟩

theorem laid_met (os : Os) : laidMet Tryd.prog Rows.weakLeavesRow.laid ((laidWorld os #[.slice none 0 0, .bool false]).forCall (fun _ _ => 0) ⟨#[], #[.slice none 0 0, .bool false], []⟩).memory :=
  laidMet_of_run' 8 (by kernel_rfl) (by kernel_rfl)
theorem reads (os : Os) {H : Type} (enc : TypeId × Value → H) : ∃ places, DataW.whole enc Tryd.prog ((laidWorld os #[.slice none 0 0, .bool false]).forCall (fun _ _ => 0) ⟨#[], #[.slice none 0 0, .bool false], []⟩).memory Tryd.f3.params.toList Rows.weakLeavesSpec.vars false #[.slice none 0 0, .bool false].toList 8 = some ([.nil, .lit (.bool false)], [], places) :=
  ⟨[], by kernel_rfl⟩
set_option maxRecDepth 100000 in
theorem lifted (os : Os) (started : os.Started) (H : Type) (enc : TypeId × Value → H) (F : Stop.Interp) :
    ReturnsInHanded {} Tryd.checked os 3 .any ((OpenSpec.ofChange Rows.weakLeavesSpec).preRow enc Tryd.prog Tryd.f3 Rows.weakLeavesRow.domain false Rows.weakLeavesRow.laid) (((OpenSpec.ofChange Rows.weakLeavesSpec).at F).post enc Tryd.prog Tryd.f3 false true false false) := by
  obtain ⟨places, hx⟩ := reads os enc
  refine returnsInHanded_of_row (C := Tryd.checked) (s := OpenSpec.ofChange Rows.weakLeavesSpec) own started (by kernel_rfl) Tryd.func3
    (witness_row_at (enc := enc) (C := Tryd.checked) false (laidWorld os #[.slice none 0 0, .bool false]) #[.slice none 0 0, .bool false] rfl (by kernel_rfl) (by kernel_rfl) (by kernel_rfl)
      (OpenSpec.preRow_of_cond 8 hx (by kernel_rfl) (fun k hk => by cases hk) (by kernel_rfl) (laid_met os))) ?_
  intro W base args ds gs before hval hW _ _ _ hL _ _
  exact contract H enc W base args ds gs before hval hW hL
theorem said : Rows.WeakLeavesSaid :=
  OpenClaim.holds_of_cond 3 Tryd.f3 rfl rfl rfl rfl rfl rfl rfl ⟨rfl, rfl, rfl, rfl, rfl⟩ rfl rfl rfl rfl rfl (by kernel_rfl) Tryd.func3 (by kernel_rfl)
    (of_decide_eq_true (by kernel_rfl)) (by unfold Func.isWrapper; first | (rw [if_pos (by decide +kernel)]; kernel_rfl) | (rw [if_neg (by decide +kernel)]; exact ⟨rfl, rfl⟩))
    (fun os started H enc _ F => by rw [OpenClaim.pre_eq_preRow]; exact lifted os started H enc F)
theorem card : Rows.WeakLeavesCardSaid :=
  Claim7.holds_tied_plain_at .later [] _ _ _ _ said (fun _ h => by cases h) (by kernel_rfl) (fun _ h => by cases h) weakLeaves_row_tie rfl ⟨rfl, rfl⟩ (by kernel_rfl) rfl
    (plainOf "ductus/ductuslaw09.WeakLeaves" 3 Tryd.f3 (by kernel_rfl) Tryd.func3 (by kernel_rfl) (fun j t ht => by
      rw [Tryd.params3] at ht
      have hm := Array.mem_of_getElem? ht
      simp only [List.mem_toArray, List.mem_cons, List.mem_nil_iff, or_false] at hm
      rcases hm with rfl | rfl
      all_goals (show Tryd.prog.wantsStandIn _ = false; kernel_rfl))) (by kernel_rfl)
end Go.Proofs.YtibconopcacelaaDoor.lawLeaves
