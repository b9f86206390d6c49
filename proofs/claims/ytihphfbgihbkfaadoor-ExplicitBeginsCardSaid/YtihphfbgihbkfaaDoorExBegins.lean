/- ExplicitBegins: for every list of numbers, every place of sixteen bits and either base, levels and classes of a beginning are the beginning's, but where an isolate whose direction is looked for is in it. Conditions: none (the names' cells are tied to the program's text). -/
import Derived.Test.YtihphfbgihbkfaaDoorEpF
import Derived.Test.YtihphfbgihbkfaaDoorExN
import Derived.Test.YtihphfbgihbkfaaDoorClL
import Derived.Test.YtihphfbgihbkfaaDoorLaw
import Derived.Test.YtihphfbgihbkfaaDoorSame
import Derived.Test.YtihphfbgihbkfaaDoorReg
import Derived.Test.YtihphfbgihbkfaaDoorSlc
namespace Go.Proofs.YtihphfbgihbkfaaDoor.lawBegins
open Go.ChangeShapes Go.WideShapes Go.ChangeAt Go.RowKit

set_option maxRecDepth 20000 in
set_option maxHeartbeats 16000000 in
theorem walk_ok (w : World) (hT : ClsTabs w) (A : Option Addr) (l : List Int) (c0 : Nat) (hl : l.length ≤ 300) (hc : l.length ≤ c0) (_ : c0 ≤ 9223372036854775807) (h : Lies w w.heap.size A (ints .i64 l)) (z : Nat) (hz : z ≤ 65535) (b : Bool) :
    Calls Tryd.prog 7 #[.slice A l.length c0, .int .u16 (z : Int), .bool b] w fun e w' => e = .returned (.bool true) ∧ Below w.heap.size w w' := by
  have hl' : l.length ≤ 1000000 := by omega
  have HT := Lib.hid hT
  have hbig := hT.big
  have H := Lib.hid h
  obtain ⟨n, hn⟩ : ∃ n : Int, (if b = true then (1 : Int) else 0) = n := ⟨_, rfl⟩
  have HB := Lib.hid hn
  obtain ⟨k, hk⟩ : ∃ k, z % (l.length + 1) = k := ⟨_, rfl⟩
  have hkl : k ≤ l.length := by have := Nat.mod_lt z (show 0 < l.length + 1 by omega); omega
  have hw0 : IntKind.i64.wrap (z : Int) = (z : Int) := IntWalk.i64_in _ (by omega)
  have hw1 : IntKind.i64.wrap ((l.length : Int) + 1) = (l.length : Int) + 1 := IntWalk.i64_in _ (by omega)
  have hrem : (z : Int) % ((l.length : Int) + 1) = (k : Int) := by rw [← hk]; simp
  have hnz : ¬ ((l.length : Int) + 1) = 0 := by omega
  have hnz2 : ((l.length : Int) + 1 == 0) = false := by simp; omega
  have HKL := Lib.hid hkl
  clear hT h hn hk
  go_enter Tryd.func7, Tryd.ntmps7
  go_wp2_with fail
  refine (ealive_any w HT.out).mono ?_
  rintro e w1 ⟨rfl, b1⟩
  have B1 := Lib.hid b1
  have D1 := Lib.hid b1
  clear b1
  go_upto_if 19 with fail
  go_cut [2, 7] (fun v1 v wx => v1 = .bool b ∧ v = .int .i64 n ∧ wx = w1)
  case first =>
    rcases hb : b with _ | _
    · have HN : Hid ((0 : Int) = n) := Lib.hid (by rw [← HB.out, hb]; rfl)
      have HBV := Lib.hid hb
      clear hb
      go_wp2_with fail
      go_meet
      exact ⟨by rw [HBV.out], by rw [HN.out], rfl⟩
    · have HN : Hid ((1 : Int) = n) := Lib.hid (by rw [← HB.out, hb]; rfl)
      have HBV := Lib.hid hb
      clear hb
      go_wp2_with fail
      go_meet
      exact ⟨by rw [HBV.out], by rw [HN.out], rfl⟩
  case rest =>
    obtain ⟨rfl, rfl, rfl⟩ := hcut
    go_wp2_with fail
    have LL := Lib.hid (H.out.up B1.out)
    go_loopw [9] (fun iv wr => ∃ j : Nat, j ≤ k ∧ iv = .int .i64 j ∧ (∀ i, i < j → at0 l i ≠ 21) ∧ wr = wc) (fun iv _ => k - (intOf iv).toNat)
    case atStart => exact ⟨0, by omega, rfl, fun i hi => absurd hi (by omega), rfl⟩
    case round =>
      obtain ⟨j, hj, rfl, hno, rfl⟩ := hrel
      have HNO := Lib.hid hno
      clear hno
      by_cases hlt : j < k
      · have hjl : j < l.length := by omega
        obtain ⟨p, rfl, _, hcl⟩ := LL.out.int hjl
        obtain ⟨c, hcc⟩ : ∃ c, l[j] = c := ⟨_, rfl⟩
        rw [hcc] at hcl
        have b0 : (0 : Int) ≤ (j : Int) := by omega
        have b1 : (j : Int) < (l.length : Int) := by omega
        rcases h21 : (c == 21) with _ | _
        · have HN2 : Hid (∀ i, i < j + 1 → at0 l i ≠ 21) := Lib.hid fun i hi => by
            by_cases e : i = j
            · subst e
              rw [at0_eq hjl, hcc]
              simpa using h21
            · exact HNO.out i (by omega)
          clear hcc
          go_wp2_with fail
          go_roundw
          case rel => exact ⟨j + 1, by omega, by go_num, HN2.out, by first | rfl | trivial⟩
          case measure => simp [intOf]; omega
        · clear hcc
          go_wp2_with fail
          go_ret
          exact ⟨rfl, B1.out⟩
      · obtain rfl : j = k := by omega
        obtain ⟨q1, q2, q3⟩ := begin_facts l n j HKL.out HNO.out
        obtain ⟨m, hm⟩ : ∃ m, lvs l n = m := ⟨_, rfl⟩
        obtain ⟨m2, hm2⟩ : ∃ m, cls l n = m := ⟨_, rfl⟩
        obtain ⟨d, hd⟩ : ∃ m, dep l n = m := ⟨_, rfl⟩
        obtain ⟨d2, hd2⟩ : ∃ m, dep (l.take j) n = m := ⟨_, rfl⟩
        obtain ⟨lt, hlt'⟩ : ∃ m, l.take j = m := ⟨_, rfl⟩
        have hltl : lt.length = j := by rw [← hlt']; simp; omega
        have hml : m.length = l.length := by rw [← hm, lvs_length]
        have hml2 : m2.length = l.length := by rw [← hm2, cls_length]
        rw [hm, hlt'] at q1
        rw [hm2, hlt'] at q2
        rw [hd, hd2] at q3
        rw [hlt'] at hd2
        obtain ⟨ma, hma⟩ : ∃ a, m.take j = a := ⟨_, rfl⟩
        obtain ⟨mb, hmb⟩ : ∃ a, m2.take j = a := ⟨_, rfl⟩
        rw [hma] at q1
        rw [hmb] at q2
        have hmal : ma.length = j := by rw [← hma]; simp; omega
        have hmbl : mb.length = j := by rw [← hmb]; simp; omega
        have Q1 := Lib.hid q1
        have Q2 := Lib.hid q2
        have HM := Lib.hid hm
        have HM2 := Lib.hid hm2
        have HD := Lib.hid hd
        have HD2 := Lib.hid hd2
        have HLT := Lib.hid hlt'
        have HLTL := Lib.hid hltl
        have HMAL := Lib.hid hmal
        have HMBL := Lib.hid hmbl
        have HMA := Lib.hid hma
        have HMB := Lib.hid hmb
        have LT := Lib.hid (hlt' ▸ LL.out.short j)
        have ge1 : ((m.length : Int) == (l.length : Int)) = true := by rw [hml]; simp
        have ge2 : ((m2.length : Int) == (l.length : Int)) = true := by rw [hml2]; simp
        have gd : decide ((d2 : Int) ≤ (d : Int)) = true := by simp; omega
        have gd' : decide (d2 ≤ d) = true := by simp; omega
        have b0 : (0 : Int) ≤ (j : Int) := by omega
        have b1 : (j : Int) ≤ (c0 : Int) := by omega
        have hjc : j ≤ c0 := by omega
        have HML := Lib.hid hml
        have HML2 := Lib.hid hml2
        have hj6 : j ≤ 1000000 := by omega
        clear q1 q2 q3 hm hm2 hd hd2 hlt' hltl hml hml2 hma hmb hmal hmbl
        go_wp2_with fail
        refine (of_any A l c0 n wr (HT.out.below B1.out hbig) LL.out hl' hc).mono ?_
        rintro e w2 ⟨v1, v2, rfl, o1, o2, b2⟩
        rw [HM.out] at o1
        rw [HM2.out] at o2
        obtain ⟨A1, c1, rfl, l1, hc1, _⟩ := o1.form
        obtain ⟨A2, c2, rfl, l2, hc2, _⟩ := o2.form
        simp only [ints, List.length_map] at hc1 hc2 ⊢
        have hj1 : j ≤ c1 := by have := HML.out; omega
        have hj2 : j ≤ c2 := by have := HML2.out; omega
        have L1 := Lib.hid l1
        have L2 := Lib.hid l2
        have B2 := Lib.hid (below_then B1.out b2)
        have LT2 := Lib.hid (LT.out.up b2)
        have LL2 := Lib.hid (LL.out.up b2)
        clear o1 o2 l1 l2 b2 hc1 hc2
        go_wp2_with (first
          | (refine short_lies intsT _ _ _ .i64 j A l.length c0 rfl rfl rfl rfl hjc ?_)
          | fail)
        have hof := of_any A lt c0 n w2 (HT.out.below B2.out hbig) LT2.out (by rw [HLTL.out]; exact hj6) (by rw [HLTL.out]; exact hjc)
        rw [HLTL.out] at hof
        refine hof.mono ?_
        clear hof
        rintro e w3 ⟨v3, v4, rfl, o1, o2, b3⟩
        rw [Q1.out] at o1
        rw [Q2.out] at o2
        obtain ⟨A3, c3, rfl, l3, _, _⟩ := o1.form
        obtain ⟨A4, c4, rfl, l4, _, _⟩ := o2.form
        simp only [ints, List.length_map]
        rw [HMAL.out, HMBL.out]
        have L3 := Lib.hid l3
        have L4 := Lib.hid l4
        have B3 := Lib.hid (below_then B2.out b3)
        have L1a : Hid (Lies w3 w3.heap.size A1 (ints .i64 ma)) := Lib.hid (HMA.out ▸ (L1.out.up b3).short j)
        have L2a : Hid (Lies w3 w3.heap.size A2 (ints .i64 mb)) := Lib.hid (HMB.out ▸ (L2.out.up b3).short j)
        have LT3 := Lib.hid (LT2.out.up b3)
        have LL3 := Lib.hid (LL2.out.up b3)
        clear o1 o2 l3 l4 b3
        go_wp2_with (first
          | (refine short_lies intsT _ _ _ .i64 j A1 m.length c1 rfl rfl rfl rfl hj1 ?_)
          | fail)
        have hi := ints_ok A1 A3 ma c1 c3 w3 L1a.out L3.out (by rw [HMAL.out]; omega)
        rw [HMAL.out] at hi
        refine hi.mono ?_
        clear hi
        rintro e w4 ⟨rfl, b4⟩
        have B4 := Lib.hid (below_then B3.out b4)
        have L2b := Lib.hid (L2a.out.up b4)
        have L4b := Lib.hid (L4.out.up b4)
        have LT4 := Lib.hid (LT3.out.up b4)
        have LL4 := Lib.hid (LL3.out.up b4)
        clear b4
        go_wp2_with (first
          | (refine short_lies intsT _ _ _ .i64 j A2 m2.length c2 rfl rfl rfl rfl hj2 ?_)
          | fail)
        have hi := ints_ok A2 A4 mb c2 c4 w4 L2b.out L4b.out (by rw [HMBL.out]; omega)
        rw [HMBL.out] at hi
        refine hi.mono ?_
        clear hi
        rintro e w5 ⟨rfl, b5⟩
        have B5 := Lib.hid (below_then B4.out b5)
        have LT5 := Lib.hid (LT4.out.up b5)
        have LL5 := Lib.hid (LL4.out.up b5)
        clear b5
        go_wp2_with (first
          | (refine short_lies intsT _ _ _ .i64 j A l.length c0 rfl rfl rfl rfl hjc ?_)
          | fail)
        have hdp := depth_any A lt c0 n w5 (HT.out.below B5.out hbig) LT5.out (by rw [HLTL.out]; exact hj6) (by rw [HLTL.out]; exact hjc)
        rw [HLTL.out, HD2.out] at hdp
        refine hdp.mono ?_
        clear hdp
        rintro e w6 ⟨rfl, b6⟩
        have B6 := Lib.hid (below_then B5.out b6)
        have LL6 := Lib.hid (LL5.out.up b6)
        clear b6
        go_wp2_with fail
        refine (depth_any A l c0 n w6 (HT.out.below B6.out hbig) LL6.out hl' hc).mono ?_
        rintro e w7 ⟨rfl, b7⟩
        rw [HD.out]
        have B7 := Lib.hid (below_then B6.out b7)
        clear b7
        go_wp2_with fail
        go_ret
        exact ⟨rfl, B7.out⟩

set_option maxHeartbeats 1000000 in
theorem walk_long (w : World) (hT : ClsTabs w) (A : Option Addr) (l : List Int) (c : Nat) (hl : l.length ≤ 9223372036854775807) (hh : 300 < l.length) (a : Int) (b : Bool) :
    Calls Tryd.prog 7 #[.slice A l.length c, .int .u16 a, .bool b] w fun e w' => e = .returned (.bool true) ∧ Below w.heap.size w w' := by
  go_enter Tryd.func7, Tryd.ntmps7
  go_wp2_with fail
  refine (ealive_any w hT).mono ?_
  rintro e w1 ⟨rfl, b1⟩
  have B1 := Lib.hid b1
  have D1 := Lib.hid b1
  clear b1
  go_wp2
  go_ret
  exact ⟨rfl, B1.out⟩

theorem walk (w : World) (hT : ClsTabs w) (A : Option Addr) (l : List Int) (c : Nat) (hc : l.length ≤ c) (hm : c ≤ maxLen) (h : Lies w w.heap.size A (ints .i64 l)) (_ : ∀ n ∈ l, (Lit.int .i64 n).wf = true) (a : Int) (ha : (Lit.int .u16 a).wf = true) (b : Bool) :
    Calls Tryd.prog 7 #[.slice A l.length c, .int .u16 a, .bool b] w fun e w' => e = .returned (.bool true) ∧ Below w.heap.size w w' := by
  unfold maxLen at hm
  have hb := bounds_u16 ha
  obtain ⟨z, rfl⟩ : ∃ z : Nat, a = z := ⟨a.toNat, by omega⟩
  by_cases hh : 300 < l.length
  · exact walk_long w hT A l c (by omega) hh _ b
  · exact walk_ok w hT A l c (by omega) hc (by omega) h z (by omega) b
-- WRAP
theorem spec : LawSpec Rows.explicitBeginsSpec 3 := ⟨rfl, fun H ds h => by
  match ds, h with
  | [d0, d1, d2], _ => rfl⟩
theorem params_ok : ∀ t ∈ Tryd.f7.params.toList, Tryd.prog.readableRec t = true ∧ t < Tryd.prog.types.size := by
  rw [Tryd.params7]
  intro t ht
  simp only [List.mem_cons, List.mem_nil_iff, or_false] at ht
  rcases ht with rfl | rfl | rfl
  all_goals exact ⟨by kernel_rfl, of_decide_eq_true (by kernel_rfl)⟩

theorem contract (H : Type) (enc : TypeId × Value → H) (W : World) (base : Nat) (args : Array Value) (ds gs : List (DataW H)) (before : List MemPlace)
    (hval : ∀ (j : Nat) t v, Tryd.f7.params[j]? = some t → args[j]? = some v → Value.okWide Tryd.prog W .any base t v)
    (hW : DataW.Whole enc Tryd.prog Tryd.f7.params.toList Rows.explicitBeginsSpec.vars false W args.toList ds gs before) (hL : laidMetH Tryd.prog laidList W) :
    Calls Tryd.prog 7 args W fun e W' => ∃ v, e = .returned v ∧ Rows.explicitBeginsSpec.post enc Tryd.prog Tryd.f7 false true false false W args v W' := by
  have hW' := hW
  obtain ⟨p, q, hA0, hV, rfl, hfz, hnd⟩ := hW
  have hA : DataW.TrodAll enc Tryd.prog W 0 (fun _ => true) true Tryd.f7.params.toList args.toList ds p := hA0
  rw [Tryd.params7] at hA hval
  obtain ⟨v0, vs0, d0, ds0, p0, q0, hargs, rfl, rfl, h0, r0⟩ := trodAll_cons hA
  obtain ⟨v1, vs1, d1, ds1, p1, q1, rfl, rfl, rfl, h1, r1⟩ := trodAll_cons r0
  obtain ⟨v2, vs2, d2, ds2, p2, q2, rfl, rfl, rfl, h2, r2⟩ := trodAll_cons r1
  obtain ⟨rfl, rfl, rfl⟩ := trodAll_nil r2
  obtain rfl : args = #[v0, v1, v2] := by cases args; simp_all
  obtain ⟨A0, l0, c0, rfl, hc0, hm0, hl0, wf0⟩ := open_list Tryd.underlying22 Tryd.underlying3 (by kernel_rfl) (hval 0 22 v0 rfl rfl) h0
  obtain ⟨a1, rfl, rfl, rfl, w1⟩ := open_int Tryd.underlying36 (hval 1 36 v1 rfl rfl) h1
  obtain ⟨a2, rfl, rfl, rfl⟩ := open_bool Tryd.underlying4 (hval 2 4 v2 rfl rfl) h2
  exact (walk W (tabs_of hL) A0 l0 c0 hc0 hm0 hl0 wf0 a1 w1 a2).mono fun e W' ⟨he, hg⟩ => ⟨_, he, law_post spec (by rw [Tryd.params7]; rfl) (by kernel_rfl) params_ok (by kernel_rfl) Tryd.underlying4 hW' hg⟩

theorem laid_met (os : Os) : laidMet Tryd.prog Rows.explicitBeginsRow.laid ((laidWorld os #[.slice none 0 0, .int .u16 0, .bool false]).forCall (fun _ _ => 0) ⟨#[], #[.slice none 0 0, .int .u16 0, .bool false], []⟩).memory :=
  laidMet_of_run' 8 (by kernel_rfl) (by kernel_rfl)
theorem reads (os : Os) {H : Type} (enc : TypeId × Value → H) : ∃ places, DataW.whole enc Tryd.prog ((laidWorld os #[.slice none 0 0, .int .u16 0, .bool false]).forCall (fun _ _ => 0) ⟨#[], #[.slice none 0 0, .int .u16 0, .bool false], []⟩).memory Tryd.f7.params.toList Rows.explicitBeginsSpec.vars false #[.slice none 0 0, .int .u16 0, .bool false].toList 8 = some ([.nil, .lit (.int .u16 0), .lit (.bool false)], [], places) :=
  ⟨[], by kernel_rfl⟩
set_option maxRecDepth 100000 in
theorem lifted (os : Os) (started : os.Started) (H : Type) (enc : TypeId × Value → H) (F : Stop.Interp) :
    ReturnsInHanded {} Tryd.checked os 7 .any ((OpenSpec.ofChange Rows.explicitBeginsSpec).preRow enc Tryd.prog Tryd.f7 Rows.explicitBeginsRow.domain false Rows.explicitBeginsRow.laid) (((OpenSpec.ofChange Rows.explicitBeginsSpec).at F).post enc Tryd.prog Tryd.f7 false true false false) := by
  obtain ⟨places, hx⟩ := reads os enc
  refine returnsInHanded_of_row (C := Tryd.checked) (s := OpenSpec.ofChange Rows.explicitBeginsSpec) own started (by kernel_rfl) Tryd.func7
    (witness_row_at (enc := enc) (C := Tryd.checked) false (laidWorld os #[.slice none 0 0, .int .u16 0, .bool false]) #[.slice none 0 0, .int .u16 0, .bool false] rfl (by kernel_rfl) (by kernel_rfl) (by kernel_rfl)
      (OpenSpec.preRow_of_cond 8 hx (by kernel_rfl) (fun k hk => by cases hk) (by kernel_rfl) (laid_met os))) ?_
  intro W base args ds gs before hval hW _ _ _ hL _ _
  exact contract H enc W base args ds gs before hval hW hL
theorem said : Rows.ExplicitBeginsSaid :=
  OpenClaim.holds_of_cond 7 Tryd.f7 rfl rfl rfl rfl rfl rfl rfl ⟨rfl, rfl, rfl, rfl, rfl⟩ rfl rfl rfl rfl rfl (by kernel_rfl) Tryd.func7 (by kernel_rfl)
    (of_decide_eq_true (by kernel_rfl)) (by unfold Func.isWrapper; first | (rw [if_pos (by decide +kernel)]; kernel_rfl) | (rw [if_neg (by decide +kernel)]; exact ⟨rfl, rfl⟩))
    (fun os started H enc _ F => by rw [OpenClaim.pre_eq_preRow]; exact lifted os started H enc F)
theorem card : Rows.ExplicitBeginsCardSaid :=
  Claim7.holds_tied_plain_at .later [] _ _ _ _ said (fun _ h => by cases h) (by kernel_rfl) (fun _ h => by cases h) explicitBegins_row_tie rfl ⟨rfl, rfl⟩ (by kernel_rfl) rfl
    (plainOf "ductus/ductuslaw06.ExplicitBegins" 7 Tryd.f7 (by kernel_rfl) Tryd.func7 (by kernel_rfl) (fun j t ht => by
      rw [Tryd.params7] at ht
      have hm := Array.mem_of_getElem? ht
      simp only [List.mem_toArray, List.mem_cons, List.mem_nil_iff, or_false] at hm
      rcases hm with rfl | rfl | rfl
      all_goals (show Tryd.prog.wantsStandIn _ = false; kernel_rfl))) (by kernel_rfl)
end Go.Proofs.YtihphfbgihbkfaaDoor.lawBegins
