/- StripRanks: for every list of numbers and every place of sixteen bits, as many are kept ahead of a place as its beginning keeps; one place on it is one more at most. Conditions: none. -/
import Derived.Test.YtdblpcfbhhgfdaaStF
import Derived.Test.YtdblpcfbhhgfdaaLaw
import Derived.Test.YtdblpcfbhhgfdaaRows
import Derived.Test.YtdblpcfbhhgfdaaSlc
namespace Go.Proofs.Ytdblpcfbhhgfdaa.lawRanks
open Go.ChangeShapes Go.WideShapes Go.ChangeAt Go.RowKit

set_option maxRecDepth 20000 in
set_option maxHeartbeats 4000000 in
theorem walk_ok (w : World) (A : Option Addr) (l : List Int) (c : Nat) (hl : l.length ≤ 1000) (hc : l.length ≤ c) (h : Lies w w.heap.size A (ints .i64 l)) (z : Nat) (hz : z ≤ 65535) :
    Calls Try.prog 5 #[.slice A l.length c, .int .u16 (z : Int)] w fun e w' => e = .returned (.bool true) ∧ Below w.heap.size w w' := by
  have hl' : l.length ≤ 1000000 := by omega
  have H := Lib.hid h
  obtain ⟨k, hk⟩ : ∃ k, z % (l.length + 1) = k := ⟨_, rfl⟩
  have hkl : k ≤ l.length := by have := Nat.mod_lt z (show 0 < l.length + 1 by omega); omega
  have hw0 : IntKind.i64.wrap (z : Int) = (z : Int) := IntWalk.i64_in _ (by omega)
  have hw1 : IntKind.i64.wrap ((l.length : Int) + 1) = (l.length : Int) + 1 := IntWalk.i64_in _ (by omega)
  have hw2 : IntKind.i64.wrap ((k : Int) + 1) = ((k + 1 : Nat) : Int) := by rw [IntWalk.i64_in _ (by omega)]; rfl
  have hrem : (z : Int) % ((l.length : Int) + 1) = (k : Int) := by rw [← hk]; simp
  have hnz : ¬ ((l.length : Int) + 1) = 0 := by omega
  have hnz2 : ((l.length : Int) + 1 == 0) = false := by simp; omega
  obtain ⟨f1, f2⟩ := rank_step l k
  obtain ⟨n, hn⟩ : ∃ n, rankI l (k : Int) = n := ⟨_, rfl⟩
  obtain ⟨m, hm⟩ : ∃ n, rankI l ((k + 1 : Nat) : Int) = n := ⟨_, rfl⟩
  obtain ⟨t, ht⟩ : ∃ t, l.take k = t := ⟨_, rfl⟩
  obtain ⟨ct, hct⟩ : ∃ x, charsI t = x := ⟨_, rfl⟩
  obtain ⟨kl, hkl2⟩ : ∃ x, keptI l = x := ⟨_, rfl⟩
  rw [hn, hm] at f1 f2
  have htl : t.length = k := by rw [← ht]; simp; omega
  have hnc : n = ct.length := by rw [← hn, rank_take, ht, hct]
  have hle : ct.length ≤ k := by have := chars_le l k; rw [ht, hct] at this; exact this
  have hrl : rankI l (l.length : Int) = kl.length := by rw [rank_take, List.take_length, ← kept_len, hkl2]
  have hw3 : IntKind.i64.wrap ((n : Int) + 1) = (n : Int) + 1 := IntWalk.i64_in _ (by omega)
  have g1 : ((n : Int) == (ct.length : Int)) = true := by rw [hnc]; simp
  have g1' : (n == ct.length) = true := by rw [hnc]; simp
  have g2 : decide (n ≤ m) = true := by simp; omega
  have g3 : decide (m ≤ n + 1) = true := by simp; omega
  have g3' : decide ((m : Int) ≤ (n : Int) + 1) = true := by simp; omega
  have LT := Lib.hid (ht ▸ h.short k)
  have HN := Lib.hid hn
  have HM := Lib.hid hm
  have HTL := Lib.hid htl
  have HCT := Lib.hid hct
  have HKL := Lib.hid hkl2
  have HRL := Lib.hid hrl
  have hkc : k ≤ c := by omega
  have hk6 : k ≤ 1000000 := by omega
  have b0 : (0 : Int) ≤ (k : Int) := by omega
  clear h hn hm ht hct hkl2 htl hnc hrl hk hle f1 f2
  go_enter Try.func5, Try.ntmps5
  go_wp2_with fail
  refine (salive_any w).mono ?_
  rintro e w1 ⟨rfl, b1⟩
  have B1 := Lib.hid b1
  have D1 := Lib.hid b1
  clear b1
  go_wp2_with fail
  refine (srank_any A l c k w1 hc (H.out.up B1.out) hl').mono ?_
  rintro e w2 ⟨rfl, b2⟩
  rw [HN.out]
  have B2 := Lib.hid (below_then B1.out b2)
  have D2 := Lib.hid b2
  clear b2
  go_wp2_with fail
  refine (srank_any A l c ((k + 1 : Nat) : Int) w2 hc (H.out.up B2.out) hl').mono ?_
  rintro e w3 ⟨rfl, b3⟩
  rw [HM.out]
  have B3 := Lib.hid (below_then B2.out b3)
  have D3 := Lib.hid b3
  clear b3
  go_wp2_with (first
    | (refine short_lies intsT _ _ _ .i64 k A l.length c rfl rfl rfl rfl hkc ?_)
    | fail)
  have hch := schars_any A t c w3 (LT.out.up B3.out) (by rw [HTL.out]; exact hk6)
  rw [HTL.out] at hch
  refine hch.mono ?_
  clear hch
  rintro e w4 ⟨v4, rfl, o4, b4⟩
  rw [HCT.out] at o4
  obtain ⟨A4, c4, rfl, l4, _, _⟩ := o4.form
  simp only [ints, List.length_map]
  have B4 := Lib.hid (below_then B3.out b4)
  clear o4 b4 l4
  go_wp2_with fail
  refine (srank_any A l c l.length w4 hc (H.out.up B4.out) hl').mono ?_
  rintro e w5 ⟨rfl, b5⟩
  rw [HRL.out]
  have B5 := Lib.hid (below_then B4.out b5)
  have D5 := Lib.hid b5
  clear b5
  go_wp2_with fail
  refine (skept_any A l c w5 (H.out.up B5.out) hl').mono ?_
  rintro e w6 ⟨v6, rfl, o6, b6⟩
  rw [HKL.out] at o6
  obtain ⟨A6, c6, rfl, l6, _, _⟩ := o6.form
  have B6 := Lib.hid (below_then B5.out b6)
  have L6 := Lib.hid l6
  have D6 := Lib.hid b6
  simp only [ints, List.length_map]
  clear o6 b6 l6
  go_wp2_with fail
  refine (srank_any A l c (-1) w6 hc (H.out.up B6.out) hl').mono ?_
  rintro e w7 ⟨rfl, b7⟩
  rw [rank_neg l]
  have B7 := Lib.hid (below_then B6.out b7)
  have D7 := Lib.hid b7
  clear b7
  go_wp2_with fail
  go_ret
  exact ⟨rfl, B7.out⟩

set_option maxHeartbeats 1000000 in
theorem walk_long (w : World) (A : Option Addr) (l : List Int) (c : Nat) (hl : l.length ≤ 9223372036854775807) (hh : 1000 < l.length) (i : Int) :
    Calls Try.prog 5 #[.slice A l.length c, .int .u16 i] w fun e w' => e = .returned (.bool true) ∧ Below w.heap.size w w' := by
  go_enter Try.func5, Try.ntmps5
  go_wp2_with fail
  refine (salive_any w).mono ?_
  rintro e w1 ⟨rfl, b1⟩
  have B1 := Lib.hid b1
  have D1 := Lib.hid b1
  clear b1
  go_wp2
  go_ret
  exact ⟨rfl, B1.out⟩

theorem walk (w : World) (A : Option Addr) (l : List Int) (c : Nat) (hc : l.length ≤ c) (hm : c ≤ maxLen) (h : Lies w w.heap.size A (ints .i64 l)) (_ : ∀ n ∈ l, (Lit.int .i64 n).wf = true) (i : Int) (hi : (Lit.int .u16 i).wf = true) :
    Calls Try.prog 5 #[.slice A l.length c, .int .u16 i] w fun e w' => e = .returned (.bool true) ∧ Below w.heap.size w w' := by
  unfold maxLen at hm
  have hb := bounds_u16 hi
  obtain ⟨z, rfl⟩ : ∃ z : Nat, i = z := ⟨i.toNat, by omega⟩
  by_cases hh : 1000 < l.length
  · exact walk_long w A l c (by omega) hh _
  · exact walk_ok w A l c (by omega) hc h z (by omega)
-- WRAP
theorem spec : LawSpec Rows.stripRanksSpec 2 := ⟨rfl, fun H ds h => by
  match ds, h with
  | [d0, d1], _ => rfl⟩
theorem params_ok : ∀ t ∈ Try.f5.params.toList, Try.prog.readableRec t = true ∧ t < Try.prog.types.size := by
  rw [Try.params5]
  intro t ht
  simp only [List.mem_cons, List.mem_nil_iff, or_false] at ht
  rcases ht with rfl | rfl
  all_goals exact ⟨by kernel_rfl, of_decide_eq_true (by kernel_rfl)⟩

theorem contract (H : Type) (enc : TypeId × Value → H) (W : World) (base : Nat) (args : Array Value) (ds gs : List (DataW H)) (before : List MemPlace)
    (hval : ∀ (j : Nat) t v, Try.f5.params[j]? = some t → args[j]? = some v → Value.okWide Try.prog W .any base t v)
    (hW : DataW.Whole enc Try.prog Try.f5.params.toList Rows.stripRanksSpec.vars false W args.toList ds gs before) :
    Calls Try.prog 5 args W fun e W' => ∃ v, e = .returned v ∧ Rows.stripRanksSpec.post enc Try.prog Try.f5 false true false false W args v W' := by
  have hW' := hW
  obtain ⟨p, q, hA0, hV, rfl, hfz, hnd⟩ := hW
  have hA : DataW.TrodAll enc Try.prog W 0 (fun _ => true) true Try.f5.params.toList args.toList ds p := hA0
  rw [Try.params5] at hA hval
  obtain ⟨v0, vs0, d0, ds0, p0, q0, hargs, rfl, rfl, h0, r0⟩ := trodAll_cons hA
  obtain ⟨v1, vs1, d1, ds1, p1, q1, rfl, rfl, rfl, h1, r1⟩ := trodAll_cons r0
  obtain ⟨rfl, rfl, rfl⟩ := trodAll_nil r1
  obtain rfl : args = #[v0, v1] := by cases args; simp_all
  obtain ⟨A0, l0, c0, rfl, hc0, hm0, hl0, wf0⟩ := open_list Try.underlying22 Try.underlying3 (by kernel_rfl) (hval 0 22 v0 rfl rfl) h0
  obtain ⟨a1, rfl, rfl, rfl, w1⟩ := open_int Try.underlying28 (hval 1 28 v1 rfl rfl) h1
  exact (walk W A0 l0 c0 hc0 hm0 hl0 wf0 a1 w1).mono fun e W' ⟨he, hg⟩ => ⟨_, he, law_post spec (by rw [Try.params5]; rfl) (by kernel_rfl) params_ok (by kernel_rfl) Try.underlying4 hW' hg⟩

theorem own : ownKnob Try.prog.godebug = none := by kernel_rfl
set_option maxRecDepth 100000 in
theorem lifted (os : Os) (started : os.Started) (H : Type) (enc : TypeId × Value → H) :
    ReturnsInHanded {} Try.checked os 5 .any (Rows.stripRanksSpec.pre6 enc Try.prog Try.f5 Rows.stripRanksRow.domain false) (Rows.stripRanksSpec.post enc Try.prog Try.f5 false true false false) := by
  refine returnsInHanded_of_change (C := Try.checked) own started (by kernel_rfl) Try.func5
    (ChangeSpec.witness6 (enc := enc) (C := Try.checked) false ⟨#[], #[.slice none 0 0, .int .u16 0], []⟩ 8 (by kernel_rfl) (by kernel_rfl) (by kernel_rfl) (by kernel_rfl)) ?_
  intro W base args ds gs before hval hW _ _
  exact contract H enc W base args ds gs before hval hW
theorem said : Rows.StripRanksSaid :=
  OpenClaim.holds_of_wide 5 Try.f5 rfl rfl rfl rfl rfl rfl rfl ⟨rfl, rfl, rfl, rfl, rfl⟩ rfl rfl rfl rfl rfl (by kernel_rfl) Try.func5 (by kernel_rfl)
    (of_decide_eq_true (by kernel_rfl)) (by unfold Func.isWrapper; first | (rw [if_pos (by decide +kernel)]; kernel_rfl) | (rw [if_neg (by decide +kernel)]; exact ⟨rfl, rfl⟩))
    (fun os started H enc _ => lifted os started H enc)
end Go.Proofs.Ytdblpcfbhhgfdaa.lawRanks
