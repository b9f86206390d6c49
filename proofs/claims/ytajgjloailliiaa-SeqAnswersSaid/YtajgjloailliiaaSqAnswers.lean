/- SeqAnswers: for all two lists of numbers and every base, the runs and the sequences that are told are the document's. Conditions: none. -/
import Derived.Test.YtajgjloailliiaaSqJ
import Derived.Test.YtajgjloailliiaaLaw
import Derived.Test.YtajgjloailliiaaRows
namespace Go.Proofs.Ytajgjloailliiaa.lawAnswers
open Go.ChangeShapes Go.WideShapes Go.ChangeAt Go.RowKit

set_option maxRecDepth 20000 in
set_option maxHeartbeats 4000000 in
theorem walk_ok (w : World) (A : Option Addr) (a : List Int) (c : Nat) (ha : a.length ≤ 300) (h : Lies w w.heap.size A (ints .i64 a)) (A' : Option Addr) (b : List Int) (c' : Nat) (hb : b.length ≤ 300) (h' : Lies w w.heap.size A' (ints .i64 b)) (i : Int) :
    Calls Try.prog 3 #[.slice A a.length c, .slice A' b.length c', .int .i64 i] w fun e w' => e = .returned (.bool true) ∧ Below w.heap.size w w' := by
  have ha' : a.length ≤ 1000000 := by omega
  have hb' : b.length ≤ 1000000 := by omega
  have H := Lib.hid h
  have H' := Lib.hid h'
  have HSM := Lib.hid (seqs_small300 (lv := b) (base := i) ha)
  obtain ⟨S, hS⟩ : ∃ x, seqsI a b i = x := ⟨_, rfl⟩
  obtain ⟨L, hL⟩ : ∃ x, listsI a b = x := ⟨_, rfl⟩
  rw [hS] at HSM
  have hL6 : L.length ≤ 1000000 := by have := (listsI_le a b).1; rw [hL] at this; omega
  have HS := Lib.hid hS
  have HL := Lib.hid hL
  clear h h' hS hL
  go_enter Try.func3, Try.ntmps3
  go_wp2_with fail
  refine (qalive_any w).mono ?_
  rintro e w1 ⟨rfl, b1⟩
  have B1 := Lib.hid b1
  have D1 := Lib.hid b1
  clear b1
  go_wp2_with fail
  refine (sof_any A a c A' b c' i w1 (H.out.up B1.out) (H'.out.up B1.out) ha' hb').mono ?_
  rintro e w2 ⟨A2, c2, vs2, rfl, s2, b2⟩
  rw [HS.out] at s2 ⊢
  have B2 := Lib.hid (below_then B1.out b2)
  have S2 := Lib.hid s2
  clear s2 b2
  go_wp2_with fail
  refine (rsof_any A a c A' b c' i w2 (H.out.up B2.out) (H'.out.up B2.out) ha').mono ?_
  rintro e w3 ⟨v3, vs3, rfl, s3, b3⟩
  rw [HS.out] at s3
  obtain ⟨A3, c3, rfl, r3⟩ := s3.read
  have B3 := Lib.hid (below_then B2.out b3)
  have S2b := Lib.hid (S2.out.up b3)
  have S3 := Lib.hid r3
  clear s3 r3 b3
  go_wp2_with fail
  refine (rsame8_any A2 c2 S vs2 A3 c3 S vs3 w3 S2b.out S3.out HSM.out.1 HSM.out.2 HSM.out.2).mono ?_
  rintro e w4 ⟨rfl, b4⟩
  rw [decide_eq_true (rfl : S = S)]
  have B4 := Lib.hid (below_then B3.out b4)
  have D4 := Lib.hid b4
  clear b4
  go_wp2_with fail
  refine (sruns_any A a c A' b c' w4 (H.out.up B4.out) (H'.out.up B4.out) ha' hb').mono ?_
  rintro e w5 ⟨A5, c5, rfl, p5, b5⟩
  rw [HL.out] at p5 ⊢
  have B5 := Lib.hid (below_then B4.out b5)
  have P5 := Lib.hid p5
  clear p5 b5
  go_wp2_with fail
  refine (rruns_any A a c A' b c' w5 (H.out.up B5.out) (H'.out.up B5.out) ha').mono ?_
  rintro e w6 ⟨v6, rfl, o6, b6⟩
  rw [HL.out] at o6
  obtain ⟨A6, c6, rfl, l6, _, _⟩ := o6.form
  have B6 := Lib.hid (below_then B5.out b6)
  have P5b : Hid (PairsR w6 A5 L) := Lib.hid (Lies.up P5.out b6)
  have P6 : Hid (PairsR w6 A6 L) := Lib.hid l6
  clear o6 l6 b6
  go_wp2_with fail
  refine (lsame8_any A5 c5 L A6 c6 w6 P5b.out P6.out hL6).mono ?_
  rintro e w7 ⟨rfl, b7⟩
  have B7 := Lib.hid (below_then B6.out b7)
  have D7 := Lib.hid b7
  clear b7
  go_wp2_with fail
  refine (sdir_any i w7).mono ?_
  rintro e w8 ⟨rfl, b8⟩
  have B8 := Lib.hid (below_then B7.out b8)
  have D8 := Lib.hid b8
  clear b8
  go_wp2_with fail
  refine (rdir8_any i w8).mono ?_
  rintro e wq ⟨rfl, rfl⟩
  have hss : (dirL i == dirL i) = true := by simp
  go_wp2_with fail
  go_ret
  exact ⟨rfl, B8.out⟩

set_option maxHeartbeats 1000000 in
theorem walk_long (w : World) (A : Option Addr) (a : List Int) (c : Nat) (A' : Option Addr) (b : List Int) (c' : Nat) (ha : a.length ≤ 9223372036854775807) (hb : b.length ≤ 9223372036854775807) (hh : 300 < a.length ∨ 300 < b.length) (i : Int) :
    Calls Try.prog 3 #[.slice A a.length c, .slice A' b.length c', .int .i64 i] w fun e w' => e = .returned (.bool true) ∧ Below w.heap.size w w' := by
  by_cases h1 : 300 < a.length
  · clear hh
    go_enter Try.func3, Try.ntmps3
    go_wp2_with fail
    refine (qalive_any w).mono ?_
    rintro e w1 ⟨rfl, b1⟩
    have B1 := Lib.hid b1
    have D1 := Lib.hid b1
    clear b1
    go_wp2
    go_ret
    exact ⟨rfl, B1.out⟩
  · have h2 : 300 < b.length := by omega
    clear hh
    go_enter Try.func3, Try.ntmps3
    go_wp2_with fail
    refine (qalive_any w).mono ?_
    rintro e w1 ⟨rfl, b1⟩
    have B1 := Lib.hid b1
    have D1 := Lib.hid b1
    clear b1
    go_wp2
    go_ret
    exact ⟨rfl, B1.out⟩

theorem walk (w : World) (A : Option Addr) (a : List Int) (c : Nat) (_ : a.length ≤ c) (hm : c ≤ maxLen) (h : Lies w w.heap.size A (ints .i64 a)) (_ : ∀ n ∈ a, (Lit.int .i64 n).wf = true)
    (A' : Option Addr) (b : List Int) (c' : Nat) (_ : b.length ≤ c') (hm' : c' ≤ maxLen) (h' : Lies w w.heap.size A' (ints .i64 b)) (_ : ∀ n ∈ b, (Lit.int .i64 n).wf = true) (i : Int) (_ : (Lit.int .i64 i).wf = true) :
    Calls Try.prog 3 #[.slice A a.length c, .slice A' b.length c', .int .i64 i] w fun e w' => e = .returned (.bool true) ∧ Below w.heap.size w w' := by
  unfold maxLen at hm hm'
  by_cases hh : 300 < a.length ∨ 300 < b.length
  · exact walk_long w A a c A' b c' (by omega) (by omega) hh i
  · exact walk_ok w A a c (by omega) h A' b c' (by omega) h' i
-- WRAP
theorem spec : LawSpec Rows.seqAnswersSpec 3 := ⟨rfl, fun H ds h => by
  match ds, h with
  | [d0, d1, d2], _ => rfl⟩
theorem params_ok : ∀ t ∈ Try.f3.params.toList, Try.prog.readableRec t = true ∧ t < Try.prog.types.size := by
  rw [Try.params3]
  intro t ht
  simp only [List.mem_cons, List.mem_nil_iff, or_false] at ht
  rcases ht with rfl | rfl | rfl
  all_goals exact ⟨by kernel_rfl, of_decide_eq_true (by kernel_rfl)⟩

theorem contract (H : Type) (enc : TypeId × Value → H) (W : World) (base : Nat) (args : Array Value) (ds gs : List (DataW H)) (before : List MemPlace)
    (hval : ∀ (j : Nat) t v, Try.f3.params[j]? = some t → args[j]? = some v → Value.okWide Try.prog W .any base t v)
    (hW : DataW.Whole enc Try.prog Try.f3.params.toList Rows.seqAnswersSpec.vars false W args.toList ds gs before) :
    Calls Try.prog 3 args W fun e W' => ∃ v, e = .returned v ∧ Rows.seqAnswersSpec.post enc Try.prog Try.f3 false true false false W args v W' := by
  have hW' := hW
  obtain ⟨p, q, hA0, hV, rfl, hfz, hnd⟩ := hW
  have hA : DataW.TrodAll enc Try.prog W 0 (fun _ => true) true Try.f3.params.toList args.toList ds p := hA0
  rw [Try.params3] at hA hval
  obtain ⟨v0, vs0, d0, ds0, p0, q0, hargs, rfl, rfl, h0, r0⟩ := trodAll_cons hA
  obtain ⟨v1, vs1, d1, ds1, p1, q1, rfl, rfl, rfl, h1, r1⟩ := trodAll_cons r0
  obtain ⟨v2, vs2, d2, ds2, p2, q2, rfl, rfl, rfl, h2, r2⟩ := trodAll_cons r1
  obtain ⟨rfl, rfl, rfl⟩ := trodAll_nil r2
  obtain rfl : args = #[v0, v1, v2] := by cases args; simp_all
  obtain ⟨A0, l0, c0, rfl, hc0, hm0, hl0, wf0⟩ := open_list Try.underlying22 Try.underlying3 (by kernel_rfl) (hval 0 22 v0 rfl rfl) h0
  obtain ⟨A1, l1, c1, rfl, hc1, hm1, hl1, wf1⟩ := open_list Try.underlying22 Try.underlying3 (by kernel_rfl) (hval 1 22 v1 rfl rfl) h1
  obtain ⟨a2, rfl, rfl, rfl, w2⟩ := open_int Try.underlying3 (hval 2 3 v2 rfl rfl) h2
  exact (walk W A0 l0 c0 hc0 hm0 hl0 wf0 A1 l1 c1 hc1 hm1 hl1 wf1 a2 w2).mono fun e W' ⟨he, hg⟩ => ⟨_, he, law_post spec (by rw [Try.params3]; rfl) (by kernel_rfl) params_ok (by kernel_rfl) Try.underlying4 hW' hg⟩

theorem own : ownKnob Try.prog.godebug = none := by kernel_rfl
set_option maxRecDepth 100000 in
theorem lifted (os : Os) (started : os.Started) (H : Type) (enc : TypeId × Value → H) :
    ReturnsInHanded {} Try.checked os 3 .any (Rows.seqAnswersSpec.pre6 enc Try.prog Try.f3 Rows.seqAnswersRow.domain false) (Rows.seqAnswersSpec.post enc Try.prog Try.f3 false true false false) := by
  refine returnsInHanded_of_change (C := Try.checked) own started (by kernel_rfl) Try.func3
    (ChangeSpec.witness6 (enc := enc) (C := Try.checked) false ⟨#[], #[.slice none 0 0, .slice none 0 0, .int .i64 0], []⟩ 8 (by kernel_rfl) (by kernel_rfl) (by kernel_rfl) (by kernel_rfl)) ?_
  intro W base args ds gs before hval hW _ _
  exact contract H enc W base args ds gs before hval hW
theorem said : Rows.SeqAnswersSaid :=
  OpenClaim.holds_of_wide 3 Try.f3 rfl rfl rfl rfl rfl rfl rfl ⟨rfl, rfl, rfl, rfl, rfl⟩ rfl rfl rfl rfl rfl (by kernel_rfl) Try.func3 (by kernel_rfl)
    (of_decide_eq_true (by kernel_rfl)) (by unfold Func.isWrapper; first | (rw [if_pos (by decide +kernel)]; kernel_rfl) | (rw [if_neg (by decide +kernel)]; exact ⟨rfl, rfl⟩))
    (fun os started H enc _ => lifted os started H enc)
end Go.Proofs.Ytajgjloailliiaa.lawAnswers
