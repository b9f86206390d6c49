/- TokenPlaces: tokens' places rise within the pattern, classes that begin end, ranges stand in classes and rise, what is lazy stands behind a repeat; a pattern that is wrong has no tokens, and is wrong at a place of it; of up to 300. Conditions: none. -/
import Derived.Deep.DeepCutAuto
import Derived.BigQuiet
import Derived.Test.YtpllklikjnndcaaTkV
import Derived.Test.YtpllklikjnndcaaTkP
import Derived.Test.YtpllklikjnndcaaLaw
import Derived.Test.YtpllklikjnndcaaRows
namespace Go.Proofs.Ytpllklikjnndcaa.lawPlaces
open Go.ChangeShapes Go.WideShapes Go.ChangeAt Go.RowKit

set_option maxRecDepth 20000 in
set_option maxHeartbeats 4000000 in
theorem walk_ok (w : World) (A : Option Addr) (l : List Int) (c : Nat) (hc : l.length ≤ c) (h : Lies w w.heap.size A (ints .i64 l)) (T : List Tok) (hT : ofT l = .ok T) :
    Calls Try.prog 4 #[.slice A l.length c] w fun e w' => e = .returned (.bool true) ∧ Below w.heap.size w w' := by
  have HL := Lib.hid h
  obtain ⟨hf, hl⟩ := of_fits hT
  have htl := of_length hT
  have HFI := Lib.hid hf
  have HF := Lib.hid hT
  obtain ⟨n, hn⟩ : ∃ n, T.length = n := ⟨_, rfl⟩
  have HN := Lib.hid hn
  have d1 : decide (300 < (l.length : Int)) = false := decide_eq_false (by omega)
  clear h hT hf
  go_enter Try.func4, Try.ntmps4
  go_wp2_with fail
  refine (tkalive_any w).mono ?_
  rintro e w1 ⟨rfl, b1⟩
  have B1 := Lib.hid b1
  have C2 := Lib.hid (tkof_any w1 c A l (HL.out.up b1) hc)
  rw [HF.out] at C2
  clear b1
  go_wp2_with fail
  refine C2.out.mono ?_
  rintro e w2 ⟨⟨tv, rfl, o2⟩, b2⟩
  obtain ⟨A2, c2, rfl, -, -, hcm⟩ := o2.form
  rw [hn] at o2 ⊢
  have hnm : n ≤ 1000000 := by omega
  have O2 := Lib.hid o2
  have B2 := Lib.hid (below_then B1.out b2)
  clear b2 o2 hn hcm
  go_wp2_with fail
  go_loopw [7, 6] (fun iv cv wv => ∃ k m : Nat, k ≤ n ∧ iv = .int .i64 k ∧ cv = .bool (clsAt T k) ∧ wv = w2.drewN m) (fun iv _ _ => n - (intOf iv).toNat)
  case atStart => exact ⟨0, 0, by omega, rfl, rfl, rfl⟩
  case round =>
    obtain ⟨k, m, hk, rfl, rfl, rfl⟩ := hrel
    by_cases hlt : k < n
    · obtain ⟨g, ca, hv, -, -, -, -⟩ := O2.out.block (by omega)
      injection hv with hA _ hcc
      subst hA hcc
      have hkT : k < T.length := by rw [HN.out]; exact hlt
      obtain ⟨a0, a1, a2, a3, a4⟩ := tok_cells_at O2.out HN.out.symm hkT
      have hfit := HFI.out.fit k hkT
      have HNX := Lib.hid (clsAt_next hkT)
      obtain ⟨b, hb⟩ : ∃ b, clsAt T k = b := ⟨_, rfl⟩
      rw [hb] at hfit HNX ⊢
      obtain ⟨t, ht⟩ : ∃ t, T[k] = t := ⟨_, rfl⟩
      rw [ht] at a0 a1 a2 a3 a4 hfit HNX
      obtain ⟨kd, hkd⟩ : ∃ x, t.k = x := ⟨_, rfl⟩
      obtain ⟨lo, hlo⟩ : ∃ x, t.lo = x := ⟨_, rfl⟩
      obtain ⟨hi, hhi⟩ : ∃ x, t.hi = x := ⟨_, rfl⟩
      obtain ⟨ps, hps⟩ : ∃ x, t.pos = x := ⟨_, rfl⟩
      rw [hkd] at a0
      rw [hlo] at a2
      rw [hhi] at a3
      rw [hps] at a4
      have e1 : decide (ps < 0) = false := decide_eq_false (by have := hfit.pos0; omega)
      have e2 : decide ((l.length : Int) ≤ ps) = false := decide_eq_false (by have := hfit.posn; omega)
      have e3 : decide (kd < 1) = false := decide_eq_false (by have := hfit.lo; omega)
      have e4 : decide (13 < kd) = false := decide_eq_false (by have := hfit.hi; omega)
      have k0 : (0 : Int) ≤ (k : Int) := by omega
      have k1 : (k : Int) < (n : Int) := by omega
      have HK : Hid (∀ j, k = j + 1 → ∃ q, T[j]? = some q ∧ q.pos < ps) := Lib.hid fun j hj => by
        subst hj
        have hj2 : j < T.length := by omega
        refine ⟨T[j], List.getElem?_eq_getElem hj2, ?_⟩
        rw [← hps]
        exact hfit.rises _ (by simp [List.getElem?_eq_getElem hj2])
      have HLZ : Hid (kd = 13 → ∃ j q, k = j + 1 ∧ T[j]? = some q ∧ q.k = 6) := Lib.hid fun h13 => by
        obtain ⟨q, hq, hq6⟩ := hfit.lazy (by rw [hkd]; exact h13)
        by_cases h0 : 0 < k
        · rw [if_pos h0] at hq
          exact ⟨k - 1, q, by omega, hq, hq6⟩
        · rw [if_neg h0] at hq; cases hq
      have HFT : Hid ((kd = 7 → b = false) ∧ (kd = 8 → b = true) ∧ (kd = 9 → b = true ∧ lo ≤ hi) ∧ (b = true → kd = 1 ∨ kd = 12 ∨ kd = 9 ∨ kd = 8) ∧ (kd = 6 → 0 ≤ lo ∧ lo ≤ 20 ∧ hi ≤ 20 ∧ (0 ≤ hi → lo ≤ hi))) := Lib.hid (by
        rw [← hkd, ← hlo, ← hhi]
        exact ⟨hfit.begins, hfit.ends, hfit.range, hfit.inside, hfit.again⟩)
      have HNC : Hid (clsAt T (k + 1) = if kd = 7 then true else if kd = 8 then false else b) := Lib.hid (by rw [HNX.out, nextC, hkd])
      clear hfit hkT hb ht hkd hlo hhi hps HNX
      go_upto_region 13 with fail
      go_cut [105] (fun v wx => v = .bool false ∧ ∃ q, wx = w2.drewN q)
      case first =>
        as_aux_lemma =>
          rcases k with _ | j
          · have e5 : decide ((0 : Int) < ((0 : Nat) : Int)) = false := rfl
            go_quiet (fail)
            go_wp2_with fail
            go_meet
            exact ⟨rfl, _, rfl⟩
          · obtain ⟨q, hq, hqp⟩ := HK.out j rfl
            obtain ⟨hj2, hqq⟩ := List.getElem?_eq_some_iff.1 hq
            obtain ⟨-, -, -, -, b4⟩ := tok_cells_at O2.out HN.out.symm hj2
            rw [hqq] at b4
            obtain ⟨pp, hpp⟩ : ∃ x, q.pos = x := ⟨_, rfl⟩
            rw [hpp] at b4 hqp
            have e5 : decide ((0 : Int) < ((j + 1 : Nat) : Int)) = true := decide_eq_true (by omega)
            have e6 : decide (0 < j + 1) = true := decide_eq_true (by omega)
            have e7 : decide (ps ≤ pp) = false := decide_eq_false (by omega)
            have hw1 : IntKind.i64.wrap (((j + 1 : Nat) : Int) - 1) = (j : Int) := by rw [IntWalk.i64_in _ (by omega)]; omega
            have j0 : (0 : Int) ≤ (j : Int) := by omega
            have j1 : (j : Int) < (n : Int) := by omega
            clear hq hqq hpp hqp hj2
            go_quiet (fail)
            go_wp2_with fail
            go_meet
            exact ⟨rfl, _, rfl⟩
      case rest =>
        obtain ⟨rfl, q1, rfl⟩ := hcut
        by_cases h7 : kd = 7
        · have hbf := HFT.out.1 h7
          subst hbf h7
          have HNC2 : Hid (clsAt T (k + 1) = true) := Lib.hid (by rw [HNC.out, if_pos rfl])
          go_wp2_with fail
          go_roundw
          case rel => exact ⟨k + 1, q1, by omega, by go_num, by rw [HNC2.out], rfl⟩
          case measure => simp [intOf]; omega
        · by_cases h8 : kd = 8
          · have hbt := HFT.out.2.1 h8
            subst hbt h8
            have HNC2 : Hid (clsAt T (k + 1) = false) := Lib.hid (by rw [HNC.out, if_neg (by decide), if_pos rfl])
            go_wp2_with fail
            go_roundw
            case rel => exact ⟨k + 1, q1, by omega, by go_num, by rw [HNC2.out], rfl⟩
            case measure => simp [intOf]; omega
          · have HNC2 : Hid (clsAt T (k + 1) = b) := Lib.hid (by rw [HNC.out, if_neg h7, if_neg h8])
            have g7 : (kd == 7) = false := by simpa using h7
            have g8 : (kd == 8) = false := by simpa using h8
            have H8 := Lib.hid h8
            clear h7 h8
            go_upto_region 23 with fail
            go_cut [115] (fun v wx => v = .bool false ∧ ∃ q, wx = w2.drewN q)
            case first =>
              as_aux_lemma =>
                by_cases h9 : kd = 9
                · obtain ⟨hbt, hlh⟩ := HFT.out.2.2.1 h9
                  subst hbt
                  have g9 : (kd == 9) = true := by simpa using h9
                  have g10 : decide (hi < lo) = false := decide_eq_false (by omega)
                  clear h9 hlh
                  go_quiet (fail)
                  go_wp2_with fail
                  go_meet
                  exact ⟨rfl, _, rfl⟩
                · have g9 : (kd == 9) = false := by simpa using h9
                  clear h9
                  go_quiet (fail)
                  go_wp2_with fail
                  go_meet
                  exact ⟨rfl, _, rfl⟩
            case rest =>
              obtain ⟨rfl, q2, rfl⟩ := hcut
              go_upto_region 24 with fail
              go_cut [115] (fun v wx => v = .bool false ∧ ∃ q, wx = w2.drewN q)
              case first =>
                as_aux_lemma =>
                  cases b
                  · go_wp2_with fail
                    go_meet
                    exact ⟨rfl, _, rfl⟩
                  · rcases HFT.out.2.2.2.1 rfl with h | h | h | h
                    · subst h
                      go_wp2_with fail
                      go_meet
                      exact ⟨rfl, _, rfl⟩
                    · subst h
                      go_wp2_with fail
                      go_meet
                      exact ⟨rfl, _, rfl⟩
                    · subst h
                      go_wp2_with fail
                      go_meet
                      exact ⟨rfl, _, rfl⟩
                    · exact absurd h H8.out
              case rest =>
                obtain ⟨rfl, q3, rfl⟩ := hcut
                go_upto_region 26 with fail
                go_cut [148] (fun v wx => v = .bool false ∧ ∃ q, wx = w2.drewN q)
                case first =>
                  as_aux_lemma =>
                    by_cases h13 : kd = 13
                    · obtain ⟨j, q, rfl, hq, hq6⟩ := HLZ.out h13
                      obtain ⟨hj2, hqq⟩ := List.getElem?_eq_some_iff.1 hq
                      obtain ⟨b0, -, -, -, -⟩ := tok_cells_at O2.out HN.out.symm hj2
                      rw [hqq, hq6] at b0
                      have g13 : (kd == 13) = true := by simpa using h13
                      have g14 : (((j + 1 : Nat) : Int) == 0) = false := beq_eq_false_iff_ne.2 (by omega)
                      have hw1 : IntKind.i64.wrap (((j + 1 : Nat) : Int) - 1) = (j : Int) := by rw [IntWalk.i64_in _ (by omega)]; omega
                      have j0 : (0 : Int) ≤ (j : Int) := by omega
                      have j1 : (j : Int) < (n : Int) := by omega
                      clear hq hqq hq6 hj2 h13
                      go_wp2_with fail
                      go_meet
                      exact ⟨rfl, _, rfl⟩
                    · have g13 : (kd == 13) = false := by simpa using h13
                      clear h13
                      go_wp2_with fail
                      go_meet
                      exact ⟨rfl, _, rfl⟩
                case rest =>
                  obtain ⟨rfl, q4, rfl⟩ := hcut
                  go_upto_region 27 with fail
                  go_cut [148] (fun v wx => v = .bool false ∧ ∃ q, wx = w2.drewN q)
                  case first =>
                    as_aux_lemma =>
                      by_cases h6 : kd = 6
                      · obtain ⟨f1, f2, f3, f4⟩ := HFT.out.2.2.2.2 h6
                        have g6 : (kd == 6) = true := by simpa using h6
                        have u1 : decide (lo < 0) = false := decide_eq_false (by omega)
                        have u2 : decide (20 < lo) = false := decide_eq_false (by omega)
                        have u3 : decide (20 < hi) = false := decide_eq_false (by omega)
                        rcases u4 : decide (0 ≤ hi) with _ | _
                        · clear f1 f2 f3 f4 h6
                          go_quiet (fail)
                          go_wp2_with fail
                          go_meet
                          exact ⟨rfl, _, rfl⟩
                        · have u5 : decide (hi < lo) = false := decide_eq_false (by have := f4 (of_decide_eq_true u4); omega)
                          clear f1 f2 f3 f4 h6
                          go_quiet (fail)
                          go_wp2_with fail
                          go_meet
                          exact ⟨rfl, _, rfl⟩
                      · have g6 : (kd == 6) = false := by simpa using h6
                        clear h6
                        go_quiet (fail)
                        go_wp2_with fail
                        go_meet
                        exact ⟨rfl, _, rfl⟩
                  case rest =>
                    obtain ⟨rfl, q5, rfl⟩ := hcut
                    go_wp2_with fail
                    go_roundw
                    case rel => exact ⟨k + 1, q5, by omega, by go_num, by rw [HNC2.out], rfl⟩
                    case measure => simp [intOf]; omega
    · obtain rfl : k = n := by omega
      have hcf : clsAt T k = false := by have := HFI.out.cls; rw [HN.out] at this; exact this
      rw [hcf]
      go_wp2_with fail
      go_ret
      exact ⟨rfl, below_drawn B2.out _⟩

set_option maxRecDepth 20000 in
set_option maxHeartbeats 4000000 in
theorem walk_err (w : World) (A : Option Addr) (l : List Int) (c : Nat) (hc : l.length ≤ c) (h : Lies w w.heap.size A (ints .i64 l)) (hl : l.length ≤ 300) (m : Nat) (x : Int) (hT : ofT l = .error (m, x)) :
    Calls Try.prog 4 #[.slice A l.length c] w fun e w' => e = .returned (.bool true) ∧ Below w.heap.size w w' := by
  have HL := Lib.hid h
  obtain ⟨hm, h4, h0, h10⟩ := of_bad hT
  have HF := Lib.hid hT
  have d1 : decide (300 < (l.length : Int)) = false := decide_eq_false (by omega)
  have x0 : (x != 0) = true := by simpa using h0
  have m0 : decide ((0 : Int) ≤ (m : Int)) = true := decide_eq_true (by omega)
  have m1 : decide ((m : Int) ≤ (l.length : Int)) = true := decide_eq_true (by omega)
  have HX : Hid ((x = 4 ∧ m = l.length ∧ l.length ≤ 200) ∨ (¬ x = 4 ∧ x = 10 ∧ 200 < l.length) ∨ (¬ x = 4 ∧ ¬ x = 10 ∧ l.length ≤ 200)) := Lib.hid (by
    by_cases e4 : x = 4
    · exact .inl ⟨e4, h4 e4, by omega⟩
    · by_cases e10 : x = 10
      · exact .inr (.inl ⟨e4, e10, h10.2 e10⟩)
      · exact .inr (.inr ⟨e4, e10, by have := fun hh => e10 (h10.1 hh); omega⟩))
  clear h hT h4 h0 h10
  go_enter Try.func4, Try.ntmps4
  go_wp2_with fail
  refine (tkalive_any w).mono ?_
  rintro e w1 ⟨rfl, b1⟩
  have B1 := Lib.hid b1
  have C2 := Lib.hid (tkof_any w1 c A l (HL.out.up b1) hc)
  rw [HF.out] at C2
  clear b1
  go_wp2_with fail
  refine C2.out.mono ?_
  rintro e w2 ⟨rfl, b2⟩
  have B2 := Lib.hid (below_then B1.out b2)
  clear b2
  rcases HX.out with ⟨e4, em, e200⟩ | ⟨e4, e10, e200⟩ | ⟨e4, e10, e200⟩
  · subst e4 em
    have g200 : decide (200 < (l.length : Int)) = false := decide_eq_false (by omega)
    clear e200
    go_wp2_with fail
    go_ret
    exact ⟨rfl, B2.out⟩
  · have g4 : (x != 4) = true := by simpa using e4
    have g10 : (x == 10) = true := by simpa using e10
    have g200 : decide (200 < (l.length : Int)) = true := decide_eq_true (by omega)
    clear e4 e10 e200
    go_wp2_with fail
    go_ret
    exact ⟨rfl, B2.out⟩
  · have g4 : (x != 4) = true := by simpa using e4
    have g10 : (x == 10) = false := by simpa using e10
    have g200 : decide (200 < (l.length : Int)) = false := decide_eq_false (by omega)
    clear e4 e10 e200
    go_wp2_with fail
    go_ret
    exact ⟨rfl, B2.out⟩
set_option maxRecDepth 20000 in
set_option maxHeartbeats 1000000 in
theorem walk_long (w : World) (A : Option Addr) (l : List Int) (c : Nat) (hl : 300 < l.length) :
    Calls Try.prog 4 #[.slice A l.length c] w fun e w' => e = .returned (.bool true) ∧ Below w.heap.size w w' := by
  have d1 : decide (300 < (l.length : Int)) = true := decide_eq_true (by omega)
  clear hl
  go_enter Try.func4, Try.ntmps4
  go_wp2_with fail
  refine (tkalive_any w).mono ?_
  rintro e w1 ⟨rfl, b1⟩
  have B1 := Lib.hid b1
  clear b1
  go_wp2_with fail
  go_ret
  exact ⟨rfl, B1.out⟩
theorem walk (w : World) (A : Option Addr) (l : List Int) (c : Nat) (hc : l.length ≤ c) (_ : c ≤ maxLen) (h : Lies w w.heap.size A (ints .i64 l)) (_ : ∀ n ∈ l, (Lit.int .i64 n).wf = true) :
    Calls Try.prog 4 #[.slice A l.length c] w fun e w' => e = .returned (.bool true) ∧ Below w.heap.size w w' := by
  by_cases hh : 300 < l.length
  · exact walk_long w A l c hh
  · rcases hT : ofT l with ⟨m, x⟩ | T
    · exact walk_err w A l c hc h (by omega) m x hT
    · exact walk_ok w A l c hc h T hT
-- WRAP
theorem spec : LawSpec Rows.tokenPlacesSpec 1 := ⟨rfl, fun H ds h => by
  match ds, h with
  | [d0], _ => rfl⟩
theorem params_ok : ∀ t ∈ Try.f4.params.toList, Try.prog.readableRec t = true ∧ t < Try.prog.types.size := by
  rw [Try.params4]
  intro t ht
  simp only [List.mem_cons, List.mem_nil_iff, or_false] at ht
  rcases ht with rfl
  all_goals exact ⟨by kernel_rfl, of_decide_eq_true (by kernel_rfl)⟩

set_option maxRecDepth 100000 in
theorem contract (H : Type) (enc : TypeId × Value → H) (W : World) (base : Nat) (args : Array Value) (ds gs : List (DataW H)) (before : List MemPlace)
    (hval : ∀ (j : Nat) t v, Try.f4.params[j]? = some t → args[j]? = some v → Value.okWide Try.prog W .any base t v)
    (hW : DataW.Whole enc Try.prog Try.f4.params.toList Rows.tokenPlacesSpec.vars false W args.toList ds gs before) :
    Calls Try.prog 4 args W fun e W' => ∃ v, e = .returned v ∧ Rows.tokenPlacesSpec.post enc Try.prog Try.f4 false true false false W args v W' := by
  have hW' := hW
  obtain ⟨p, q, hA0, hV, rfl, hfz, hnd⟩ := hW
  have hA : DataW.TrodAll enc Try.prog W 0 (fun _ => true) true Try.f4.params.toList args.toList ds p := hA0
  rw [Try.params4] at hA hval
  obtain ⟨v0, vs0, d0, ds0, p0, q0, hargs, rfl, rfl, h0, r0⟩ := trodAll_cons hA
  obtain ⟨rfl, rfl, rfl⟩ := trodAll_nil r0
  obtain rfl : args = #[v0] := by cases args; simp_all
  obtain ⟨A0, l0, c0, rfl, hc0, hm0, hl0, wf0⟩ := open_list Try.underlying22 Try.underlying3 (by kernel_rfl) (hval 0 22 v0 rfl rfl) h0
  exact (walk W A0 l0 c0 hc0 hm0 hl0 wf0).mono fun e W' ⟨he, hg⟩ => ⟨_, he, law_post spec (by rw [Try.params4]; rfl) (by kernel_rfl) params_ok (by kernel_rfl) Try.underlying4 hW' hg⟩

theorem own : ownKnob Try.prog.godebug = none := by kernel_rfl
set_option maxRecDepth 100000 in
theorem lifted (os : Os) (started : os.Started) (H : Type) (enc : TypeId × Value → H) :
    ReturnsInHanded {} Try.checked os 4 .any (Rows.tokenPlacesSpec.pre6 enc Try.prog Try.f4 Rows.tokenPlacesRow.domain false) (Rows.tokenPlacesSpec.post enc Try.prog Try.f4 false true false false) := by
  refine returnsInHanded_of_change (C := Try.checked) own started (by kernel_rfl) Try.func4
    (ChangeSpec.witness6 (enc := enc) (C := Try.checked) false ⟨#[], #[.slice none 0 0], []⟩ 8 (by kernel_rfl) (by kernel_rfl) (by kernel_rfl) (by kernel_rfl)) ?_
  intro W base args ds gs before hval hW _ _
  exact contract H enc W base args ds gs before hval hW
set_option maxRecDepth 100000 in
theorem said : Rows.TokenPlacesSaid :=
  OpenClaim.holds_of_wide 4 Try.f4 rfl rfl rfl rfl rfl rfl rfl ⟨rfl, rfl, rfl, rfl, rfl⟩ rfl rfl rfl rfl rfl (by kernel_rfl) Try.func4 (by kernel_rfl)
    (of_decide_eq_true (by kernel_rfl)) (by unfold Func.isWrapper; first | (rw [if_pos (by decide +kernel)]; kernel_rfl) | (rw [if_neg (by decide +kernel)]; exact ⟨rfl, rfl⟩))
    (fun os started H enc _ => lifted os started H enc)
end Go.Proofs.Ytpllklikjnndcaa.lawPlaces
