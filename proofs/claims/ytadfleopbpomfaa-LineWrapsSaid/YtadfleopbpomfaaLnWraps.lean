/- LineWraps: for every three numbers, lines of one length are of it, but the last one, which isn't longer, and a longer length has no more of them. Conditions: none. -/
import Derived.Test.YtadfleopbpomfaaLnV
import Derived.Test.YtadfleopbpomfaaLnX
import Derived.Test.YtadfleopbpomfaaLaw
import Derived.Test.YtadfleopbpomfaaSame
import Derived.Test.YtadfleopbpomfaaHeld
import Derived.Test.YtadfleopbpomfaaRows
import Derived.BigQuiet
namespace Go.Proofs.Ytadfleopbpomfaa.lawWraps
open Go.ChangeShapes Go.WideShapes Go.ChangeAt Go.RowKit

set_option maxRecDepth 100000 in
set_option maxHeartbeats 8000000 in
theorem walk_ok (w : World) (n wd more : Int) (hn0 : 0 ≤ n) (hn1 : n < 65536) (hw0 : 0 ≤ wd) (hw1 : wd < 65536) (hm0 : 0 ≤ more) (hm1 : more < 65536) :
    Calls Try.prog 7 #[.int .u16 n, .int .u16 wd, .int .u16 more] w fun e w' => e = .returned (.bool true) ∧ Below w.heap.size w w' := by
  obtain ⟨kn, hkn⟩ : ∃ kn : Nat, Int.tmod n 4000 = (kn : Int) := ⟨(n % 4000).toNat, by rw [Int.tmod_eq_emod_of_nonneg hn0]; omega⟩
  obtain ⟨wn, hwn⟩ : ∃ wn : Nat, Int.tmod wd 4000 = (wn : Int) := ⟨(wd % 4000).toNat, by rw [Int.tmod_eq_emod_of_nonneg hw0]; omega⟩
  have hk4 : kn < 4000 := by have h := hkn; rw [Int.tmod_eq_emod_of_nonneg hn0] at h; omega
  have hw4 : wn < 4000 := by have h := hwn; rw [Int.tmod_eq_emod_of_nonneg hw0] at h; omega
  obtain ⟨K, hK⟩ : ∃ K : Nat, K = 1 + kn := ⟨_, rfl⟩
  obtain ⟨V, hV⟩ : ∃ V : Nat, V = 1 + wn := ⟨_, rfl⟩
  obtain ⟨mo, rfl⟩ : ∃ mo : Nat, more = mo := ⟨more.toNat, by omega⟩
  have hKi : 1 + (kn : Int) = (K : Int) := by omega
  have hVi : 1 + (wn : Int) = (V : Int) := by omega
  have K1 : 1 ≤ K := by omega
  have K4 : K ≤ 4000 := by omega
  have V1 : 1 ≤ V := by omega
  have V4 : V ≤ 4000 := by omega
  have HKV := Lib.hid (And.intro (And.intro K1 K4) (And.intro V1 V4))
  clear hK hV
  go_enter Try.func7, Try.ntmps7
  go_wp2_with fail
  refine (lnalive_any w).mono ?_
  rintro e w1 ⟨rfl, b1⟩
  have B1 := Lib.hid b1
  clear b1
  go_wp2_with fail
  obtain ⟨l, hl⟩ : ∃ l, wrapI (K : Int) (V : Int) = l := ⟨_, rfl⟩
  obtain ⟨M, hM⟩ : ∃ M, (K - 1) / V + 1 = M := ⟨_, rfl⟩
  have HLL : Hid (l.length = M) := Lib.hid (by rw [← hl, ← hM]; exact wrap_len K V K1 K4 V1)
  have HRI : Hid (rightI l (K : Int) = true) := Lib.hid (by rw [← hl]; exact wrap_right K V K1 K4 V1)
  have HLI : Hid (∀ i, i < M → ∃ a x : Nat, beginI l i = (a : Int) ∧ l.getD i 0 = (x : Int) ∧ a ≤ x ∧ x ≤ 4000 ∧ x ≤ a + V ∧ (i + 1 = M ∨ x = a + V)) := Lib.hid fun i hi => by
    obtain ⟨a, x, h1, h2, h3, h4, h5, h6⟩ := wrap_line (i := i) K1 K4 V1 (by rw [hM]; exact hi)
    rw [hl] at h1 h2
    exact ⟨a, x, h1, h2, h3, h4, h5, by omega⟩
  have HCT : Int.tdiv ((K : Int) + (V : Int) - 1) (V : Int) = (M : Int) := by rw [← hM]; exact wrap_count K1 V1
  have hM4 : M ≤ 4000 := by have : (K - 1) / V ≤ K - 1 := Nat.div_le_self _ _; omega
  have hM0 : 0 < M := hM ▸ Nat.succ_pos _
  have HMM := Lib.hid hM
  have HL := Lib.hid hl
  refine (nwrap13_any (K : Int) (V : Int) w1).mono ?_
  rintro e w2 ⟨v2, rfl, o2, b2⟩
  rw [hl] at o2
  obtain ⟨A2, c2, rfl, l2, -, -⟩ := o2.form
  rw [ints, List.length_map, HLL.out]
  have B2 := Lib.hid (below_then B1.out b2)
  have L2 := Lib.hid l2
  have HLN := nlines13_any A2 l c2 (K : Int) w2 l2 (by rw [HLL.out]; omega)
  rw [linesE, linesR, HRI.out, if_pos rfl, if_pos rfl, HLL.out] at HLN
  have HLN' := Lib.hid HLN
  clear o2 b2 l2 hl hM HLN
  go_wp2_with fail
  refine HLN'.out.mono ?_
  rintro e w3 ⟨v3, rfl, o3, b3⟩
  obtain ⟨A3, c3, rfl, l3, -, -⟩ := o3.form
  rw [linesI_length, HLL.out]
  have B3 := Lib.hid (below_then B2.out b3)
  have L2b := Lib.hid (L2.out.up b3)
  have L3 := Lib.hid l3
  clear o3 b3 l3
  obtain ⟨S, hS⟩ : ∃ S, V + mo = S := ⟨_, rfl⟩
  have hVm : (V : Int) + (mo : Int) = (S : Int) := by omega
  have HS := Lib.hid hS
  clear hS
  go_wp2_with fail
  have HWL := wrap_len K S K1 K4 (by have := HS.out; omega)
  obtain ⟨M', hM'⟩ : ∃ M', (K - 1) / S + 1 = M' := ⟨_, rfl⟩
  have hMM : M' ≤ M := by rw [← hM', ← HMM.out]; exact Nat.succ_le_succ (Nat.div_le_div_left (by have := HS.out; omega) V1)
  rw [hM'] at HWL
  refine (nwrap13_any (K : Int) (S : Int) w3).mono ?_
  rintro e w4 ⟨v4, rfl, o4, b4⟩
  obtain ⟨A4, c4, rfl, l4, -, -⟩ := o4.form
  rw [ints, List.length_map, HWL]
  have B4 := Lib.hid (below_then B3.out b4)
  have L2c := Lib.hid (L2b.out.up b4)
  have L3b := Lib.hid (L3.out.up b4)
  clear o4 b4 l4 HWL hM'
  have hv0 : ((V : Int) == 0) = false := by simp; omega
  have hv2 : ¬ ((V : Int) = 0) := by omega
  obtain ⟨T, hT⟩ : ∃ T, K + V = T := ⟨_, rfl⟩
  obtain ⟨U, hU⟩ : ∃ U, T - 1 = U := ⟨_, rfl⟩
  have hT1 : (K : Int) + (V : Int) = (T : Int) := by omega
  have hU1 : (T : Int) - 1 = (U : Int) := by omega
  have hT4 : T ≤ 8000 := by omega
  have hU4 : U ≤ 8000 := by omega
  rw [hT1, hU1] at HCT
  have HC2 : U / V = M := by rw [Int.tdiv_eq_ediv_of_nonneg (by omega), ← Int.natCast_ediv] at HCT; omega
  have HC3 : IntKind.i64.wrap (Int.tdiv (U : Int) (V : Int)) = (M : Int) := by rw [HCT]; exact IntWalk.i64_in _ (by omega)
  clear HC2
  clear hKi hVi hkn hwn hVm hT hU
  clear hn0 hn1 hw0 hw1 hm0 hm1 hk4 hw4
  have hdm : decide (M < M') = false := by simp; omega
  go_wp2_with fail
  clear hdm HC3 hT1 hU1 hT4 hU4 hMM hv0 hv2
  go_loopw [13] (fun kv wr => ∃ k : Nat, k ≤ M ∧ kv = .int .i64 k ∧ Hid (Below w4.heap.size w4 wr)) (fun kv _ => M - (intOf kv).toNat)
  case atStart => exact ⟨0, by omega, rfl, Lib.hid (Below.refl _ _)⟩
  case round =>
    obtain ⟨k, hk, rfl, HB⟩ := hrel
    by_cases hlt : k < M
    · obtain ⟨a, x, ha, hx, hax, hx4, hxv, hor⟩ := HLI.out k hlt
      have hkl : k < (linesI l).length := by rw [linesI_length, HLL.out]; exact hlt
      obtain ⟨g, off, hA, hg, p0, p1⟩ := prC_at (j := k) (Lies.up L3b.out HB.out) hkl
      subst hA
      have e0 : (linesI l)[k] = ((a : Int), (x : Int)) := by
        simp only [linesI, List.getElem_map, List.getElem_range]
        rw [ha, hx]
      rw [e0] at p0 p1
      obtain ⟨d, hd⟩ : ∃ d, x - a = d := ⟨_, rfl⟩
      have hxa : (x : Int) - (a : Int) = (d : Int) := by omega
      have hdv : d ≤ V := by omega
      have hd4 : d ≤ 4000 := by omega
      have HOR : Hid (k + 1 = M ∨ d = V) := Lib.hid (by omega)
      have k0 : (0 : Int) ≤ (k : Int) := by omega
      have k1 : (k : Int) < (M : Int) := by omega
      have HK := Lib.hid hlt
      have d2 : decide ((d : Int) > (V : Int)) = false := by simp; omega
      clear ha hx hor hg e0 hkl hxv hax hx4 hd
      rcases h1 : ((d : Int) != (V : Int)) with _ | _
      · go_wp2_with fail
        go_quiet (fail)
        go_wp2
        go_roundw
        case rel =>
          have hk' := HK.out
          exact ⟨k + 1, by omega, by go_num, Lib.hid (below_drawn HB.out _)⟩
        case measure =>
          have hk' := HK.out
          simp [intOf]
          omega
      · have d3 : decide ((k : Int) < (M : Int) - 1) = false := by have := HOR.out; simp at h1 ⊢; omega
        go_wp2_with fail
        go_quiet (fail)
        go_wp2
        go_roundw
        case rel =>
          have hk' := HK.out
          exact ⟨k + 1, by omega, by go_num, Lib.hid (below_drawn HB.out _)⟩
        case measure =>
          have hk' := HK.out
          simp [intOf]
          omega
    · obtain rfl : k = M := by omega
      have BR := Lib.hid (below_then B4.out HB.out)
      have L2d := Lib.hid (L2c.out.up HB.out)
      have HNR := nright13_any A2 l c2 (K : Int) wr L2d.out (by rw [HLL.out]; omega)
      rw [HLL.out, HRI.out] at HNR
      have HNR' := Lib.hid HNR
      clear HNR
      go_wp2_with fail
      refine HNR'.out.mono ?_
      rintro e w5 ⟨rfl, b5⟩
      have B5 := Lib.hid (below_then BR.out b5)
      clear b5
      go_wp2_with fail
      have h00 : wrapI 0 (V : Int) = [] := by rw [wrapI, if_pos (.inl (by omega))]
      refine (nwrap13_any 0 (V : Int) w5).mono ?_
      rintro e w6 ⟨v6, rfl, o6, b6⟩
      rw [h00] at o6
      obtain ⟨A6, c6, rfl, l6, -, -⟩ := o6.form
      have B6 := Lib.hid (below_then B5.out b6)
      clear o6 b6 l6
      go_wp2
      go_ret
      exact ⟨rfl, B6.out⟩
theorem walk (w : World) (n : Int) (hn : (Lit.int .u16 n).wf = true) (wd : Int) (hw : (Lit.int .u16 wd).wf = true) (more : Int) (hm : (Lit.int .u16 more).wf = true) :
    Calls Try.prog 7 #[.int .u16 n, .int .u16 wd, .int .u16 more] w fun e w' => e = .returned (.bool true) ∧ Below w.heap.size w w' := by
  have h1 := bounds_u16 hn
  have h2 := bounds_u16 hw
  have h3 := bounds_u16 hm
  exact walk_ok w n wd more (by omega) (by omega) (by omega) (by omega) (by omega) (by omega)
-- WRAP
theorem spec : LawSpec Rows.lineWrapsSpec 3 := ⟨rfl, fun H ds h => by
  match ds, h with
  | [d0, d1, d2], _ => rfl⟩
theorem params_ok : ∀ t ∈ Try.f7.params.toList, Try.prog.readableRec t = true ∧ t < Try.prog.types.size := by
  rw [Try.params7]
  intro t ht
  simp only [List.mem_cons, List.mem_nil_iff, or_false] at ht
  rcases ht with rfl | rfl | rfl
  all_goals exact ⟨by kernel_rfl, of_decide_eq_true (by kernel_rfl)⟩

set_option maxRecDepth 100000 in
theorem contract (H : Type) (enc : TypeId × Value → H) (W : World) (base : Nat) (args : Array Value) (ds gs : List (DataW H)) (before : List MemPlace)
    (hval : ∀ (j : Nat) t v, Try.f7.params[j]? = some t → args[j]? = some v → Value.okWide Try.prog W .any base t v)
    (hW : DataW.Whole enc Try.prog Try.f7.params.toList Rows.lineWrapsSpec.vars false W args.toList ds gs before) :
    Calls Try.prog 7 args W fun e W' => ∃ v, e = .returned v ∧ Rows.lineWrapsSpec.post enc Try.prog Try.f7 false true false false W args v W' := by
  have hW' := hW
  obtain ⟨p, q, hA0, hV, rfl, hfz, hnd⟩ := hW
  have hA : DataW.TrodAll enc Try.prog W 0 (fun _ => true) true Try.f7.params.toList args.toList ds p := hA0
  rw [Try.params7] at hA hval
  obtain ⟨v0, vs0, d0, ds0, p0, q0, hargs, rfl, rfl, h0, r0⟩ := trodAll_cons hA
  obtain ⟨v1, vs1, d1, ds1, p1, q1, rfl, rfl, rfl, h1, r1⟩ := trodAll_cons r0
  obtain ⟨v2, vs2, d2, ds2, p2, q2, rfl, rfl, rfl, h2, r2⟩ := trodAll_cons r1
  obtain ⟨rfl, rfl, rfl⟩ := trodAll_nil r2
  obtain rfl : args = #[v0, v1, v2] := by cases args; simp_all
  obtain ⟨a0, rfl, rfl, rfl, w0⟩ := open_int Try.underlying38 (hval 0 38 v0 rfl rfl) h0
  obtain ⟨a1, rfl, rfl, rfl, w1⟩ := open_int Try.underlying38 (hval 1 38 v1 rfl rfl) h1
  obtain ⟨a2, rfl, rfl, rfl, w2⟩ := open_int Try.underlying38 (hval 2 38 v2 rfl rfl) h2
  exact (walk W a0 w0 a1 w1 a2 w2).mono fun e W' ⟨he, hg⟩ => ⟨_, he, law_post spec (by rw [Try.params7]; rfl) (by kernel_rfl) params_ok (by kernel_rfl) Try.underlying4 hW' hg⟩

theorem own : ownKnob Try.prog.godebug = none := by kernel_rfl
set_option maxRecDepth 100000 in
theorem lifted (os : Os) (started : os.Started) (H : Type) (enc : TypeId × Value → H) :
    ReturnsInHanded {} Try.checked os 7 .any (Rows.lineWrapsSpec.pre6 enc Try.prog Try.f7 Rows.lineWrapsRow.domain false) (Rows.lineWrapsSpec.post enc Try.prog Try.f7 false true false false) := by
  refine returnsInHanded_of_change (C := Try.checked) own started (by kernel_rfl) Try.func7
    (ChangeSpec.witness6 (enc := enc) (C := Try.checked) false ⟨#[], #[.int .u16 0, .int .u16 0, .int .u16 0], []⟩ 8 (by kernel_rfl) (by kernel_rfl) (by kernel_rfl) (by kernel_rfl)) ?_
  intro W base args ds gs before hval hW _ _
  exact contract H enc W base args ds gs before hval hW
set_option maxRecDepth 100000 in
theorem said : Rows.LineWrapsSaid :=
  OpenClaim.holds_of_wide 7 Try.f7 rfl rfl rfl rfl rfl rfl rfl ⟨rfl, rfl, rfl, rfl, rfl⟩ rfl rfl rfl rfl rfl (by kernel_rfl) Try.func7 (by kernel_rfl)
    (of_decide_eq_true (by kernel_rfl)) (by unfold Func.isWrapper; first | (rw [if_pos (by decide +kernel)]; kernel_rfl) | (rw [if_neg (by decide +kernel)]; exact ⟨rfl, rfl⟩))
    (fun os started H enc _ => lifted os started H enc)
end Go.Proofs.Ytadfleopbpomfaa.lawWraps
