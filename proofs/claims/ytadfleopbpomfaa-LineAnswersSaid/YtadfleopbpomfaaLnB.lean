/- Layer 13: the document's light, Levels. -/
import Derived.Deep.DeepCutAuto
import Derived.Test.YtadfleopbpomfaaLnA
import Derived.Test.YtadfleopbpomfaaClA
import Derived.Test.YtadfleopbpomfaaFill
import Derived.Test.YtadfleopbpomfaaSame
import Derived.Test.YtadfleopbpomfaaSlc
namespace Go.Proofs.Ytadfleopbpomfaa
open Go.RowKit

theorem rlight_any (k : Int) (w : World) : Calls Try.prog 32 #[.int .i64 k] w fun ed w' => ed = .returned (.bool (lightK k)) ∧ w = w' := by
  obtain ⟨z, hz⟩ : ∃ z, lightK k = z := ⟨_, rfl⟩
  have HZ := Lib.hid hz
  rw [hz]
  obtain ⟨p, hp⟩ : ∃ p, isOpens k = p := ⟨_, rfl⟩
  obtain ⟨o, ho⟩ : ∃ o, isOut k = o := ⟨_, rfl⟩
  have HP := Lib.hid hp
  have HO := Lib.hid ho
  clear hz hp ho
  rcases h12 : (k == 12) with _ | _
  · cases p
    · rcases h22 : (k == 22) with _ | _
      · have HF : Hid (o = z) := Lib.hid (by rw [← HZ.out, lightK, h12, HP.out, h22, HO.out]; rfl)
        go_enter Try.func32, Try.ntmps32
        go_wp2_with fail
        refine (ropens_any k w).mono ?_
        rintro e wq ⟨rfl, rfl⟩
        rw [HP.out]
        go_wp2_with fail
        refine (rout_any k w).mono ?_
        rintro e wq ⟨rfl, rfl⟩
        rw [HO.out]
        go_wp2
        go_ret
        exact ⟨ret_bool HF.out, rfl⟩
      · have HF : Hid (true = z) := Lib.hid (by rw [← HZ.out, lightK, h12, HP.out, h22]; rfl)
        go_enter Try.func32, Try.ntmps32
        go_wp2_with fail
        refine (ropens_any k w).mono ?_
        rintro e wq ⟨rfl, rfl⟩
        rw [HP.out]
        go_wp2
        go_ret
        exact ⟨ret_bool HF.out, rfl⟩
    · have HF : Hid (true = z) := Lib.hid (by rw [← HZ.out, lightK, h12, HP.out]; rfl)
      go_enter Try.func32, Try.ntmps32
      go_wp2_with fail
      refine (ropens_any k w).mono ?_
      rintro e wq ⟨rfl, rfl⟩
      rw [HP.out]
      go_wp2
      go_ret
      exact ⟨ret_bool HF.out, rfl⟩
  · have HF : Hid (true = z) := Lib.hid (by rw [← HZ.out, lightK, h12]; rfl)
    go_enter Try.func32, Try.ntmps32
    go_wp2
    go_ret
    exact ⟨ret_bool HF.out, rfl⟩

/-- how far it is let go from a place on -/
def stopL (chars : List Int) (t k : Nat) : Nat := k + (((chars.take t).drop k).takeWhile fun c => lightK (cls c)).length
theorem stopL_step {chars : List Int} {t k : Nat} (ht : t ≤ chars.length) (hk : k < t) (h : lightK (cls (chars.getD k 0)) = true) : stopL chars t k = stopL chars t (k + 1) := by
  have hkt : k < (chars.take t).length := by rw [List.length_take]; omega
  have e : (chars.take t)[k] = chars.getD k 0 := by rw [List.getElem_take, getD_at (by omega)]
  unfold stopL
  rw [List.drop_eq_getElem_cons hkt, e, List.takeWhile_cons_of_pos (p := fun c => lightK (cls c)) h, List.length_cons]
  omega
theorem stopL_at {chars : List Int} {t k : Nat} (ht : t ≤ chars.length) (h : t ≤ k ∨ lightK (cls (chars.getD k 0)) = false) : stopL chars t k = k := by
  unfold stopL
  by_cases hk : t ≤ k
  · rw [List.drop_of_length_le (by rw [List.length_take]; omega)]; rfl
  · have h' : lightK (cls (chars.getD k 0)) = false := by
      rcases h with h | h
      · omega
      · exact h
    have hkt : k < (chars.take t).length := by rw [List.length_take]; omega
    have e : (chars.take t)[k] = chars.getD k 0 := by rw [List.getElem_take, getD_at (by omega)]
    rw [List.drop_eq_getElem_cons hkt, e, List.takeWhile_cons_of_neg (p := fun c => lightK (cls c)) (by rw [h']; simp)]
    rfl
def baseAt (chars : List Int) (t k : Nat) : Bool := stopL chars t k == t || (cls (chars.getD (stopL chars t k) 0) == 11 || cls (chars.getD (stopL chars t k) 0) == 10)
/-- a line's levels -/
def lineL (chars levels : List Int) (base : Int) (f t : Nat) : List Int := (List.range (t - f)).map fun i => if baseAt chars t (f + i) then base else levels.getD (f + i) 0
theorem lineL_length (chars levels : List Int) (base : Int) (f t : Nat) : (lineL chars levels base f t).length = t - f := by simp [lineL]
theorem cut_length {levels : List Int} {f t : Nat} (ht : t ≤ levels.length) : ((levels.drop f).take (t - f)).length = t - f := by rw [List.length_take, List.length_drop]; omega
theorem lineL_at (chars levels : List Int) (base : Int) {f t i : Nat} (hi : i < t - f) : (lineL chars levels base f t).getD i 0 = if baseAt chars t (f + i) then base else levels.getD (f + i) 0 := by
  rw [getD_at (by rw [lineL_length]; exact hi)]
  simp [lineL]
theorem cut_at {levels : List Int} {f t i : Nat} (ht : t ≤ levels.length) (hi : i < t - f) : ((levels.drop f).take (t - f)).getD i 0 = levels.getD (f + i) 0 := by
  rw [getD_at (by rw [cut_length ht]; exact hi), getD_at (by omega)]
  simp

set_option maxRecDepth 20000 in
set_option maxHeartbeats 4000000 in
theorem rlevels13_ok (A : Option Addr) (chars : List Int) (c : Nat) (A' : Option Addr) (levels : List Int) (c' : Nat) (base : Int) (f t : Nat) (w : World) (h : Lies w w.heap.size A (ints .i64 chars)) (h' : Lies w w.heap.size A' (ints .i64 levels))
    (he : chars.length = levels.length) (hl : chars.length ≤ 1000) (hc : levels.length ≤ c') (hft : f ≤ t) (ht : t ≤ chars.length) :
    Calls Try.prog 19 #[.slice A chars.length c, .slice A' levels.length c', .int .i64 base, .agg #[.int .i64 (f : Int), .int .i64 (t : Int)]] w fun ed w' => Rowed w w.heap.size 3 (ints .i64 (lineL chars levels base f t)) ed w' := by
  obtain ⟨w0, hw0⟩ : ∃ u, w.alloc (.cells #[.int .i64 (f : Int), .int .i64 (t : Int)] 29) = u := ⟨_, rfl⟩
  have B0 : Hid (Below w.heap.size w w0) := Lib.hid (hw0 ▸ below_alloc w _)
  have SB : Hid (∀ u, Below w0.heap.size w0 u → u.cell? ⟨w.heap.size, 0, none⟩ = some (.int .i64 (f : Int)) ∧ u.cell? ⟨w.heap.size, 1, none⟩ = some (.int .i64 (t : Int))) := Lib.hid fun u hu => ⟨boxed (hw0 ▸ hu) rfl, boxed (hw0 ▸ hu) rfl⟩
  have HW := Lib.hid hw0
  have H := Lib.hid (h.up B0.out)
  have H' := Lib.hid (h'.up B0.out)
  have HT := Lib.hid ht
  have HE := Lib.hid he
  have hne : ((chars.length : Int) != (levels.length : Int)) = false := by simp [he]
  have d1 : decide ((f : Int) < 0) = false := by simp
  have d2 : decide ((t : Int) > (chars.length : Int)) = false := by simp; omega
  have d3 : decide ((f : Int) > (t : Int)) = false := by simp; omega
  obtain ⟨s0, s1⟩ := SB.out w0 (Below.refl _ _)
  obtain ⟨s2, s3⟩ := SB.out (w0.alloc (.cells #[] 3)) (below_alloc _ _)
  have hll : levels.length ≤ 1000 := by omega
  have htl : t ≤ levels.length := by omega
  have f0 : (0 : Int) ≤ (f : Int) := by omega
  have f1 : (f : Int) ≤ (t : Int) := by omega
  have t1 : (t : Int) ≤ (c' : Int) := by omega
  have t0 : (0 : Int) ≤ (t : Int) := by omega
  clear h h' hw0 ht he
  go_enter Try.func19, Try.ntmps19
  obtain ⟨AD, hAD⟩ : ∃ x, (if c' = f then A' else Option.map (fun x => x.add f) A') = x := ⟨_, rfl⟩
  have HD : Hid (Lies w0 w0.heap.size AD (ints .i64 ((levels.drop f).take (t - f)))) := Lib.hid (by
    refine Lies.short ?_ _
    rw [← hAD]
    by_cases hfl : f < levels.length
    · have h1 := H'.out.dropIf f c' hc
      obtain ⟨b, off, hA, _, _⟩ := H'.out.plainInts (by omega)
      rw [if_neg (by omega)] at h1 ⊢
      rw [hA] at h1 ⊢
      show Lies w0 w0.heap.size (some ((⟨b, off, none⟩ : Addr).add f)) _
      rw [add_plain]
      exact h1
    · rw [List.drop_of_length_le (by omega)]
      exact Lies.empty)
  have HCT : Hid (((levels.drop f).take (t - f)).length = t - f) := Lib.hid (cut_length htl)
  have d4 : decide (chars.length < t) = false := by have := HT.out; simp; omega
  have d5 : decide (t < f) = false := by simp; omega
  go_upto_region 3 with fail
  rw [HW.out]
  go_wp2_with (first
    | (at_builtin; refine app_src intsT w0 (w0.alloc (.cells #[] 3)) w0.heap.size w0.heap.size _ _ _ [] (ints .i64 ((levels.drop f).take (t - f))) AD (t - f) (c' - f) rfl rfl rfl rfl (by rw [ints, List.length_map, HCT.out]) (Own.ofLit #[] (Nat.le_refl _) (by decide)) (HD.out.alloc (Nat.le_refl _) _) (ints_one _ _) (below_alloc _ _) (by simp) (by unfold maxLen; rw [ints, List.length_map, HCT.out]; simp; omega) (by rw [ints, List.length_map, HCT.out]; simp; omega) ?_; intro v2 w2 o2 b2 _ _; have O2 := Lib.hid (show Own w2 w0.heap.size 3 v2 (ints .i64 ((levels.drop f).take (t - f))) by simpa using o2); have B2 := Lib.hid b2; clear o2 b2)
    | fail)
  obtain ⟨N, hN⟩ : ∃ N, t - f = N := ⟨_, rfl⟩
  have HNN := Lib.hid hN
  obtain ⟨CU, hCU⟩ : ∃ x, (levels.drop f).take (t - f) = x := ⟨_, rfl⟩
  obtain ⟨LL, hLL⟩ : ∃ x, lineL chars levels base f t = x := ⟨_, rfl⟩
  have HCL : Hid (CU.length = N) := Lib.hid (by rw [← hCU, cut_length htl, hN])
  have HLC : Hid (LL.length = CU.length) := Lib.hid (by rw [HCL.out, ← hLL, lineL_length, hN])
  have HAT : Hid (∀ i, i < N → LL.getD i 0 = if baseAt chars t (f + i) then base else CU.getD i 0) := Lib.hid fun i hi => by rw [← hLL, ← hCU, lineL_at _ _ _ (by omega), cut_at htl (by omega)]
  rw [hCU] at O2
  have HLL := Lib.hid hLL
  obtain ⟨A2, c2, hv2, -, -, -⟩ := O2.out.form
  rw [ints, List.length_map, HCL.out] at hv2
  subst hv2
  have HNf : Hid (N = t - f) := Lib.hid hN.symm
  clear hCU hLL HD HCT hAD hN s0 s1 s2 s3
  go_loopw [10] (fun iv wr => ∃ i : Nat, i ≤ N ∧ iv = .int .i64 i ∧ Hid (Own wr w0.heap.size 3 (.slice A2 N c2) (ints .i64 (mixL CU LL i))) ∧ Hid (Below w0.heap.size w0 wr)) (fun iv _ => N - (intOf iv).toNat)
  case atStart => exact ⟨0, by omega, rfl, Lib.hid (by rw [mixL_zero]; exact O2.out), B2⟩
  case round =>
    obtain ⟨i, hi, rfl, HO, HB⟩ := hrel
    by_cases hlt : i < N
    · have i1 : (i : Int) < (N : Int) := by omega
      have hfi : f + i < t := by have := HNf.out; omega
      have htc := HT.out
      obtain ⟨s4, s5⟩ := SB.out wr HB.out
      have G := Lib.hid (H.out.up HB.out)
      obtain ⟨g, c1, hv1, hR⟩ := HO.out.inRow (by rw [ints, List.length_map, mixL_all HLC.out, HCL.out]; omega)
      injection hv1 with e1 e2 e3
      clear e2
      subst e1 e3
      have HR := Lib.hid hR
      have hjl : i < (ints .i64 (mixL CU LL i)).length := by rw [ints, List.length_map, mixL_all HLC.out, HCL.out]; omega
      have HJL := Lib.hid hjl
      clear hR hjl
      have PUT : Hid (baseAt chars t (f + i) = true → ∀ w5, Row w5 w0.heap.size 3 g c2 ((ints .i64 (mixL CU LL i)).set i (.int .i64 base)) → Hid (Own w5 w0.heap.size 3 (.slice (some ⟨g, 0, none⟩) N c2) (ints .i64 (mixL CU LL (i + 1))))) := Lib.hid fun hb w5 h5 => by
        have e := mix_put HLC.out (show i < CU.length by rw [HCL.out]; exact hlt)
        rw [HAT.out i hlt, hb, if_pos rfl] at e
        rw [ints_set, e, Row, ints, List.length_map, mixL_all HLC.out, HCL.out] at h5
        exact Lib.hid h5
      go_wp2_with fail
      go_loopw [11] (fun kv wx => ∃ k : Nat, f + i ≤ k ∧ k ≤ t ∧ kv = .int .i64 k ∧ Hid (stopL chars t (f + i) = stopL chars t k) ∧ wr = wx) (fun kv _ => t - (intOf kv).toNat)
      case atStart => exact ⟨f + i, by omega, by omega, by go_num, Lib.hid rfl, rfl⟩
      case round =>
        obtain ⟨k, hk1, hk2, rfl, HST, rfl⟩ := hrel
        by_cases hkt : k < t
        · have k1 : (k : Int) < (t : Int) := by omega
          have k2 : ¬ (k : Int) = (t : Int) := by omega
          have k3 : ((k : Int) == (t : Int)) = false := by simp; omega
          have hkc : k < chars.length := by omega
          obtain ⟨p, hp, _, hc⟩ := G.out.int hkc
          subst hp
          obtain ⟨x, hx⟩ : ∃ x, chars[k] = x := ⟨_, rfl⟩
          rw [hx] at hc
          have HX : Hid (chars.getD k 0 = x) := Lib.hid (by rw [getD_at hkc, hx])
          obtain ⟨z, hz⟩ : ∃ z, lightK (cls x) = z := ⟨_, rfl⟩
          have HZ := Lib.hid hz
          clear hx
          go_wp2_with fail
          refine (rof_any x wr).mono ?_
          rintro e wq ⟨rfl, rfl⟩
          go_wp2_with fail
          refine (rlight_any (cls x) wr).mono ?_
          rintro e wq ⟨rfl, rfl⟩
          rw [hz]
          cases z
          · have HS : Hid (stopL chars t (f + i) = k) := Lib.hid (by rw [HST.out, stopL_at HT.out (Or.inr (by rw [HX.out, HZ.out]))])
            clear hz
            rcases h11 : (cls x == 11) with _ | _
            · rcases h10 : (cls x == 10) with _ | _
              · have HBA : Hid (baseAt chars t (f + i) = false) := Lib.hid (by rw [baseAt, HS.out, HX.out, h11, h10]; simp; omega)
                go_upto_region 10 with fail
                go_wp2_with fail
                refine (rof_any x wr).mono ?_
                rintro e wq ⟨rfl, rfl⟩
                go_wp2_with fail
                refine (rof_any x wr).mono ?_
                rintro e wq ⟨rfl, rfl⟩
                go_wp2_with fail
                go_roundw
                case rel => exact ⟨i + 1, by omega, by go_num, Lib.hid (by rw [← mix_stay HLC.out (by rw [HCL.out]; omega) (by rw [HAT.out i hlt, HBA.out]; rfl)]; exact HO.out), HB⟩
                case measure => simp [intOf]; omega
              · have HBA : Hid (baseAt chars t (f + i) = true) := Lib.hid (by rw [baseAt, HS.out, HX.out, h11, h10]; simp)
                go_upto_region 10 with fail
                go_wp2_with fail
                refine (rof_any x wr).mono ?_
                rintro e wq ⟨rfl, rfl⟩
                go_wp2_with fail
                refine (rof_any x wr).mono ?_
                rintro e wq ⟨rfl, rfl⟩
                go_wp2_with (first
              | (refine store_row intsT wr w0.heap.size _ _ g i _ .i64 base (ints .i64 (mixL CU LL i)) w0 rfl rfl rfl rfl rfl HR.out HJL.out HB.out ?_; intro w5 r5 b5 g5; have R5 := Lib.hid r5; have B5 := Lib.hid b5; clear r5 b5 g5)
              | fail)
                go_roundw
                case rel => exact ⟨i + 1, by omega, by go_num, PUT.out HBA.out w5 R5.out, B5⟩
                case measure => simp [intOf]; omega
            · have HBA : Hid (baseAt chars t (f + i) = true) := Lib.hid (by rw [baseAt, HS.out, HX.out, h11]; simp)
              go_upto_region 10 with fail
              go_wp2_with fail
              refine (rof_any x wr).mono ?_
              rintro e wq ⟨rfl, rfl⟩
              go_wp2_with (first
              | (refine store_row intsT wr w0.heap.size _ _ g i _ .i64 base (ints .i64 (mixL CU LL i)) w0 rfl rfl rfl rfl rfl HR.out HJL.out HB.out ?_; intro w5 r5 b5 g5; have R5 := Lib.hid r5; have B5 := Lib.hid b5; clear r5 b5 g5)
              | fail)
              go_roundw
              case rel => exact ⟨i + 1, by omega, by go_num, PUT.out HBA.out w5 R5.out, B5⟩
              case measure => simp [intOf]; omega
          · clear hz
            go_wp2_with fail
            go_roundw
            case rel => exact ⟨k + 1, by omega, by omega, by go_num, Lib.hid (by rw [HST.out, stopL_step HT.out hkt (by rw [HX.out, HZ.out])]), trivial⟩
            case measure => simp [intOf]; omega
        · obtain rfl : k = t := by omega
          have k1 : ¬ (k : Int) < (k : Int) := by omega
          have HBA : Hid (baseAt chars k (f + i) = true) := Lib.hid (by rw [baseAt, HST.out, stopL_at HT.out (Or.inl (Nat.le_refl _))]; simp)
          go_wp2_with (first
              | (refine store_row intsT wr w0.heap.size _ _ g i _ .i64 base (ints .i64 (mixL CU LL i)) w0 rfl rfl rfl rfl rfl HR.out HJL.out HB.out ?_; intro w5 r5 b5 g5; have R5 := Lib.hid r5; have B5 := Lib.hid b5; clear r5 b5 g5)
              | fail)
          go_roundw
          case rel => exact ⟨i + 1, by omega, by go_num, PUT.out HBA.out w5 R5.out, B5⟩
          case measure => simp [intOf]; omega
    · obtain rfl : i = N := by omega
      have i1 : ¬ (i : Int) < (i : Int) := by omega
      go_wp2
      go_ret
      exact ⟨_, rfl, by have := HO.out.weaken B0.out.size; rw [mixL_end HLC.out (by rw [HCL.out]; exact Nat.le_refl _), ← HLL.out] at this; exact this, below_then B0.out HB.out⟩

/-- a line's levels, at any span -/
def levelsL (chars levels : List Int) (base F T : Int) : List Int := if chars.length = levels.length ∧ 0 ≤ F ∧ F ≤ T ∧ T ≤ (chars.length : Int) then lineL chars levels base F.toNat T.toNat else []

set_option maxHeartbeats 2000000 in
theorem rlevels13_any (A : Option Addr) (chars : List Int) (c : Nat) (A' : Option Addr) (levels : List Int) (c' : Nat) (base F T : Int) (w : World) (h : Lies w w.heap.size A (ints .i64 chars)) (h' : Lies w w.heap.size A' (ints .i64 levels))
    (hl : chars.length ≤ 1000) (hc : levels.length ≤ c') :
    Calls Try.prog 19 #[.slice A chars.length c, .slice A' levels.length c', .int .i64 base, .agg #[.int .i64 F, .int .i64 T]] w fun ed w' => Rowed w w.heap.size 3 (ints .i64 (levelsL chars levels base F T)) ed w' := by
  by_cases hok : chars.length = levels.length ∧ 0 ≤ F ∧ F ≤ T ∧ T ≤ (chars.length : Int)
  · rw [levelsL, if_pos hok]
    obtain ⟨he, h0, hft, ht⟩ := hok
    obtain ⟨f, rfl⟩ : ∃ f : Nat, F = (f : Int) := ⟨F.toNat, by omega⟩
    obtain ⟨t, rfl⟩ : ∃ t : Nat, T = (t : Int) := ⟨T.toNat, by omega⟩
    exact rlevels13_ok A chars c A' levels c' base f t w h h' he hl hc (by omega) (by omega)
  · rw [levelsL, if_neg hok]
    obtain ⟨w0, hw0⟩ : ∃ u, w.alloc (.cells #[.int .i64 F, .int .i64 T] 29) = u := ⟨_, rfl⟩
    have B0 : Hid (Below w.heap.size w w0) := Lib.hid (hw0 ▸ below_alloc w _)
    have SB : Hid (∀ u, Below w0.heap.size w0 u → u.cell? ⟨w.heap.size, 0, none⟩ = some (.int .i64 F) ∧ u.cell? ⟨w.heap.size, 1, none⟩ = some (.int .i64 T)) := Lib.hid fun u hu => ⟨boxed (hw0 ▸ hu) rfl, boxed (hw0 ▸ hu) rfl⟩
    obtain ⟨s0, s1⟩ := SB.out w0 (Below.refl _ _)
    have HW := Lib.hid hw0
    have HOK := Lib.hid hok
    clear h h' hw0 hok
    have fin : Hid (Rowed w w.heap.size 3 (ints .i64 []) (.returned (.slice none 0 0)) w0) := Lib.hid ⟨_, rfl, Own.empty _ _ _, B0.out⟩
    rcases hne : ((chars.length : Int) != (levels.length : Int)) with _ | _
    · rcases d1 : decide (F < 0) with _ | _
      · rcases d2 : decide (T > (chars.length : Int)) with _ | _
        · rcases d3 : decide (F > T) with _ | _
          · exact absurd ⟨by simp at hne; omega, by simpa using d1, by simpa using d3, by simpa using d2⟩ HOK.out
          · go_enter Try.func19, Try.ntmps19
            go_upto_region 1 with fail
            rw [HW.out]
            go_wp2
            go_ret
            exact fin.out
        · go_enter Try.func19, Try.ntmps19
          go_upto_region 1 with fail
          rw [HW.out]
          go_wp2
          go_ret
          exact fin.out
      · go_enter Try.func19, Try.ntmps19
        go_upto_region 1 with fail
        rw [HW.out]
        go_wp2
        go_ret
        exact fin.out
    · go_enter Try.func19, Try.ntmps19
      go_upto_region 1 with fail
      rw [HW.out]
      go_wp2
      go_ret
      exact fin.out
end Go.Proofs.Ytadfleopbpomfaa
