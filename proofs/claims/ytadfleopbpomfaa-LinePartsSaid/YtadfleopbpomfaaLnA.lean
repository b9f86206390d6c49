/- Layer 13: the document's Right, Lines, Of, Wrap, light. -/
import Derived.Test.YtadfleopbpomfaaLnM
import Derived.Test.YtadfleopbpomfaaPC
import Derived.Test.YtadfleopbpomfaaClB
import Derived.Test.YtadfleopbpomfaaInts
namespace Go.Proofs.Ytadfleopbpomfaa
open Go.RowKit

theorem spT : SliceOfN Try.prog 24 29 (.agg #[.int .i64 0, .int .i64 0]) 2 16 := ⟨by kernel_rfl, by kernel_rfl, rfl, by decide⟩

set_option maxHeartbeats 1000000 in
theorem rright13_any (A : Option Addr) (l : List Int) (c : Nat) (n : Int) (w : World) (h : Lies w w.heap.size A (ints .i64 l)) (hl : l.length ≤ 1000000) :
    Calls Try.prog 11 #[.slice A l.length c, .int .i64 n] w fun ed w' => ed = .returned (.bool (rightI l n)) ∧ w = w' := by
  have H := Lib.hid h
  clear h
  go_enter Try.func11, Try.ntmps11
  go_wp2
  go_loopw [6, 5] (fun iv lv wr => ∃ k : Nat, k ≤ l.length ∧ iv = .int .i64 k ∧ lv = .int .i64 (lastB (l.take k) 0) ∧ Hid (risesFrom 0 (l.take k) = true) ∧ w = wr) (fun iv _ _ => l.length - (intOf iv).toNat)
  case atStart => exact ⟨0, by omega, rfl, rfl, Lib.hid rfl, rfl⟩
  case round =>
    obtain ⟨k, hk, rfl, rfl, HR, rfl⟩ := hrel
    obtain ⟨a, ha⟩ : ∃ a, lastB (l.take k) 0 = a := ⟨_, rfl⟩
    rw [ha]
    by_cases hlt : k < l.length
    · obtain ⟨p, rfl, _, hc⟩ := H.out.int hlt
      have HN := Lib.hid (rises_next l hlt)
      have HLN := Lib.hid (last_next l hlt)
      obtain ⟨x, hx⟩ : ∃ x, l[k] = x := ⟨_, rfl⟩
      rw [hx] at hc HN HLN
      rw [HR.out, ha, Bool.true_and] at HN
      have k0 : (0 : Int) ≤ (k : Int) := by omega
      have k1 : (k : Int) < (l.length : Int) := by omega
      clear hx ha
      rcases hxa : decide (x ≤ a) with _ | _
      · have HT : Hid (risesFrom 0 (l.take (k + 1)) = true) := Lib.hid (by rw [HN.out]; simp at hxa ⊢; omega)
        go_wp2
        go_roundw
        case rel => exact ⟨k + 1, by omega, by go_num, by rw [HLN.out], HT, by first | rfl | trivial⟩
        case measure => simp [intOf]; omega
      · have HF : Hid (rightI l n = false) := Lib.hid (by
          cases hr : risesFrom 0 l with
          | false => rw [rightI, hr]; rfl
          | true =>
            have := rises_take l 0 (k + 1) hr
            rw [HN.out] at this
            simp at hxa this
            omega)
        go_wp2
        go_ret
        exact ⟨ret_bool HF.out.symm, rfl⟩
    · obtain rfl : k = l.length := by omega
      rw [List.take_length] at HR ha
      have HF : Hid (rightI l n = (a == n)) := Lib.hid (by rw [rightI, HR.out, ha, Bool.true_and])
      clear ha
      go_wp2
      go_ret
      exact ⟨ret_bool HF.out.symm, rfl⟩

set_option maxHeartbeats 1000000 in
theorem rlof13_any (A : Option Addr) (l : List Int) (c : Nat) (i : Int) (w : World) (h : Lies w w.heap.size A (ints .i64 l)) (hl : l.length ≤ 1000000) :
    Calls Try.prog 14 #[.slice A l.length c, .int .i64 i] w fun ed w' => ed = .returned (.int .i64 (lineOf l i)) ∧ w = w' := by
  have H := Lib.hid h
  clear h
  rcases hi : decide (i < 0) with _ | _
  · have HI : Hid (0 ≤ i) := Lib.hid (by simpa using hi)
    go_enter Try.func14, Try.ntmps14
    go_wp2
    go_loopw [5] (fun kv wr => ∃ k : Nat, k ≤ l.length ∧ kv = .int .i64 k ∧ Hid (∀ j, j < k → l.getD j 0 ≤ i) ∧ w = wr) (fun kv _ => l.length - (intOf kv).toNat)
    case atStart => exact ⟨0, by omega, rfl, Lib.hid (fun j h => by omega), rfl⟩
    case round =>
      obtain ⟨k, hk, rfl, HJ, rfl⟩ := hrel
      by_cases hlt : k < l.length
      · obtain ⟨p, rfl, _, hc⟩ := H.out.int hlt
        obtain ⟨x, hx⟩ : ∃ x, l[k] = x := ⟨_, rfl⟩
        rw [hx] at hc
        have HX : Hid (l.getD k 0 = x) := Lib.hid (by rw [getD_at hlt, hx])
        have k0 : (0 : Int) ≤ (k : Int) := by omega
        have k1 : (k : Int) < (l.length : Int) := by omega
        clear hx
        rcases hxi : decide (i < x) with _ | _
        · have HN : Hid (x ≤ i) := Lib.hid (by simpa using hxi)
          go_wp2
          go_roundw
          case rel =>
            refine ⟨k + 1, by omega, by go_num, Lib.hid (fun j hj => ?_), by first | rfl | trivial⟩
            by_cases e : j = k
            · rw [e, HX.out]; exact HN.out
            · exact HJ.out j (by omega)
          case measure => simp [intOf]; omega
        · have HF : Hid (lineOf l i = (k : Int)) := Lib.hid (by
            unfold lineOf
            rw [if_neg (by have := HI.out; omega)]
            have : (List.range l.length).find? (fun k => decide (i < l.getD k 0)) = some k := by
              rw [List.find?_range_eq_some]
              refine ⟨by rw [HX.out]; exact hxi, by simpa using hlt, fun j hj => ?_⟩
              have := HJ.out j hj
              simp at this ⊢
              exact this
            rw [this])
          go_wp2
          go_ret
          exact ⟨ret_int HF.out.symm, rfl⟩
      · obtain rfl : k = l.length := by omega
        have HF : Hid (lineOf l i = -1) := Lib.hid (by
          unfold lineOf
          rw [if_neg (by have := HI.out; omega), List.find?_eq_none.2 (fun j hj => by have := HJ.out j (List.mem_range.1 hj); simpa using this)])
        go_wp2
        go_ret
        exact ⟨ret_int HF.out.symm, rfl⟩
  · have HF : Hid (lineOf l i = -1) := Lib.hid (by unfold lineOf; rw [if_pos (by simpa using hi)])
    go_enter Try.func14, Try.ntmps14
    go_wp2
    go_ret
    exact ⟨ret_int HF.out.symm, rfl⟩

/-- lines, and an error's number -/
def RowedL (w : World) (P : List (Int × Int)) (e : Int) (ed : Ending) (w' : World) : Prop := ∃ v, ed = .returned (.tuple #[v, .int .i64 e]) ∧ OwnN w' w.heap.size 29 2 v P.length (prC P) ∧ Below w.heap.size w w'
def linesE (l : List Int) (n : Int) : List (Int × Int) := if rightI l n then linesI l else []
def linesR (l : List Int) (n : Int) : Int := if rightI l n then 0 else 3

set_option maxHeartbeats 1000000 in
theorem rlines13_any (A : Option Addr) (l : List Int) (c : Nat) (n : Int) (w : World) (h : Lies w w.heap.size A (ints .i64 l)) (hl : l.length ≤ 1000000) :
    Calls Try.prog 10 #[.slice A l.length c, .int .i64 n] w (RowedL w (linesE l n) (linesR l n)) := by
  have H := Lib.hid h
  clear h
  rcases hr : rightI l n with _ | _
  · have HP : linesE l n = [] := by rw [linesE, hr]; rfl
    have HE : linesR l n = 3 := by rw [linesR, hr]; rfl
    rw [HP, HE]
    clear HP HE
    go_enter Try.func10, Try.ntmps10
    go_wp2_with fail
    refine (rright13_any A l c n w H.out hl).mono ?_
    rintro e wq ⟨rfl, rfl⟩
    rw [hr]
    go_wp2
    go_ret2
    exact ⟨_, rfl, OwnN.empty _ _ _ _, Below.refl _ _⟩
  · have HP : linesE l n = linesI l := by rw [linesE, hr]; rfl
    have HE : linesR l n = 0 := by rw [linesR, hr]; rfl
    rw [HP, HE]
    clear HP HE
    go_enter Try.func10, Try.ntmps10
    go_wp2_with fail
    refine (rright13_any A l c n w H.out hl).mono ?_
    rintro e wq ⟨rfl, rfl⟩
    rw [hr]
    go_wp2_with fail
    go_loopw [8, 6, 7] (fun iv ov lv wr => ∃ k : Nat, k ≤ l.length ∧ iv = .int .i64 k ∧ Hid (OwnN wr w.heap.size 29 2 ov k (prC ((linesI l).take k))) ∧ lv = .int .i64 (beginI l k) ∧ Hid (Below w.heap.size w wr)) (fun iv _ _ _ => l.length - (intOf iv).toNat)
    case atStart => exact ⟨0, by omega, rfl, Lib.hid (OwnN.empty _ _ _ _), rfl, Lib.hid (Below.refl _ _)⟩
    case round =>
      obtain ⟨k, hk, rfl, HO, rfl, HB⟩ := hrel
      obtain ⟨a, ha⟩ : ∃ a, beginI l k = a := ⟨_, rfl⟩
      rw [ha]
      by_cases hlt : k < l.length
      · obtain ⟨p, rfl, _, hc⟩ := (H.out.below HB.out).int hlt
        have HN := Lib.hid (lines_next l hlt)
        have HBS : Hid (beginI l (k + 1) = l[k]) := Lib.hid (by rw [begin_succ, getD_at hlt])
        obtain ⟨x, hx⟩ : ∃ x, l[k] = x := ⟨_, rfl⟩
        rw [hx] at hc HN HBS
        rw [ha] at HN
        have HXX := Lib.hid hx
        have k0 : (0 : Int) ≤ (k : Int) := by omega
        have k1 : (k : Int) < (l.length : Int) := by omega
        obtain ⟨AO, co, rfl, _, _, _⟩ := HO.out.form
        clear hx ha
        go_wp2_with (first
          | (at_builtin; refine appN_at spT w (wr.alloc (.cells #[.int .i64 a, .int .i64 x] 29)) w.heap.size _ _ _ (.slice AO k co) k 1 (prC ((linesI l).take k)) [.int .i64 a, .int .i64 x] _ _ rfl rfl rfl rfl (HO.out.alloc _) (Lies.lit (w := wr) (e := 29) #[.int .i64 a, .int .i64 x]) rfl (by simp [Value.oneCell']) (HB.out.alloc HB.out.size _) (HB.out.alloc HB.out.size _).size (by unfold maxLen; omega) (by omega) ?_; intro v3 w3 o3 b3 g3 _; have O3 := Lib.hid o3; have B3 := Lib.hid b3; obtain ⟨p3, hp3, _, hc3⟩ := (H.out.below B3.out).int hlt; injection hp3 with hp3; subst hp3; rw [HXX.out] at hc3; clear o3 b3 g3)
          | fail)
        go_roundw
        case rel => exact ⟨k + 1, by omega, by go_num, Lib.hid (by rw [HN.out, prC_append]; exact O3.out), by rw [HBS.out], B3⟩
        case measure => simp [intOf]; omega
      · obtain rfl : k = l.length := by omega
        clear ha
        go_wp2
        go_ret2
        refine ⟨_, rfl, ?_, HB.out⟩
        have := HO.out
        rw [List.take_of_length_le (by rw [linesI_length]; exact Nat.le_refl _)] at this
        rw [linesI_length]
        exact this

set_option maxHeartbeats 1000000 in
theorem rwrap13_any (n wd : Int) (w : World) :
    Calls Try.prog 17 #[.int .i64 n, .int .i64 wd] w fun ed w' => Rowed w w.heap.size 3 (ints .i64 (wrapI n wd)) ed w' := by
  by_cases hb : n < 1 ∨ wd < 1 ∨ 4000 < n
  · have HW : wrapI n wd = [] := by rw [wrapI, if_pos hb]
    rw [HW]
    rcases h1 : decide (n < 1) with _ | _
    · rcases h2 : decide (wd < 1) with _ | _
      · have h3 : decide (n > 4000) = true := by simp at h1 h2 ⊢; omega
        clear hb HW
        go_enter Try.func17, Try.ntmps17
        go_wp2
        go_ret
        exact ⟨_, rfl, Own.empty _ _ _, Below.refl _ _⟩
      · clear hb HW
        go_enter Try.func17, Try.ntmps17
        go_wp2
        go_ret
        exact ⟨_, rfl, Own.empty _ _ _, Below.refl _ _⟩
    · clear hb HW
      go_enter Try.func17, Try.ntmps17
      go_wp2
      go_ret
      exact ⟨_, rfl, Own.empty _ _ _, Below.refl _ _⟩
  · have HW : wrapI n wd = wrapN n wd n.toNat := by rw [wrapI, if_neg hb]
    rw [HW]
    obtain ⟨m, rfl⟩ : ∃ m : Nat, n = m := ⟨n.toNat, by omega⟩
    obtain ⟨v, rfl⟩ : ∃ v : Nat, wd = v := ⟨wd.toNat, by omega⟩
    have hm0 : 1 ≤ m := by omega
    have hm4 : m ≤ 4000 := by omega
    have hv0 : 1 ≤ v := by omega
    have d1 : decide ((m : Int) < 1) = false := by simp; omega
    have d2 : decide ((v : Int) < 1) = false := by simp; omega
    have d3 : decide ((m : Int) > 4000) = false := by simp; omega
    rw [Int.toNat_natCast]
    clear hb HW
    go_enter Try.func17, Try.ntmps17
    go_wp2
    go_loopw [6, 5] (fun iv ov wr => ∃ k : Nat, k ≤ m ∧ iv = .int .i64 ((k : Int) + 1) ∧ Hid (Own wr w.heap.size 3 ov (ints .i64 (wrapN m v k))) ∧ Hid (Below w.heap.size w wr)) (fun iv _ _ => m + 1 - (intOf iv).toNat)
    case atStart => exact ⟨0, by omega, rfl, Lib.hid (Own.empty _ _ _), Lib.hid (Below.refl _ _)⟩
    case round =>
      obtain ⟨k, hk, rfl, HO, HB⟩ := hrel
      have HN := Lib.hid (wrapN_succ m v k)
      have HLE : Hid ((wrapN m v k).length ≤ k) := Lib.hid (by
        unfold wrapN
        refine Nat.le_trans (List.length_filter_le _ _) ?_
        simp)
      by_cases hlt : k < m
      · have e1 : ((k : Int) + 1 ≤ (m : Int)) := by omega
        obtain ⟨r, hr⟩ : ∃ r, ((k : Int) + 1) % (v : Int) = r := ⟨_, rfl⟩
        have ht : Int.tmod ((k : Int) + 1) (v : Int) = r := (Int.tmod_eq_emod_of_nonneg (by omega)).trans hr
        have hv1 : ((v : Int) == 0) = false := by simp; omega
        have hv2 : ¬ ((v : Int) = 0) := by omega
        rw [hr] at HN
        have HW2 : Hid (wrapN m v (k + 1) = if ((k : Int) + 1 == (m : Int) || r == 0) then wrapN m v k ++ [(k : Int) + 1] else wrapN m v k) := HN
        clear HN hr
        rcases he : ((k : Int) + 1 == (m : Int)) with _ | _
        · rcases hr0 : (r == 0) with _ | _
          · have HS : Hid (wrapN m v (k + 1) = wrapN m v k) := Lib.hid (by rw [HW2.out, he, hr0]; rfl)
            go_wp2
            go_roundw
            case rel => exact ⟨k + 1, by omega, by go_num, Lib.hid (by rw [HS.out]; exact HO.out), HB⟩
            case measure => simp [intOf]; omega
          · have HS : Hid (wrapN m v (k + 1) = wrapN m v k ++ [(k : Int) + 1]) := Lib.hid (by rw [HW2.out, he, hr0]; rfl)
            go_wp2_with (first
              | (at_builtin; refine app_lit intsT w wr w.heap.size _ _ #[.int .i64 ((k : Int) + 1)] 1 _ (ints .i64 (wrapN m v k)) rfl rfl rfl rfl HO.out (by simp [Value.oneCell']) HB.out HB.out.size (by unfold maxLen; have := HLE.out; simp [ints]; omega) (by have := HLE.out; simp [ints]; omega) ?_; intro v2 w2 o2 b2 _ _; have O2 := Lib.hid o2; have B2 := Lib.hid b2; clear o2 b2)
              | fail)
            go_roundw
            case rel => exact ⟨k + 1, by omega, by go_num, Lib.hid (by rw [HS.out]; simpa [ints] using O2.out), B2⟩
            case measure => simp [intOf]; omega
        · have HS : Hid (wrapN m v (k + 1) = wrapN m v k ++ [(k : Int) + 1]) := Lib.hid (by rw [HW2.out, he]; rfl)
          go_wp2_with (first
            | (at_builtin; refine app_lit intsT w wr w.heap.size _ _ #[.int .i64 ((k : Int) + 1)] 1 _ (ints .i64 (wrapN m v k)) rfl rfl rfl rfl HO.out (by simp [Value.oneCell']) HB.out HB.out.size (by unfold maxLen; have := HLE.out; simp [ints]; omega) (by have := HLE.out; simp [ints]; omega) ?_; intro v2 w2 o2 b2 _ _; have O2 := Lib.hid o2; have B2 := Lib.hid b2; clear o2 b2)
            | fail)
          go_roundw
          case rel => exact ⟨k + 1, by omega, by go_num, Lib.hid (by rw [HS.out]; simpa [ints] using O2.out), B2⟩
          case measure => simp [intOf]; omega
      · obtain rfl : k = m := by omega
        have e1 : ¬ ((k : Int) + 1 ≤ (k : Int)) := by omega
        go_wp2
        go_ret
        exact ⟨_, rfl, HO.out, HB.out⟩
end Go.Proofs.Ytadfleopbpomfaa
