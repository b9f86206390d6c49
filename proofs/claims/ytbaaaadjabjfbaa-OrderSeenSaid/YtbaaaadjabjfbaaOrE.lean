/- Layer 14: Seen and Only, the program's and the document's. -/
import Derived.Test.YtbaaaadjabjfbaaOrD
import Derived.Test.YtbaaaadjabjfbaaPrD
import Derived.Test.YtbaaaadjabjfbaaMix
namespace Go.Proofs.Ytbaaaadjabjfbaa
open Go.RowKit

/-- k columns are seen -/
def seenK (chars levels : List Int) (k : Nat) : List Int := mixL (orderI levels) (seenI chars levels) k
theorem seen_at {chars levels : List Int} (h : chars.length = levels.length) {k : Nat} (hk : k < levels.length) : (seenI chars levels).getD k 0 = seen1 chars levels ((orderN levels)[k]'(by rw [order_length]; exact hk)) := by
  rw [getD_at (by rw [seenI_length h, h]; exact hk)]
  simp only [seenI, if_pos h, List.getElem_map]
theorem seenK_succ {chars levels : List Int} (h : chars.length = levels.length) {k : Nat} (hk : k < levels.length) : (seenK chars levels k).set k (seen1 chars levels ((orderN levels)[k]'(by rw [order_length]; exact hk))) = seenK chars levels (k + 1) := by
  have := mixL_set (pre := []) (post := []) (l := orderI levels) (l' := seenI chars levels) (by rw [seenI_length h, orderI_length, h]) (k := k) (by rw [orderI_length]; exact hk)
  rw [seen_at h hk] at this
  simpa [seenK] using this
theorem seenK_get {chars levels : List Int} (h : chars.length = levels.length) {k : Nat} (hk : k < levels.length) : (seenK chars levels k)[k]? = some (((orderN levels)[k]'(by rw [order_length]; exact hk) : Nat) : Int) := by
  have := mixL_get (pre := []) (post := []) (l := orderI levels) (l' := seenI chars levels) (by rw [seenI_length h, orderI_length, h]) (k := k) (by rw [orderI_length]; exact hk)
  simpa [seenK, orderI] using this
theorem seenK_length {chars levels : List Int} (h : chars.length = levels.length) (k : Nat) : (seenK chars levels k).length = levels.length := by
  rw [seenK, mixL_all (by rw [seenI_length h, orderI_length, h]), orderI_length]
theorem seenK_zero (chars levels : List Int) : seenK chars levels 0 = orderI levels := mixL_zero _ _
theorem seenK_end {chars levels : List Int} (h : chars.length = levels.length) : seenK chars levels levels.length = seenI chars levels := by
  rw [seenK, mixL, List.take_of_length_le (by rw [seenI_length h, h]; exact Nat.le_refl _), List.drop_of_length_le (by rw [orderI_length]; exact Nat.le_refl _), List.append_nil]
theorem seen_succ {chars levels : List Int} (h : chars.length = levels.length) {k : Nat} (hk : k < levels.length) : (seenI chars levels).take (k + 1) = (seenI chars levels).take k ++ [seen1 chars levels ((orderN levels)[k]'(by rw [order_length]; exact hk))] := by
  rw [← seen_at h hk, take_snoc _ k (by rw [seenI_length h, h]; exact hk), getD_at]
theorem order_at {levels : List Int} {k : Nat} (hk : k < levels.length) : (orderI levels)[k]'(by rw [orderI_length]; exact hk) = (((orderN levels)[k]'(by rw [order_length]; exact hk) : Nat) : Int) := by
  simp [orderI]

set_option maxHeartbeats 4000000 in
theorem nseen14_any (A A' : Option Addr) (chars levels : List Int) (c c' : Nat) (w : World) (hC : Lies w w.heap.size A (ints .i64 chars)) (hL : Lies w w.heap.size A' (ints .i64 levels)) (hl : levels.length ≤ 1000000) :
    Calls Try.prog 15 #[.slice A chars.length c, .slice A' levels.length c'] w (Rowed w w.heap.size 3 (ints .i64 (seenI chars levels))) := by
  by_cases h : chars.length = levels.length
  · have HC := Lib.hid hC
    have HL := Lib.hid hL
    have HEQ := Lib.hid h
    have HOF := Lib.hid (nof14_any A' levels c' w hL hl)
    obtain ⟨n, hnn⟩ : ∃ n, levels.length = n := ⟨_, rfl⟩
    have HN := Lib.hid hnn
    have hn0 : n ≤ 1000000 := by omega
    rw [hnn] at HOF h ⊢
    rw [h]
    have hne : ((n : Int) != (n : Int)) = false := by simp
    clear hC hL hl hnn h
    go_enter Try.func15, Try.ntmps15
    go_wp2_with fail
    refine (HOF.out).mono ?_
    rintro e w1 ⟨v1, rfl, o1, b1⟩
    have hol : (ints .i64 (orderI levels)).length = n := by simp only [ints, List.length_map, orderI_length, HN.out]
    obtain ⟨A2, c2, rfl, -, -, -⟩ := o1.form
    rw [hol] at o1 ⊢
    have HO1 : Hid (Own w1 w.heap.size 3 (.slice A2 n c2) (ints .i64 (seenK chars levels 0))) := Lib.hid (by rw [seenK_zero]; exact o1)
    have HB1 := Lib.hid b1
    clear o1 b1 hol
    go_wp2_with fail
    go_loopw [17] (fun iv wr => ∃ k : Nat, k ≤ n ∧ iv = .int .i64 k ∧ Hid (Own wr w.heap.size 3 (.slice A2 n c2) (ints .i64 (seenK chars levels k))) ∧ Hid (Below w.heap.size w wr)) (fun iv _ => n - (intOf iv).toNat)
    case atStart => exact ⟨0, by omega, rfl, HO1, HB1⟩
    case round =>
      obtain ⟨k, hk, rfl, HO, HB⟩ := hrel
      by_cases hlt : k < n
      · have hkl : k < levels.length := by rw [HN.out]; exact hlt
        have HLK : Hid ((ints .i64 (seenK chars levels k)).length = n) := Lib.hid (by simp only [ints, List.length_map, seenK_length HEQ.out, HN.out])
        obtain ⟨g, cg, hv, hrow⟩ := HO.out.inRow (by rw [HLK.out]; omega)
        rw [HLK.out] at hv
        injection hv with hA _ hc
        subst hA hc
        have hg2 := seenK_get HEQ.out hkl
        have hsu := seenK_succ HEQ.out hkl
        obtain ⟨h2, h3⟩ := List.getElem?_eq_some_iff.1 hg2
        have hcx := hrow.cell (j := k) (by simpa [ints] using h2)
        simp only [ints, List.getElem_map, h3] at hcx
        have hyl : (orderN levels)[k]'(by rw [order_length]; exact hkl) < n := by rw [← HN.out]; exact order_lt (List.getElem_mem _)
        obtain ⟨y, hy⟩ : ∃ y, (orderN levels)[k]'(by rw [order_length]; exact hkl) = y := ⟨_, rfl⟩
        rw [hy] at hcx hsu hyl
        have hcl : y < chars.length := by rw [HEQ.out, HN.out]; exact hyl
        have hll : y < levels.length := by rw [HN.out]; exact hyl
        obtain ⟨p, rfl, -, -⟩ := (HC.out.below HB.out).int hcl
        obtain ⟨q, rfl, -, -⟩ := (HL.out.below HB.out).int hll
        obtain ⟨cv, hcv⟩ : ∃ x, chars[y] = x := ⟨_, rfl⟩
        obtain ⟨lv, hlv⟩ : ∃ x, levels[y] = x := ⟨_, rfl⟩
        have HCV : Hid (∀ u, Below w.heap.size w u → u.cell? (p.add y) = some (.int .i64 cv)) := Lib.hid (fun u hu => by
          obtain ⟨q', e, _, hh⟩ := (HC.out.below hu).int hcl
          injection e with e
          subst e
          rw [hh, hcv])
        have HLV : Hid (∀ u, Below w.heap.size w u → u.cell? (q.add y) = some (.int .i64 lv)) := Lib.hid (fun u hu => by
          obtain ⟨q', e, _, hh⟩ := (HL.out.below hu).int hll
          injection e with e
          subst e
          rw [hh, hlv])
        have hs1 : seen1 chars levels y = if oddO lv then mir cv else cv := by
          rw [seen1, getD_at hll, getD_at hcl, hcv, hlv]
        rw [hs1] at hsu
        have HSU := Lib.hid hsu
        have HRO := Lib.hid hrow
        have hca := HCV.out wr HB.out
        have k0 : (0 : Int) ≤ (k : Int) := by omega
        have k1 : (k : Int) < (n : Int) := by omega
        have y0 : (0 : Int) ≤ (y : Int) := by omega
        have y1 : (y : Int) < (n : Int) := by omega
        have hkx : k < (ints .i64 (seenK chars levels k)).length := by rw [HLK.out]; exact hlt
        clear hg2 hsu h2 h3 hy hcl hll hcv hlv hs1 hrow hkl HO
        rcases hod : (Int.tmod lv 2 != 0) with _ | _
        · have HS : Hid ((seenK chars levels k).set k cv = seenK chars levels (k + 1)) := Lib.hid (by rw [← HSU.out, oddO, hod]; rfl)
          go_wp2_with (first
            | (refine store_row intsT wr w.heap.size _ _ g k _ .i64 cv _ w rfl rfl rfl rfl rfl HRO.out hkx HB.out ?_; intro w5 r5 b5 _; rw [ints_set, HS.out] at r5; have R5 := Lib.hid r5; have B5 := Lib.hid b5; have hlb := HLV.out w5 b5; clear r5 b5)
            | fail)
          go_roundw
          case rel => exact ⟨k + 1, by omega, by go_num, Lib.hid ((R5.out).own (by simp only [ints, List.length_map, seenK_length HEQ.out, HN.out])), B5⟩
          case measure => simp [intOf]; omega
        · have HS : Hid (((seenK chars levels k).set k cv).set k (mir cv) = seenK chars levels (k + 1)) := Lib.hid (by rw [← HSU.out, oddO, hod, List.set_set]; rfl)
          have HKX := Lib.hid hkx
          go_wp2_with (first
            | (refine store_row intsT wr w.heap.size _ _ g k _ .i64 cv _ w rfl rfl rfl rfl rfl HRO.out hkx HB.out ?_; intro w5 r5 b5 _; rw [ints_set] at r5; have R5 := Lib.hid r5; have B5 := Lib.hid b5; have hlb := HLV.out w5 b5; have hca5 := HCV.out w5 b5; clear r5 b5)
            | fail)
          refine (mirror_any cv w5).mono ?_
          rintro e w6 ⟨rfl, b6⟩
          have R6 := Lib.hid (R5.out.below b6 (Nat.le_refl _))
          have B6 := Lib.hid (B5.out.trans (b6.mono B5.out.size))
          clear b6
          go_wp2_with (first
            | (refine store_row intsT w6 w.heap.size _ _ g k _ .i64 (mir cv) _ w rfl rfl rfl rfl rfl R6.out (by simp only [ints, List.length_map, List.length_set, seenK_length HEQ.out, HN.out]; omega) B6.out ?_; intro w7 r7 b7 _; rw [ints_set, HS.out] at r7; have R7 := Lib.hid r7; have B7 := Lib.hid b7; clear r7 b7)
            | fail)
          go_roundw
          case rel => exact ⟨k + 1, by omega, by go_num, Lib.hid ((R7.out).own (by simp only [ints, List.length_map, seenK_length HEQ.out, HN.out])), B7⟩
          case measure => simp [intOf]; omega
      · obtain rfl : k = n := by omega
        have HE : Hid (Own wr w.heap.size 3 (.slice A2 k c2) (ints .i64 (seenI chars levels))) := Lib.hid (by
          have := HO.out
          rw [show seenK chars levels k = seenI chars levels by rw [← HN.out]; exact seenK_end HEQ.out] at this
          exact this)
        go_wp2
        go_ret
        exact ⟨_, rfl, HE.out, HB.out⟩
  · have hz : seenI chars levels = [] := by rw [seenI, if_neg h]
    rw [hz]
    have hne : ((levels.length : Int) != (chars.length : Int)) = true := by simp; omega
    clear hC hL hl hz h
    go_enter Try.func15, Try.ntmps15
    go_wp2
    go_ret
    exact ⟨_, rfl, Own.empty _ _ _, Below.refl _ _⟩

set_option maxHeartbeats 4000000 in
theorem rseen14_any (A A' : Option Addr) (chars levels : List Int) (c c' : Nat) (w : World) (hC : Lies w w.heap.size A (ints .i64 chars)) (hL : Lies w w.heap.size A' (ints .i64 levels)) (hl : levels.length ≤ 1000000) :
    Calls Try.prog 16 #[.slice A chars.length c, .slice A' levels.length c'] w (Rowed w w.heap.size 3 (ints .i64 (seenI chars levels))) := by
  by_cases h : chars.length = levels.length
  · have HC := Lib.hid hC
    have HL := Lib.hid hL
    have HEQ := Lib.hid h
    have HOF := Lib.hid (rof14_any A' levels c' w hL hl)
    obtain ⟨n, hnn⟩ : ∃ n, levels.length = n := ⟨_, rfl⟩
    have HN := Lib.hid hnn
    have hn0 : n ≤ 1000000 := by omega
    rw [hnn] at HOF h ⊢
    rw [h]
    have hne : ((n : Int) != (n : Int)) = false := by simp
    clear hC hL hl hnn h
    go_enter Try.func16, Try.ntmps16
    go_wp2_with fail
    refine (HOF.out).mono ?_
    rintro e w1 ⟨v1, rfl, o1, b1⟩
    have hol : (ints .i64 (orderI levels)).length = n := by simp only [ints, List.length_map, orderI_length, HN.out]
    obtain ⟨A2, c2, rfl, l1, -, -⟩ := o1.form
    rw [hol]
    have HL1 := Lib.hid l1
    have HB1 := Lib.hid b1
    have hs1 : w.heap.size ≤ w1.heap.size := b1.size
    clear o1 b1 hol l1
    go_wp2_with fail
    go_loopw [7, 5] (fun iv ov wr => ∃ k : Nat, k ≤ n ∧ iv = .int .i64 k ∧ Hid (Own wr w1.heap.size 3 ov (ints .i64 ((seenI chars levels).take k))) ∧ Hid (Below w1.heap.size w1 wr)) (fun iv _ _ => n - (intOf iv).toNat)
    case atStart => exact ⟨0, by omega, rfl, Lib.hid (by rw [List.take_zero]; exact Own.empty _ _ _), Lib.hid (Below.refl _ _)⟩
    case round =>
      obtain ⟨k, hk, rfl, HO, HB⟩ := hrel
      by_cases hlt : k < n
      · have hkl : k < levels.length := by rw [HN.out]; exact hlt
        obtain ⟨r, rfl, _, hcx⟩ := (HL1.out.below HB.out).int (i := k) (by rw [orderI_length]; exact hkl)
        rw [order_at hkl] at hcx
        have hsu := seen_succ HEQ.out hkl
        have hyl : (orderN levels)[k]'(by rw [order_length]; exact hkl) < n := by rw [← HN.out]; exact order_lt (List.getElem_mem _)
        obtain ⟨y, hy⟩ : ∃ y, (orderN levels)[k]'(by rw [order_length]; exact hkl) = y := ⟨_, rfl⟩
        rw [hy] at hcx hsu hyl
        have hcl : y < chars.length := by rw [HEQ.out, HN.out]; exact hyl
        have hll : y < levels.length := by rw [HN.out]; exact hyl
        have HBW := Lib.hid (HB1.out.trans (HB.out.mono hs1))
        obtain ⟨p, rfl, _, hca⟩ := (HC.out.below HBW.out).int hcl
        obtain ⟨q, rfl, _, hcb⟩ := (HL.out.below HBW.out).int hll
        have hs1' : seen1 chars levels y = if oddO levels[y] then mir chars[y] else chars[y] := by
          rw [seen1, getD_at hll, getD_at hcl]
        obtain ⟨cv, hcv⟩ : ∃ x, chars[y] = x := ⟨_, rfl⟩
        obtain ⟨lv, hlv⟩ : ∃ x, levels[y] = x := ⟨_, rfl⟩
        rw [hcv] at hca hs1'
        rw [hlv] at hcb hs1'
        rw [hs1'] at hsu
        have HSU := Lib.hid hsu
        have HLT : Hid ((seenI chars levels).take k |>.length |> (· ≤ 1000000)) := Lib.hid (by simp only [List.length_take]; omega)
        have k0 : (0 : Int) ≤ (k : Int) := by omega
        have k1 : (k : Int) < (n : Int) := by omega
        have y0 : (0 : Int) ≤ (y : Int) := by omega
        have y1 : (y : Int) < (n : Int) := by omega
        clear hsu hy hcl hll hcv hlv hs1' hkl
        rcases hod : (Int.tmod lv 2 != 0) with _ | _
        · have HS : Hid ((seenI chars levels).take (k + 1) = (seenI chars levels).take k ++ [cv]) := Lib.hid (by rw [HSU.out, oddO, hod]; rfl)
          clear HSU
          generalize (seenI chars levels).take k = S at *
          go_wp2_with (first
            | (at_builtin; refine app_lit intsT w1 wr w1.heap.size _ _ #[.int .i64 cv] 1 _ (ints .i64 S) rfl rfl rfl rfl HO.out (by simp [Value.oneCell']) HB.out HB.out.size (by unfold maxLen; have := HLT.out; simp [ints] at this ⊢; omega) (by have := HLT.out; simp [ints] at this ⊢; omega) ?_; intro v2 w2 o2 b2 _ _; have O2 := Lib.hid o2; have B2 := Lib.hid b2; clear o2 b2)
            | fail)
          go_roundw
          case rel => exact ⟨k + 1, by omega, by go_num, Lib.hid (by rw [HS.out]; simpa [ints] using O2.out), B2⟩
          case measure => simp [intOf]; omega
        · have HS : Hid ((seenI chars levels).take (k + 1) = (seenI chars levels).take k ++ [mir cv]) := Lib.hid (by rw [HSU.out, oddO, hod]; rfl)
          clear HSU
          generalize (seenI chars levels).take k = S at *
          go_wp2_with fail
          refine (rmirror_any cv wr).mono ?_
          rintro e w6 ⟨rfl, b6⟩
          have O6 := Lib.hid (HO.out.below b6 (Nat.le_refl _))
          have B6 := Lib.hid (HB.out.trans (b6.mono HB.out.size))
          clear b6
          obtain ⟨m, hm⟩ : ∃ m, mir cv = m := ⟨_, rfl⟩
          rw [hm] at HS ⊢
          clear hm
          go_wp2_with (first
            | (at_builtin; refine app_lit intsT w1 w6 w1.heap.size _ _ #[.int .i64 m] 1 _ (ints .i64 S) rfl rfl rfl rfl O6.out (by simp [Value.oneCell']) B6.out B6.out.size (by unfold maxLen; have := HLT.out; simp [ints] at this ⊢; omega) (by have := HLT.out; simp [ints] at this ⊢; omega) ?_; intro v2 w2 o2 b2 _ _; have O2 := Lib.hid o2; have B2 := Lib.hid b2; clear o2 b2)
            | fail)
          go_roundw
          case rel => exact ⟨k + 1, by omega, by go_num, Lib.hid (by rw [HS.out]; simpa [ints] using O2.out), B2⟩
          case measure => simp [intOf]; omega
      · obtain rfl : k = n := by omega
        have HE : Hid (Own wr w.heap.size 3 u5 (ints .i64 (seenI chars levels))) := Lib.hid (by
          have := HO.out
          rw [List.take_of_length_le (by rw [seenI_length HEQ.out, HEQ.out, HN.out]; exact Nat.le_refl _)] at this
          exact this.weaken hs1)
        go_wp2
        go_ret
        exact ⟨_, rfl, HE.out, HB1.out.trans (HB.out.mono hs1)⟩
  · have hz : seenI chars levels = [] := by rw [seenI, if_neg h]
    rw [hz]
    have hne : ((chars.length : Int) != (levels.length : Int)) = true := by simp; omega
    clear hC hL hl hz h
    go_enter Try.func16, Try.ntmps16
    go_wp2
    go_ret
    exact ⟨_, rfl, Own.empty _ _ _, Below.refl _ _⟩

set_option maxHeartbeats 4000000 in
theorem nonly14_any (A A' : Option Addr) (l : List Int) (keep : List Bool) (c c' : Nat) (w : World) (hL : Lies w w.heap.size A (ints .i64 l)) (hK : Lies w w.heap.size A' (bits keep)) (hl : l.length ≤ 1000000) (_ : keep.length ≤ 1000000) :
    Calls Try.prog 17 #[.slice A l.length c, .slice A' keep.length c'] w (Rowed w w.heap.size 3 (ints .i64 (onlyI l keep))) := by
  have HL := Lib.hid hL
  have HK := Lib.hid hK
  clear hL hK
  go_enter Try.func17, Try.ntmps17
  go_wp2_with fail
  go_loopw [10, 5] (fun iv ov wr => ∃ k : Nat, k ≤ l.length ∧ iv = .int .i64 k ∧ Hid (Own wr w.heap.size 3 ov (ints .i64 (onlyI (l.take k) keep))) ∧ Hid (Below w.heap.size w wr)) (fun iv _ _ => l.length - (intOf iv).toNat)
  case atStart => exact ⟨0, by omega, rfl, Lib.hid (by rw [List.take_zero]; exact Own.empty _ _ _), Lib.hid (Below.refl _ _)⟩
  case round =>
    obtain ⟨k, hk', rfl, HO, HB⟩ := hrel
    by_cases hlt : k < l.length
    · obtain ⟨p, rfl, _, hcx⟩ := (HL.out.below HB.out).int hlt
      have HSU := Lib.hid (only_succ l keep hlt)
      have HLT : Hid ((onlyI (l.take k) keep).length ≤ 1000000) := Lib.hid (by
        have h1 := List.length_filter_le (keepB keep) (l.take k)
        rw [List.length_take] at h1
        unfold onlyI
        omega)
      obtain ⟨x, hx⟩ : ∃ x, l[k] = x := ⟨_, rfl⟩
      rw [hx] at hcx HSU
      have k0 : (0 : Int) ≤ (k : Int) := by omega
      have k1 : (k : Int) < (l.length : Int) := by omega
      clear hx
      generalize onlyI (l.take k) keep = S at *
      rcases hx0 : decide (0 ≤ x) with _ | _
      · have HS : Hid (onlyI (l.take (k + 1)) keep = S) := Lib.hid (by rw [HSU.out, keep_low (by simpa using hx0)]; rfl)
        go_wp2_with fail
        go_roundw
        case rel => exact ⟨k + 1, by omega, by go_num, Lib.hid (by rw [HS.out]; exact HO.out), HB⟩
        case measure => simp [intOf]; omega
      · have hx0' : 0 ≤ x := by simpa using hx0
        rcases hx1 : decide (x < (keep.length : Int)) with _ | _
        · have HS : Hid (onlyI (l.take (k + 1)) keep = S) := Lib.hid (by rw [HSU.out, keep_high (by simpa using hx1)]; rfl)
          go_wp2_with fail
          go_roundw
          case rel => exact ⟨k + 1, by omega, by go_num, Lib.hid (by rw [HS.out]; exact HO.out), HB⟩
          case measure => simp [intOf]; omega
        · have hx1' : x < (keep.length : Int) := by simpa using hx1
          obtain ⟨y, rfl⟩ : ∃ y : Nat, x = y := ⟨x.toNat, by omega⟩
          have hyl : y < keep.length := by omega
          obtain ⟨q, rfl, _, hcb⟩ := (HK.out.below HB.out).bit hyl
          have hka := keep_at (keep := keep) hx0' (by rw [Int.toNat_natCast]; exact hyl)
          simp only [Int.toNat_natCast] at hka
          obtain ⟨b, hb⟩ : ∃ b, keep[y] = b := ⟨_, rfl⟩
          rw [hb] at hcb hka
          have HKA := Lib.hid hka
          clear hb hka hyl
          cases b
          · have HS : Hid (onlyI (l.take (k + 1)) keep = S) := Lib.hid (by rw [HSU.out, HKA.out]; rfl)
            go_wp2_with fail
            go_roundw
            case rel => exact ⟨k + 1, by omega, by go_num, Lib.hid (by rw [HS.out]; exact HO.out), HB⟩
            case measure => simp [intOf]; omega
          · have HS : Hid (onlyI (l.take (k + 1)) keep = S ++ [(y : Int)]) := Lib.hid (by rw [HSU.out, HKA.out]; rfl)
            go_wp2_with (first
              | (at_builtin; refine app_lit intsT w wr w.heap.size _ _ #[.int .i64 (y : Int)] 1 _ (ints .i64 S) rfl rfl rfl rfl HO.out (by simp [Value.oneCell']) HB.out HB.out.size (by unfold maxLen; have := HLT.out; simp [ints]; omega) (by have := HLT.out; simp [ints]; omega) ?_; intro v2 w2 o2 b2 _ _; have O2 := Lib.hid o2; have B2 := Lib.hid b2; clear o2 b2)
              | fail)
            go_roundw
            case rel => exact ⟨k + 1, by omega, by go_num, Lib.hid (by rw [HS.out]; simpa [ints] using O2.out), B2⟩
            case measure => simp [intOf]; omega
    · obtain rfl : k = l.length := by omega
      have HE := HO.out
      rw [List.take_of_length_le (Nat.le_refl _)] at HE
      have HEE := Lib.hid HE
      clear HE
      go_wp2
      go_ret
      exact ⟨_, rfl, HEE.out, HB.out⟩

set_option maxHeartbeats 4000000 in
theorem ronly14_any (A A' : Option Addr) (l : List Int) (keep : List Bool) (c c' : Nat) (w : World) (hL : Lies w w.heap.size A (ints .i64 l)) (hK : Lies w w.heap.size A' (bits keep)) (hl : l.length ≤ 1000000) (_ : keep.length ≤ 1000000) :
    Calls Try.prog 18 #[.slice A l.length c, .slice A' keep.length c'] w (Rowed w w.heap.size 3 (ints .i64 (onlyI l keep))) := by
  have HL := Lib.hid hL
  have HK := Lib.hid hK
  clear hL hK
  go_enter Try.func18, Try.ntmps18
  go_wp2_with fail
  go_loopw [6, 5] (fun iv ov wr => ∃ k : Nat, k ≤ l.length ∧ iv = .int .i64 k ∧ Hid (Own wr w.heap.size 3 ov (ints .i64 (onlyI (l.take k) keep))) ∧ Hid (Below w.heap.size w wr)) (fun iv _ _ => l.length - (intOf iv).toNat)
  case atStart => exact ⟨0, by omega, rfl, Lib.hid (by rw [List.take_zero]; exact Own.empty _ _ _), Lib.hid (Below.refl _ _)⟩
  case round =>
    obtain ⟨k, hk', rfl, HO, HB⟩ := hrel
    by_cases hlt : k < l.length
    · obtain ⟨p, rfl, _, hcx⟩ := (HL.out.below HB.out).int hlt
      have HSU := Lib.hid (only_succ l keep hlt)
      have HLT : Hid ((onlyI (l.take k) keep).length ≤ 1000000) := Lib.hid (by
        have h1 := List.length_filter_le (keepB keep) (l.take k)
        rw [List.length_take] at h1
        unfold onlyI
        omega)
      obtain ⟨x, hx⟩ : ∃ x, l[k] = x := ⟨_, rfl⟩
      rw [hx] at hcx HSU
      have k0 : (0 : Int) ≤ (k : Int) := by omega
      have k1 : (k : Int) < (l.length : Int) := by omega
      clear hx
      generalize onlyI (l.take k) keep = S at *
      rcases hx0 : decide (x ≥ 0) with _ | _
      · have HS : Hid (onlyI (l.take (k + 1)) keep = S) := Lib.hid (by rw [HSU.out, keep_low (by simpa using hx0)]; rfl)
        go_wp2_with fail
        go_roundw
        case rel => exact ⟨k + 1, by omega, by go_num, Lib.hid (by rw [HS.out]; exact HO.out), HB⟩
        case measure => simp [intOf]; omega
      · have hx0' : 0 ≤ x := by simpa using hx0
        rcases hx1 : decide (x < (keep.length : Int)) with _ | _
        · have HS : Hid (onlyI (l.take (k + 1)) keep = S) := Lib.hid (by rw [HSU.out, keep_high (by simpa using hx1)]; rfl)
          go_wp2_with fail
          go_roundw
          case rel => exact ⟨k + 1, by omega, by go_num, Lib.hid (by rw [HS.out]; exact HO.out), HB⟩
          case measure => simp [intOf]; omega
        · have hx1' : x < (keep.length : Int) := by simpa using hx1
          obtain ⟨y, rfl⟩ : ∃ y : Nat, x = y := ⟨x.toNat, by omega⟩
          have hyl : y < keep.length := by omega
          obtain ⟨q, rfl, _, hcb⟩ := (HK.out.below HB.out).bit hyl
          have hka := keep_at (keep := keep) hx0' (by rw [Int.toNat_natCast]; exact hyl)
          simp only [Int.toNat_natCast] at hka
          obtain ⟨b, hb⟩ : ∃ b, keep[y] = b := ⟨_, rfl⟩
          rw [hb] at hcb hka
          have HKA := Lib.hid hka
          clear hb hka hyl
          cases b
          · have HS : Hid (onlyI (l.take (k + 1)) keep = S) := Lib.hid (by rw [HSU.out, HKA.out]; rfl)
            go_wp2_with fail
            go_roundw
            case rel => exact ⟨k + 1, by omega, by go_num, Lib.hid (by rw [HS.out]; exact HO.out), HB⟩
            case measure => simp [intOf]; omega
          · have HS : Hid (onlyI (l.take (k + 1)) keep = S ++ [(y : Int)]) := Lib.hid (by rw [HSU.out, HKA.out]; rfl)
            go_wp2_with (first
              | (at_builtin; refine app_lit intsT w wr w.heap.size _ _ #[.int .i64 (y : Int)] 1 _ (ints .i64 S) rfl rfl rfl rfl HO.out (by simp [Value.oneCell']) HB.out HB.out.size (by unfold maxLen; have := HLT.out; simp [ints]; omega) (by have := HLT.out; simp [ints]; omega) ?_; intro v2 w2 o2 b2 _ _; have O2 := Lib.hid o2; have B2 := Lib.hid b2; clear o2 b2)
              | fail)
            go_roundw
            case rel => exact ⟨k + 1, by omega, by go_num, Lib.hid (by rw [HS.out]; simpa [ints] using O2.out), B2⟩
            case measure => simp [intOf]; omega
    · obtain rfl : k = l.length := by omega
      have HE := HO.out
      rw [List.take_of_length_le (Nat.le_refl _)] at HE
      have HEE := Lib.hid HE
      clear HE
      go_wp2
      go_ret
      exact ⟨_, rfl, HEE.out, HB.out⟩
end Go.Proofs.Ytbaaaadjabjfbaa
