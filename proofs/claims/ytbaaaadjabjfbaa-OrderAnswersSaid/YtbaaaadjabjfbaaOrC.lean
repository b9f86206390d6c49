/- Layer 14: a line's order: the program's and the document's Of. -/
import Derived.Test.YtbaaaadjabjfbaaOrB
namespace Go.Proofs.Ytbaaaadjabjfbaa
open Go.RowKit

/-- the greatest level that counts, of the first k -/
def topK (l : List Int) (k : Nat) : Int := (l.take k).foldl (fun m x => max m (min x 127)) 0
theorem topK_zero (l : List Int) : topK l 0 = 0 := by simp [topK]
theorem topK_succ (l : List Int) {k : Nat} (h : k < l.length) : topK l (k + 1) = max (topK l k) (min l[k] 127) := by
  rw [topK, take_snoc l k h, List.foldl_append]; rfl
theorem topK_end (l : List Int) : topK l l.length = (mostO l : Int) := by
  have H : ∀ (l : List Int) (a : Int), 0 ≤ a → 0 ≤ l.foldl (fun m x => max m (min x 127)) a := by
    intro l
    induction l with
    | nil => intro a ha; exact ha
    | cons y l ih => intro a ha; rw [List.foldl_cons]; exact ih _ (by omega)
  have := H l 0 (Int.le_refl _)
  rw [topK, List.take_length, mostO, Int.toNat_of_nonneg this]
theorem nums_range (k : Nat) : nums (List.range (k + 1)) = nums (List.range k) ++ [(k : Int)] := by rw [List.range_succ, nums_append]; rfl
/-- places as they are laid in a row -/
theorem laid_next {n k : Nat} (hk : k < n) : (ints .i64 (nums (List.range k)) ++ List.replicate (n - k) (Value.int .i64 0)).set k (.int .i64 (k : Int)) = ints .i64 (nums (List.range (k + 1))) ++ List.replicate (n - (k + 1)) (Value.int .i64 0) := by
  rw [fill_list (by simp [nums]) hk, nums_range, ints, ints, List.map_append]
  rfl

set_option maxHeartbeats 2000000 in
theorem nof14_any (A : Option Addr) (levels : List Int) (cl : Nat) (w : World) (hL : Lies w w.heap.size A (ints .i64 levels)) (hn : levels.length ≤ 1000000) :
    Calls Try.prog 11 #[.slice A levels.length cl] w (Rowed w w.heap.size 3 (ints .i64 (orderI levels))) := by
  have HL := Lib.hid hL
  obtain ⟨z, hz⟩ : ∃ z, orderI levels = z := ⟨_, rfl⟩
  have HZ := Lib.hid hz
  rw [hz]
  obtain ⟨n, hnn⟩ : ∃ n, levels.length = n := ⟨_, rfl⟩
  have HN := Lib.hid hnn
  have hn0 : n ≤ 1000000 := by omega
  rw [hnn]
  clear hL hz hn hnn
  go_enter Try.func11, Try.ntmps11
  go_wp2_with (first
    | (refine make_row intsT w w w.heap.size _ _ .i64 .i64 n rfl rfl rfl rfl rfl (Below.refl _ _) (Nat.le_refl _) (by omega) (by unfold maxLen; omega) ?_; intro w1 r1 b1 _; have R1 : Hid (Row w1 w.heap.size 3 w.heap.size n (ints .i64 (nums (List.range 0)) ++ List.replicate (n - 0) (Value.int .i64 0))) := Lib.hid r1; have B1 := Lib.hid b1; clear r1 b1)
    | fail)
  go_loopw [13, 4] (fun iv tv wr => ∃ k : Nat, k ≤ n ∧ iv = .int .i64 k ∧ tv = .int .i64 (topK levels k) ∧ Hid (Row wr w.heap.size 3 w.heap.size n (ints .i64 (nums (List.range k)) ++ List.replicate (n - k) (Value.int .i64 0))) ∧ Hid (Below w.heap.size w wr)) (fun iv _ _ => n - (intOf iv).toNat)
  case atStart => exact ⟨0, by omega, rfl, by rw [topK_zero], R1, B1⟩
  case round =>
    obtain ⟨k, hk, rfl, rfl, HR, HB⟩ := hrel
    by_cases hlt : k < n
    · obtain ⟨q, rfl, _, hcx⟩ := (HL.out.below HB.out).int (i := k) (by have := HN.out; omega)
      have HTS := Lib.hid (topK_succ levels (k := k) (by have := HN.out; omega))
      obtain ⟨x, hx⟩ : ∃ x, levels[k]'(by have := HN.out; omega) = x := ⟨_, rfl⟩
      rw [hx] at hcx HTS
      obtain ⟨t, ht⟩ : ∃ t, topK levels k = t := ⟨_, rfl⟩
      rw [ht] at HTS
      rw [ht]
      have k0 : (0 : Int) ≤ (k : Int) := by omega
      have k1 : (k : Int) < (n : Int) := by omega
      clear hx ht
      go_wp2_with (first
        | (refine store_row intsT wr w.heap.size _ _ w.heap.size k n .i64 (k : Int) _ w rfl rfl rfl rfl rfl HR.out (by simp [nums]; omega) HB.out ?_; intro w5 r5 b5 _; rw [laid_next hlt] at r5; have R5 := Lib.hid r5; have B5 := Lib.hid b5; clear r5 b5)
        | fail)
      go_roundw
      case rel =>
        refine ⟨k + 1, by omega, by go_num, ?_, R5, B5⟩
        rw [HTS.out]
        congr 1
        by_cases h1 : 127 < x
        · rw [if_pos h1]
          by_cases h2 : t < 127
          · rw [if_pos h2]; omega
          · rw [if_neg h2]; omega
        · rw [if_neg h1]
          by_cases h2 : t < x
          · rw [if_pos h2]; omega
          · rw [if_neg h2]; omega
      case measure => simp [intOf]; omega
    · obtain rfl : k = n := by omega
      have HTE : Hid (topK levels k = (mostO levels : Int)) := Lib.hid (by rw [← HN.out]; exact topK_end levels)
      have HC0 : Hid (Cols levels (mostO levels) (List.range levels.length) ∧ turns levels (mostO levels) (List.range levels.length) = orderN levels) := Lib.hid ⟨cols_start levels _, rfl⟩
      have HR0 : Hid (Row wr w.heap.size 3 w.heap.size k (ints .i64 (nums (List.range levels.length)))) := Lib.hid (by rw [HN.out]; simpa using HR.out)
      rw [HTE.out]
      have HM := Lib.hid (most_le levels)
      generalize mostO levels = M at *
      have hm := HM.out
      go_wp2_with fail
      go_loopw [7] (fun iv wv => ∃ (m : Nat) (o : List Nat), m ≤ 127 ∧ iv = .int .i64 m ∧ Hid (Cols levels m o ∧ turns levels m o = orderN levels) ∧ Hid (Row wv w.heap.size 3 w.heap.size k (ints .i64 (nums o))) ∧ Hid (Below w.heap.size w wv)) (fun iv _ => (intOf iv).toNat)
      case atStart => exact ⟨M, _, hm, rfl, HC0, HR0, HB⟩
      case round =>
        obtain ⟨m, o, hm, rfl, HC, HRo, HBo⟩ := hrel
        rcases m with _ | m
        · have HE : Hid (nums o = z) := Lib.hid (by rw [← HZ.out, orderI, ← HC.out.2]; rfl)
          have HOL : Hid (k = (nums o).length) := Lib.hid (by rw [nums_length, HC.out.1.len, HN.out])
          go_wp2
          go_ret
          exact ⟨_, rfl, by rw [HE.out] at HRo HOL; exact (HRo.out).own (by simpa using HOL.out), HBo.out⟩
        · have HT : Hid (Cols levels m (revAll (atLeast levels ((m + 1 : Nat) : Int)) o) ∧ turns levels m (revAll (atLeast levels ((m + 1 : Nat) : Int)) o) = orderN levels) := Lib.hid ⟨cols_next HC.out.1, HC.out.2⟩
          have HK := Lib.hid (nturnRows_any w.heap.size w.heap.size k cl (m + 1) A levels o _ (HL.out.below HBo.out) HC.out.1 hm (by rw [HN.out]; omega) (by rw [HN.out]; omega) HRo.out)
          rw [HN.out] at HK
          have hpos : ((m + 1 : Nat) : Int) > 0 := by omega
          go_wp2_with fail
          refine (HK.out).mono ?_
          rintro e w2 ⟨rfl, r2, b2⟩
          have R2 := Lib.hid r2
          have B2 := Lib.hid (HBo.out.trans b2)
          clear r2 b2
          go_wp2_with fail
          go_roundw
          case rel => exact ⟨m, _, by omega, by first | rfl | (congr 1; omega), HT, R2, B2⟩
          case measure => simp [intOf]

/-- one more that is skipped, or a row: what is laid -/
theorem nums_cons_drop {o : List Nat} {i : Nat} (h : i < o.length) : nums (o.drop i) = (o[i] : Int) :: nums (o.drop (i + 1)) := by
  rw [List.drop_eq_getElem_cons h]; rfl

/-- one row more: behind the turn -/
theorem turn_next {p : Nat → Bool} {o D : List Nat} {i j : Nat} (hD : D.length = i) (h : revAll p o = D ++ revAll p (o.drop i)) (hi : i < o.length) (hij : i ≤ j) (hj : j ≤ o.length)
    (hin : ∀ t, i ≤ t → t < j → ∀ h : t < o.length, p o[t] = true) (hout : ∀ h : j < o.length, p o[j] = false) :
    ∃ D' : List Nat, D'.length = max j (i + 1) ∧ revAll p o = D' ++ revAll p (o.drop (max j (i + 1))) ∧ nums D ++ (nums ((o.drop i).take (j - i))).reverse ++ nums (o.drop j) = nums D' ++ nums (o.drop (max j (i + 1))) ∧ max j (i + 1) ≤ o.length := by
  by_cases e : i < j
  · have e2 : max j (i + 1) = j := by omega
    rw [e2]
    refine ⟨D ++ ((o.drop i).take (j - i)).reverse, ?_, rows_next h e hj hin hout, ?_, hj⟩
    · simp [hD]; omega
    · rw [nums_append, nums_reverse]
  · obtain rfl : j = i := by omega
    have e2 : max j (j + 1) = j + 1 := by omega
    rw [e2]
    refine ⟨D ++ [o[j]], by simp [hD], rows_skip h hi (hout hi), ?_, hi⟩
    rw [nums_append, nums_cons_drop hi, Nat.sub_self, List.take_zero]
    simp [nums]
theorem rturn_part (B g c n f t : Nat) (pre l post : List Int) (w : World) (hf : pre.length = f) (ht : f + l.length = t) (hl : (pre ++ l ++ post).length = n) (hlen : n ≤ 1000000) (hR : Row w B 3 g c (ints .i64 (pre ++ l ++ post))) :
    Calls Try.prog 21 #[.slice (some ⟨g, 0, none⟩) n c, .int .i64 (f : Int), .int .i64 (t : Int)] w (Turned w B g c (pre ++ l.reverse ++ post)) := by
  subst hf ht
  exact rturn_any B g c n pre l post w hl hlen hR

set_option maxRecDepth 20000 in
set_option maxHeartbeats 4000000 in
/-- the document's -/
theorem rof14_any (A : Option Addr) (levels : List Int) (cl : Nat) (w : World) (hL : Lies w w.heap.size A (ints .i64 levels)) (hn : levels.length ≤ 1000000) :
    Calls Try.prog 12 #[.slice A levels.length cl] w (Rowed w w.heap.size 3 (ints .i64 (orderI levels))) := by
  have HL := Lib.hid hL
  obtain ⟨z, hz⟩ : ∃ z, orderI levels = z := ⟨_, rfl⟩
  have HZ := Lib.hid hz
  rw [hz]
  obtain ⟨n, hnn⟩ : ∃ n, levels.length = n := ⟨_, rfl⟩
  have HN := Lib.hid hnn
  have hn0 : n ≤ 1000000 := by omega
  rw [hnn]
  clear hL hz hn hnn
  go_enter Try.func12, Try.ntmps12
  go_wp2_with (first
    | (refine make_row intsT w w w.heap.size _ _ .i64 .i64 n rfl rfl rfl rfl rfl (Below.refl _ _) (Nat.le_refl _) (by omega) (by unfold maxLen; omega) ?_; intro w1 r1 b1 _; have R1 : Hid (Row w1 w.heap.size 3 w.heap.size n (ints .i64 (nums (List.range 0)) ++ List.replicate (n - 0) (Value.int .i64 0))) := Lib.hid r1; have B1 := Lib.hid b1; clear r1 b1)
    | fail)
  go_loopw [5, 4] (fun iv tv wr => ∃ k : Nat, k ≤ n ∧ iv = .int .i64 k ∧ tv = .int .i64 (topK levels k) ∧ Hid (Row wr w.heap.size 3 w.heap.size n (ints .i64 (nums (List.range k)) ++ List.replicate (n - k) (Value.int .i64 0))) ∧ Hid (Below w.heap.size w wr)) (fun iv _ _ => n - (intOf iv).toNat)
  case atStart => exact ⟨0, by omega, rfl, by rw [topK_zero], R1, B1⟩
  case round =>
    obtain ⟨k, hk, rfl, rfl, HR, HB⟩ := hrel
    by_cases hlt : k < n
    · obtain ⟨q, rfl, _, hcx⟩ := (HL.out.below HB.out).int (i := k) (by have := HN.out; omega)
      have HTS := Lib.hid (topK_succ levels (k := k) (by have := HN.out; omega))
      obtain ⟨x, hx⟩ : ∃ x, levels[k]'(by have := HN.out; omega) = x := ⟨_, rfl⟩
      rw [hx] at hcx HTS
      obtain ⟨t, ht⟩ : ∃ t, topK levels k = t := ⟨_, rfl⟩
      rw [ht] at HTS
      rw [ht]
      have HX : Hid (∀ u, Below w.heap.size w u → u.cell? (q.add k) = some (.int .i64 x)) := Lib.hid (fun u hu => by
        obtain ⟨q', e, _, h⟩ := (HL.out.below hu).int (i := k) (by have := HN.out; omega)
        injection e with e
        subst e
        rw [h, hx])
      have k0 : (0 : Int) ≤ (k : Int) := by omega
      have k1 : (k : Int) < (n : Int) := by omega
      clear hx ht hcx
      go_wp2_with (first
        | (refine store_row intsT wr w.heap.size _ _ w.heap.size k n .i64 (k : Int) _ w rfl rfl rfl rfl rfl HR.out (by simp [nums]; omega) HB.out ?_; intro w5 r5 b5 _; rw [laid_next hlt] at r5; have R5 := Lib.hid r5; have B5 := Lib.hid b5; have hcx := HX.out w5 b5; clear r5 b5)
        | fail)
      go_roundw
      case rel =>
        refine ⟨k + 1, by omega, by go_num, ?_, R5, B5⟩
        rw [HTS.out]
        congr 1
        by_cases h1 : 127 < x
        · rw [if_pos h1]
          by_cases h2 : t < 127
          · rw [if_pos h2]; omega
          · rw [if_neg h2]; omega
        · rw [if_neg h1]
          by_cases h2 : t < x
          · rw [if_pos h2]; omega
          · rw [if_neg h2]; omega
      case measure => simp [intOf]; omega
    · obtain rfl : k = n := by omega
      have HTE : Hid (topK levels k = (mostO levels : Int)) := Lib.hid (by rw [← HN.out]; exact topK_end levels)
      have HC0 : Hid (Cols levels (mostO levels) (List.range levels.length) ∧ turns levels (mostO levels) (List.range levels.length) = orderN levels) := Lib.hid ⟨cols_start levels _, rfl⟩
      have HR0 : Hid (Row wr w.heap.size 3 w.heap.size k (ints .i64 (nums (List.range levels.length)))) := Lib.hid (by rw [HN.out]; simpa using HR.out)
      rw [HTE.out]
      have HM := Lib.hid (most_le levels)
      generalize mostO levels = M at *
      have hm := HM.out
      go_wp2_with fail
      go_loopw [6] (fun iv wv => ∃ (m : Nat) (o : List Nat), m ≤ 127 ∧ iv = .int .i64 m ∧ Hid (Cols levels m o ∧ turns levels m o = orderN levels) ∧ Hid (Row wv w.heap.size 3 w.heap.size k (ints .i64 (nums o))) ∧ Hid (Below w.heap.size w wv)) (fun iv _ => (intOf iv).toNat)
      case atStart => exact ⟨M, _, hm, rfl, HC0, HR0, HB⟩
      case round =>
        obtain ⟨m, o, hm, rfl, HC, HRo, HBo⟩ := hrel
        rcases m with _ | m
        · have HE : Hid (nums o = z) := Lib.hid (by rw [← HZ.out, orderI, ← HC.out.2]; rfl)
          have HOL : Hid (k = (nums o).length) := Lib.hid (by rw [nums_length, HC.out.1.len, HN.out])
          go_wp2
          go_ret
          exact ⟨_, rfl, by rw [HE.out] at HRo HOL; exact (HRo.out).own (by simpa using HOL.out), HBo.out⟩
        · have HT : Hid (Cols levels m (revAll (atLeast levels ((m + 1 : Nat) : Int)) o) ∧ turns levels m (revAll (atLeast levels ((m + 1 : Nat) : Int)) o) = orderN levels) := Lib.hid ⟨cols_next HC.out.1, HC.out.2⟩
          have HOL : Hid (o.length = k) := Lib.hid (by rw [HC.out.1.len, HN.out])
          have HLT : Hid (∀ j (h : j < o.length), o[j] < k) := Lib.hid (fun j h => by rw [← HN.out]; exact HC.out.1.lt h)
          obtain ⟨b, hb⟩ : ∃ b : Int, ((m + 1 : Nat) : Int) = b := ⟨_, rfl⟩
          have hge : 1 ≤ b := by omega
          have hge2 : b ≤ 127 := by omega
          have HBM : Hid ((m : Int) = b - 1) := Lib.hid (by omega)
          rw [hb] at HT ⊢
          clear hb
          obtain ⟨p, hp⟩ : ∃ p, atLeast levels b = p := ⟨_, rfl⟩
          rw [hp] at HT
          have HPP := Lib.hid hp
          clear hp
          go_wp2_with fail
          go_loopw [7] (fun jv wi => ∃ (i : Nat) (D : List Nat), i ≤ k ∧ jv = .int .i64 i ∧ Hid (D.length = i) ∧ Hid (revAll p o = D ++ revAll p (o.drop i)) ∧ Hid (Row wi w.heap.size 3 w.heap.size k (ints .i64 (nums D ++ nums (o.drop i)))) ∧ Hid (Below w.heap.size w wi)) (fun jv _ => k - (intOf jv).toNat)
          case atStart => exact ⟨0, [], by omega, rfl, Lib.hid rfl, Lib.hid rfl, HRo, HBo⟩
          case round =>
            obtain ⟨i, D, hi, rfl, HD, HA, HR, HBi⟩ := hrel
            rename World => wi
            by_cases hlt : i < k
            · have i0 : (0 : Int) ≤ (i : Int) := by omega
              have i1 : (i : Int) < (k : Int) := by omega
              go_wp2_with fail
              go_loopw [8] (fun jv wj => ∃ j : Nat, i ≤ j ∧ j ≤ k ∧ jv = .int .i64 j ∧ Hid (∀ t, i ≤ t → t < j → ∀ h : t < o.length, p o[t] = true) ∧ wi = wj) (fun jv _ => k - (intOf jv).toNat)
              case atStart => exact ⟨i, by omega, by omega, rfl, Lib.hid (fun t h1 h2 => by omega), rfl⟩
              case round =>
                obtain ⟨j, hij, hjk, rfl, HIN, rfl⟩ := hrel
                by_cases hjl : j < k
                · have hjo : j < o.length := by rw [HOL.out]; exact hjl
                  have c1 : wi.cell? ⟨w.heap.size, j, none⟩ = some (.int .i64 (o[j] : Int)) := by
                    have h1 : (nums D ++ nums (o.drop i))[j]? = some (o[j] : Int) := by
                      rw [List.getElem?_append_right (by rw [nums_length, HD.out]; omega), nums_length, HD.out, nums, List.getElem?_map, List.getElem?_drop, show i + (j - i) = j by omega, List.getElem?_eq_getElem hjo]
                      rfl
                    obtain ⟨h2, h3⟩ := List.getElem?_eq_some_iff.1 h1
                    rw [HR.out.cell (j := j) (by simpa [ints] using h2)]
                    simp only [ints, List.getElem_map, h3]
                  have hol := HLT.out j hjo
                  obtain ⟨q, rfl, _, c2⟩ := (HL.out.below HBi.out).int (i := o[j]) (by rw [HN.out]; exact hol)
                  have HPJ : Hid (p o[j] = decide (b ≤ levels[o[j]]'(by rw [HN.out]; exact hol))) := Lib.hid (by rw [← HPP.out, atLeast, lvAt, getD_at])
                  obtain ⟨x, hx⟩ : ∃ x, levels[o[j]]'(by rw [HN.out]; exact hol) = x := ⟨_, rfl⟩
                  rw [hx] at c2 HPJ
                  have HPK : Hid (∀ h : j < o.length, p o[j] = decide (b ≤ x)) := Lib.hid (fun _ => HPJ.out)
                  clear HPJ hx
                  generalize o[j] = y at c1 c2 hol
                  have j0 : (0 : Int) ≤ (j : Int) := by omega
                  have j1 : (j : Int) < (k : Int) := by omega
                  have y0 : (0 : Int) ≤ (y : Int) := by omega
                  have y1 : (y : Int) < (k : Int) := by omega
                  rcases hxm : decide (x ≥ b) with _ | _
                  · have HOUT : Hid (∀ h : j < o.length, p o[j] = false) := Lib.hid (fun h => by rw [HPK.out h]; exact hxm)
                    clear hjo
                    obtain ⟨D', hD', hA', hS', hK'⟩ := turn_next HD.out HA.out (by rw [HOL.out]; exact hlt) hij (by rw [HOL.out]; exact hjk) HIN.out HOUT.out
                    have HD' := Lib.hid hD'
                    have HA' := Lib.hid hA'
                    have HS' := Lib.hid hS'
                    have HK' : Hid (max j (i + 1) ≤ k) := Lib.hid (by have := HOL.out; omega)
                    have HR' : Hid (Row wi w.heap.size 3 w.heap.size k (ints .i64 (nums D ++ nums ((o.drop i).take (j - i)) ++ nums (o.drop j)))) := Lib.hid (by rw [← nums_parts D o hij]; exact HR.out)
                    have HTL : Hid (i + (nums ((o.drop i).take (j - i))).length = j) := Lib.hid (by rw [nums_length, List.length_take, List.length_drop, HOL.out]; omega)
                    have HDL : Hid ((nums D).length = i) := Lib.hid (by rw [nums_length, HD.out])
                    have HAL : Hid ((nums D ++ nums ((o.drop i).take (j - i)) ++ nums (o.drop j)).length = k) := Lib.hid (by
                      rw [← nums_parts D o hij, List.length_append, nums_length, nums_length, List.length_drop, HD.out, HOL.out]
                      omega)
                    clear hD' hA' hS' hK'
                    go_wp2_with fail
                    refine (rturn_part w.heap.size w.heap.size k k i j (nums D) _ (nums (o.drop j)) wi HDL.out HTL.out HAL.out hn0 HR'.out).mono ?_
                    rintro e w2 ⟨rfl, r2, b2⟩
                    rw [HS'.out] at r2
                    have R2 := Lib.hid r2
                    have B2 := Lib.hid (HBi.out.trans b2)
                    clear r2 b2
                    go_wp2_with fail
                    go_roundw
                    case rel =>
                      refine ⟨max j (i + 1), D', HK'.out, ?_, HD', HA', R2, B2⟩
                      by_cases hm : j < i + 1
                      · rw [Nat.max_eq_right (by omega)]
                        try rw [if_pos (by omega)]
                        go_num
                      · rw [Nat.max_eq_left (by omega)]
                        try rw [if_neg (by omega)]
                    case measure =>
                      have := HK'.out
                      simp [intOf]
                      omega
                  · have HIN' : Hid (∀ t, i ≤ t → t < j + 1 → ∀ h : t < o.length, p o[t] = true) := Lib.hid (fun t h1 h2 h => by
                      by_cases e : t = j
                      · subst e; rw [HPK.out h]; exact hxm
                      · exact HIN.out t h1 (by omega) h)
                    clear hjo
                    go_wp2_with fail
                    go_roundw
                    case rel => exact ⟨j + 1, by omega, by omega, by go_num, HIN', by first | rfl | trivial⟩
                    case measure => simp [intOf]; omega
                · have j1 : ¬ (j : Int) < (k : Int) := by omega
                  have HOUT : Hid (∀ h : j < o.length, p o[j] = false) := Lib.hid (fun h => by have := HOL.out; omega)
                  obtain ⟨D', hD', hA', hS', hK'⟩ := turn_next HD.out HA.out (by rw [HOL.out]; exact hlt) hij (by rw [HOL.out]; exact hjk) HIN.out HOUT.out
                  have HD' := Lib.hid hD'
                  have HA' := Lib.hid hA'
                  have HS' := Lib.hid hS'
                  have HK' : Hid (max j (i + 1) ≤ k) := Lib.hid (by have := HOL.out; omega)
                  have HR' : Hid (Row wi w.heap.size 3 w.heap.size k (ints .i64 (nums D ++ nums ((o.drop i).take (j - i)) ++ nums (o.drop j)))) := Lib.hid (by rw [← nums_parts D o hij]; exact HR.out)
                  have HTL : Hid (i + (nums ((o.drop i).take (j - i))).length = j) := Lib.hid (by rw [nums_length, List.length_take, List.length_drop, HOL.out]; omega)
                  have HDL : Hid ((nums D).length = i) := Lib.hid (by rw [nums_length, HD.out])
                  have HAL : Hid ((nums D ++ nums ((o.drop i).take (j - i)) ++ nums (o.drop j)).length = k) := Lib.hid (by
                    rw [← nums_parts D o hij, List.length_append, nums_length, nums_length, List.length_drop, HD.out, HOL.out]
                    omega)
                  clear hD' hA' hS' hK'
                  go_wp2_with fail
                  refine (rturn_part w.heap.size w.heap.size k k i j (nums D) _ (nums (o.drop j)) wi HDL.out HTL.out HAL.out hn0 HR'.out).mono ?_
                  rintro e w2 ⟨rfl, r2, b2⟩
                  rw [HS'.out] at r2
                  have R2 := Lib.hid r2
                  have B2 := Lib.hid (HBi.out.trans b2)
                  clear r2 b2
                  go_wp2_with fail
                  go_roundw
                  case rel =>
                    refine ⟨max j (i + 1), D', HK'.out, ?_, HD', HA', R2, B2⟩
                    by_cases hm : j < i + 1
                    · rw [Nat.max_eq_right (by omega)]
                      try rw [if_pos (by omega)]
                      go_num
                    · rw [Nat.max_eq_left (by omega)]
                      try rw [if_neg (by omega)]
                  case measure =>
                    have := HK'.out
                    simp [intOf]
                    omega
            · have HE : Hid (revAll p o = D) := Lib.hid (by
                have := HA.out
                rw [List.drop_of_length_le (by rw [HOL.out]; omega)] at this
                rw [this, revAll, rev1, List.append_nil])
              have HRE : Hid (Row wi w.heap.size 3 w.heap.size k (ints .i64 (nums (revAll p o)))) := Lib.hid (by
                have := HR.out
                rw [List.drop_of_length_le (by rw [HOL.out]; omega)] at this
                rw [HE.out]
                simpa [nums] using this)
              have i1 : ¬ (i : Int) < (k : Int) := by omega
              go_wp2_with fail
              go_roundw
              case rel => exact ⟨m, _, by omega, by rw [HBM.out], HT, HRE, HBi⟩
              case measure => simp [intOf]; omega
end Go.Proofs.Ytbaaaadjabjfbaa
