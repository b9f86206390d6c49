/- Shared texts, shaken for one claim. -/
import Derived.Deep.MidRow
import Derived.BigQuiet
import Derived.RangeFuncNested
import Derived.RangeFuncBound
import Derived.RangeFuncCalls
import Derived.RangeFuncLeaves
import Derived.Shelf.Abstract
import Derived.Shelf.RegionOpen
import Derived.OwnWalkIn
import Derived.TacticsInMore
import Derived.LoopNIn
import Derived.LoopIn
import Derived.Lib.SliceRun
import Derived.Laws.IdiomCopy
import Derived.Test.YtadfleopbpomfaaZA1
import Derived.Test.YtadfleopbpomfaaZA4
namespace Go.Proofs.Ytadfleopbpomfaa
open Go.RowKit
theorem made_two (z : Value) (n : Nat) : (madeCells #[z, z] (n * 2)).toList = List.replicate (n * 2) z := by
 apply List.ext_getElem?
 intro j
 by_cases hj : j < n * 2
 ·have h2 : (j % 2 = 0) ∨ (j % 2 = 1) := by omega
  rcases h2 with h2 | h2 <;> simp [madeCells, hj, h2]
 ·simp [madeCells, hj]
theorem fill_two {xs : List Value} {z u v : Value} {n k : Nat} (hk : xs.length = k * 2) (hn : k < n) :
 ((xs ++ List.replicate ((n - k) * 2) z).set (k * 2) u).set (k * 2 + 1) v = (xs ++ [u, v]) ++ List.replicate ((n - (k + 1)) * 2) z := by
 rw [List.set_append_right _ _ (by omega), hk, Nat.sub_self, show (n - k) * 2 = (n - (k + 1)) * 2 + 1 + 1 by omega, List.replicate_succ, List.replicate_succ, List.set_cons_zero,
  List.set_append_right _ _ (by omega), hk, show k * 2 + 1 - k * 2 = 1 by omega, List.set_cons_succ, List.set_cons_zero, List.append_assoc]
 rfl
section
variable {P : Program} {ops : Array Oper} {rest : List Oper} {o : Oper} {a : Act} {Q : Exit → Act → World → Prop}
theorem make_rowN {t e : TypeId} {z : Value} {size bytes : Nat} (T : SliceOfN P t e z size bytes) (w0 W : World) (B : Nat) (x y : Operand) (kl kc : IntKind) (n : Nat)
 (hgd : o.guard = none) (ho : o.op = .makeSlice t x y) (hx : a.eval x = .int kl (n : Int)) (hy : a.eval y = .int kc (n : Int)) (hb : Below B w0 W) (hB : B ≤ W.heap.size) (hn : bytes * n ≤ 281474976710656) (hm : n ≤ maxLen)
 (h : ∀ w', OwnN w' B e size (.slice (some ⟨W.heap.size, 0, none⟩) n n) n (madeCells z.cells (n * size)).toList → Below B w0 w' → W.grownBy w' none → wpList P ops Q rest (a.put o.dst (.slice (some ⟨W.heap.size, 0, none⟩) n n)) w') :
 wpList P ops Q (o :: rest) a W := by
 obtain ⟨i, hi, hz0, hz1, hz2⟩ := info_parts T.elem
 obtain ⟨w', hrun, r1, r2⟩ := run_make_full (P := P) W B t e i z size T.slice hi hz0 hz1 kl kc n (by rw [hz2]; exact hn) hm hB
 refine wpList_plain hgd fun K' hK' => ?_
 unfold Oper.wp
 simp [execOp, ho, hx, hy, hrun, Result.andThen]
 exact hK' _ _ (h w' r1 (hb.grown r2 hB (fun k hk => by cases hk)) r2)
theorem store_two {t e : TypeId} (w0 W : World) (B : Nat) (x y : Operand) (g j c n : Nat) (u v : Value) (xs : List Value)
 (hgd : o.guard = none) (hd : o.dst = none) (ho : o.op = .store t x y) (ht : (P.info? t).map (·.size) = some 2) (hu : u.oneCell' = true) (hv : v.oneCell' = true)
 (hx : a.eval x = .pointer (some ⟨g, j, none⟩)) (hy : a.eval y = .agg #[u, v]) (hr : OwnN W B e 2 (.slice (some ⟨g, 0, none⟩) n c) n xs) (hj : j + 1 < n * 2) (hb : Below B w0 W)
 (h : ∀ w', OwnN w' B e 2 (.slice (some ⟨g, 0, none⟩) n c) n ((xs.set j u).set (j + 1) v) → Below B w0 w' → wpList P ops Q rest a w') : wpList P ops Q (o :: rest) a W := by
 have hjl : j + 1 < xs.length := by rw [hr.1]; exact hj
 have hin := (OwnN.inside hr) g rfl
 have s1 := World.ownsRow.stored hr j u
 have s2 := World.ownsRow.stored s1.1 (j + 1) v
 refine wpList_store_mid hgd t x y ho g j #[u, v] hx hy (fun i hi => ?_) ht (by simp [hu, hv]) ?_
 ·have hi2 : i < 2 := hi
  refine ⟨?_, World.ownsRow.frozenAt hr (j + i)⟩
  rw [World.ownsRow.cellAt hr (j + i) (by omega), List.getElem?_eq_getElem (by omega)]
  rfl
 ·rw [hd]
  exact h _ s2.1 ((hb.setCell (p := ⟨g, j, none⟩) hin.1 u).setCell (p := ⟨g, j + 1, none⟩) hin.1 v)
end
end Go.Proofs.Ytadfleopbpomfaa
namespace Go.Proofs.Ytadfleopbpomfaa
open Go.RowKit
theorem call_ok {N : Nat} {fn : Func} (h : Try.prog.funcs[N]? = some fn) (h1 : (fn.name == "runtime.NumGoroutine") = false) (h2 : fn.body.isNone = false) (xs : Array Value) (u : World) :
 Sem.run Try.prog (callFunc N xs) u = .ok (.enter N xs) u := by
 have h3 : fn.name ≠ "runtime.NumGoroutine" := by simpa using h1
 have h4 : fn.body ≠ none := by intro e; rw [e] at h2; cases h2
 simp [callFunc, h, h3, h4, go_sem]
end Go.Proofs.Ytadfleopbpomfaa
namespace Go.Proofs.Ytadfleopbpomfaa
open Go.RowKit
theorem wrapN_gap (m v : Nat) (j d : Nat) (hd : d < v) (hm : j * v + d < m) : wrapN m v (j * v + d) = wrapN m v (j * v) := by
 induction d with
 | zero => rfl
 | succ d ih =>
  rw [← Nat.add_assoc, wrapN_succ, if_neg, ih (by omega) (by omega)]
  have e1 : (((j * v + d : Nat) : Int) + 1 == (m : Int)) = false := by simp; omega
  have e2 : (((j * v + d : Nat) : Int) + 1) % (v : Int) = ((d + 1 : Nat) : Int) := by
   rw [show ((j * v + d : Nat) : Int) + 1 = ((d + 1 + j * v : Nat) : Int) by omega, ← Int.natCast_emod, Nat.add_mul_mod_self_right, Nat.mod_eq_of_lt hd]
  rw [e1, e2]
  simp
  omega
theorem wrapN_mul (m v : Nat) (j : Nat) (hv : 1 ≤ v) (hm : (j + 1) * v < m) : wrapN m v ((j + 1) * v) = wrapN m v (j * v) ++ [(((j + 1) * v : Nat) : Int)] := by
 obtain ⟨d, rfl⟩ : ∃ d, v = d + 1 := ⟨v - 1, by omega⟩
 have e : (j + 1) * (d + 1) = j * (d + 1) + d + 1 := by rw [Nat.add_mul]; omega
 have hz : ((((j + 1) * (d + 1) : Nat) : Int)) % ((d + 1 : Nat) : Int) = 0 := by rw [← Int.natCast_emod, Nat.mul_mod_left]; rfl
 rw [e] at hm hz ⊢
 rw [wrapN_succ, wrapN_gap m (d + 1) j d (by omega) (by omega), if_pos]
 ·rfl
 ·rw [show ((j * (d + 1) + d : Nat) : Int) + 1 = ((j * (d + 1) + d + 1 : Nat) : Int) by omega, hz]
  simp
theorem wrapN_last (m v : Nat) (j : Nat) (h0 : j * v < m) (hm : m ≤ (j + 1) * v) : wrapN m v m = wrapN m v (j * v) ++ [(m : Int)] := by
 obtain ⟨k, rfl⟩ : ∃ k, m = k + 1 := ⟨m - 1, by omega⟩
 rw [Nat.add_mul] at hm
 rw [wrapN_succ, if_pos (by simp)]
 have := wrapN_gap (k + 1) v j (k - j * v) (by omega) (by omega)
 rw [show j * v + (k - j * v) = k by omega] at this
 rw [this]
 rfl
theorem wrapN_le (n w : Int) (k : Nat) : (wrapN n w k).length ≤ k := by
 unfold wrapN
 refine Nat.le_trans (List.length_filter_le _ _) ?_
 simp
set_option maxHeartbeats 1000000 in
theorem nwrap13_any (n wd : Int) (w : World) :
 Calls Try.prog 16 #[.int .i64 n, .int .i64 wd] w fun ed w' => Rowed w w.heap.size 3 (ints .i64 (wrapI n wd)) ed w' := by
 by_cases hb : n < 1 ∨ wd < 1 ∨ 4000 < n
 ·have HW : wrapI n wd = [] := by rw [wrapI, if_pos hb]
  rw [HW]
  rcases h1 : decide (n < 1) with _ | _
  ·rcases h3 : decide (n > 4000) with _ | _
   ·have h2 : decide (wd < 1) = true := by simp at h1 h3 ⊢; omega
    clear hb HW
    go_enter Try.func16, Try.ntmps16
    go_wp2
    go_ret
    exact ⟨_, rfl, Own.empty _ _ _, Below.refl _ _⟩
   ·clear hb HW
    go_enter Try.func16, Try.ntmps16
    go_wp2
    go_ret
    exact ⟨_, rfl, Own.empty _ _ _, Below.refl _ _⟩
  ·clear hb HW
   go_enter Try.func16, Try.ntmps16
   go_wp2
   go_ret
   exact ⟨_, rfl, Own.empty _ _ _, Below.refl _ _⟩
 ·have HW : wrapI n wd = wrapN n wd n.toNat := by rw [wrapI, if_neg hb]
  rw [HW]
  obtain ⟨m, rfl⟩ : ∃ m : Nat, n = m := ⟨n.toNat, by omega⟩
  obtain ⟨v, rfl⟩ : ∃ v : Nat, wd = v := ⟨wd.toNat, by omega⟩
  have hm0 : 1 ≤ m := by omega
  have hm4 : m ≤ 4000 := by omega
  have hv0 : 1 ≤ v := by omega
  have d1 : decide ((m : Int) < 1) = false := by simp; omega
  have d2 : decide ((v : Int) < 1) = false := by simp; omega
  have d3 : decide ((m : Int) > 4000) = false := by simp; omega
  rw [Int.toNat_natCast]
  clear hb HW
  go_enter Try.func16, Try.ntmps16
  go_wp2
  go_loopw [6, 5] (fun bv ov wr => ∃ j b : Nat, bv = .int .i64 (b : Int) ∧ Hid (b = (j + 1) * v ∧ j * v < m) ∧ Hid (Own wr w.heap.size 3 ov (ints .i64 (wrapN m v (j * v)))) ∧ Hid (Below w.heap.size w wr)) (fun bv _ _ => m - (intOf bv).toNat)
  case atStart => exact ⟨0, v, rfl, Lib.hid ⟨by omega, by omega⟩, Lib.hid (by rw [Nat.zero_mul]; exact Own.empty _ _ _), Lib.hid (Below.refl _ _)⟩
  case round =>
   obtain ⟨j, b, rfl, HJ, HO, HB⟩ := hrel
   have HLE : Hid ((wrapN m v (j * v)).length ≤ 4000) := Lib.hid (by have := wrapN_le m v (j * v); have := HJ.out.2; omega)
   by_cases hlt : b < m
   ·have HS : Hid (wrapN m v b = wrapN m v (j * v) ++ [(b : Int)]) := Lib.hid (by rw [HJ.out.1]; exact wrapN_mul m v j hv0 (by rw [← HJ.out.1]; exact hlt))
    have hvb : v ≤ b := by
     have := HJ.out.1
     rw [Nat.add_mul] at this
     omega
    go_wp2_with (first
     | (at_builtin; refine app_lit intsT w wr w.heap.size _ _ #[.int .i64 (b : Int)] 1 _ (ints .i64 (wrapN m v (j * v))) rfl rfl rfl rfl HO.out (by simp [Value.oneCell']) HB.out HB.out.size (by unfold maxLen; have := HLE.out; simp [ints]; omega) (by have := HLE.out; simp [ints]; omega) ?_; intro v2 w2 o2 b2 _ _; have O2 := Lib.hid o2; have B2 := Lib.hid b2; clear o2 b2)
     | fail)
    go_roundw
    case rel =>
     refine ⟨j + 1, b + v, by go_num, Lib.hid ⟨by rw [HJ.out.1, Nat.add_mul (j + 1) 1 v, Nat.one_mul], by rw [← HJ.out.1]; exact hlt⟩, Lib.hid ?_, B2⟩
     rw [← HJ.out.1, HS.out]
     simpa [ints] using O2.out
    case measure => simp [intOf]; omega
   ·have HS : Hid (wrapN m v m = wrapN m v (j * v) ++ [(m : Int)]) := Lib.hid (wrapN_last m v j HJ.out.2 (by rw [← HJ.out.1]; omega))
    go_wp2_with (first
     | (at_builtin; refine app_lit intsT w wr w.heap.size _ _ #[.int .i64 (m : Int)] 1 _ (ints .i64 (wrapN m v (j * v))) rfl rfl rfl rfl HO.out (by simp [Value.oneCell']) HB.out HB.out.size (by unfold maxLen; have := HLE.out; simp [ints]; omega) (by have := HLE.out; simp [ints]; omega) ?_; intro v2 w2 o2 b2 _ _; have O2 := Lib.hid o2; have B2 := Lib.hid b2; clear o2 b2)
     | fail)
    go_ret
    exact ⟨_, rfl, by rw [HS.out]; simpa [ints] using O2.out, B2.out⟩
set_option maxHeartbeats 1000000 in
theorem nlines13_any (A : Option Addr) (l : List Int) (c : Nat) (n : Int) (w : World) (h : Lies w w.heap.size A (ints .i64 l)) (hl : l.length ≤ 10000) :
 Calls Try.prog 9 #[.slice A l.length c, .int .i64 n] w (RowedL w (linesE l n) (linesR l n)) := by
 have H := Lib.hid h
 clear h
 rcases hr : rightI l n with _ | _
 ·have HP : linesE l n = [] := by rw [linesE, hr]; rfl
  have HE : linesR l n = 3 := by rw [linesR, hr]; rfl
  rw [HP, HE]
  clear HP HE
  go_enter Try.func9, Try.ntmps9
  go_wp2_with fail
  refine (nright13_ok A l c n w H.out (by omega)).mono ?_
  rintro e w1 ⟨rfl, rfl⟩
  rw [hr]
  go_wp2
  go_ret2
  exact ⟨_, rfl, OwnN.empty _ _ _ _, Below.refl _ _⟩
 ·have HP : linesE l n = linesI l := by rw [linesE, hr]; rfl
  have HE : linesR l n = 0 := by rw [linesR, hr]; rfl
  rw [HP, HE]
  clear HP HE
  go_enter Try.func9, Try.ntmps9
  go_wp2_with fail
  refine (nright13_ok A l c n w H.out (by omega)).mono ?_
  rintro e w1 ⟨rfl, rfl⟩
  rw [hr]
  clear hr
  have HZ : Hid (∀ c : Nat, (madeCells (Value.agg #[.int .i64 0, .int .i64 0]).cells (c * 2)).toList = List.replicate (c * 2) (Value.int .i64 0)) := Lib.hid fun c => made_two _ c
  go_wp2_with (first
   | (refine make_rowN spT w w w.heap.size _ _ _ _ l.length rfl rfl rfl rfl (Below.refl _ _) (Nat.le_refl _) (by omega) (by unfold maxLen; omega) ?_; intro w1 o1 b1 _; rw [HZ.out] at o1; have O1 := Lib.hid o1; have B1 := Lib.hid b1; clear o1 b1)
   | fail)
  go_loopw [19, 7] (fun iv lv wr => ∃ k : Nat, k ≤ l.length ∧ iv = .int .i64 k ∧ lv = .int .i64 (beginI l k) ∧ Hid (OwnN wr w.heap.size 29 2 (.slice (some ⟨w.heap.size, 0, none⟩) l.length l.length) l.length (prC ((linesI l).take k) ++ List.replicate ((l.length - k) * 2) (.int .i64 0))) ∧ Hid (Below w.heap.size w wr)) (fun iv _ _ => l.length - (intOf iv).toNat)
  case atStart => exact ⟨0, by omega, rfl, rfl, Lib.hid (by simpa [prC] using O1.out), B1⟩
  case round =>
   obtain ⟨k, hk, rfl, rfl, HO, HB⟩ := hrel
   obtain ⟨a, ha⟩ : ∃ a, beginI l k = a := ⟨_, rfl⟩
   rw [ha]
   by_cases hlt : k < l.length
   ·obtain ⟨p, rfl, _, hc⟩ := (H.out.below HB.out).int hlt
    have HN := Lib.hid (lines_next l hlt)
    have HBS : Hid (beginI l (k + 1) = l[k]) := Lib.hid (by rw [begin_succ, getD_at hlt])
    obtain ⟨x, hx⟩ : ∃ x, l[k] = x := ⟨_, rfl⟩
    rw [hx] at hc HN HBS
    rw [ha] at HN
    have HXX := Lib.hid hx
    have k0 : (0 : Int) ≤ (k : Int) := by omega
    have k1 : (k : Int) < (l.length : Int) := by omega
    have HPL : Hid ((prC ((linesI l).take k)).length = k * 2) := Lib.hid (by rw [prC_length, List.length_take, linesI_length]; omega)
    clear hx ha
    go_wp2_with (first
     | (refine store_two w wr w.heap.size _ _ w.heap.size (k * 2) l.length l.length (.int .i64 a) (.int .i64 x) _ rfl rfl rfl (by kernel_rfl) rfl rfl rfl rfl HO.out (by omega) HB.out ?_; intro w3 o3 b3; have O3 := Lib.hid o3; have B3 := Lib.hid b3; clear o3 b3)
     | fail)
    go_roundw
    case rel =>
     refine ⟨k + 1, by omega, by go_num, by rw [HBS.out], Lib.hid ?_, B3⟩
     have := O3.out
     rw [fill_two HPL.out hlt] at this
     rw [HN.out, prC_append]
     exact this
    case measure => simp [intOf]; omega
   ·obtain rfl : k = l.length := by omega
    clear ha
    go_wp2
    go_ret2
    refine ⟨_, rfl, ?_, HB.out⟩
    have := HO.out
    rw [List.take_of_length_le (by rw [linesI_length]; exact Nat.le_refl _), Nat.sub_self, Nat.zero_mul, List.replicate_zero, List.append_nil] at this
    rw [linesI_length]
    exact this
set_option maxHeartbeats 1000000 in
theorem search_any (N : Nat) (caps : List Value) (hN : ∀ (xs : Array Value) (u : World), Sem.run Try.prog (callFunc N xs) u = .ok (.enter N xs) u) (n : Nat) (p : Nat → Bool) (w : World) (hn : n ≤ 1000000)
 (hf : ∀ (i : Nat) (u : World), i < n → Below w.heap.size w u → Calls Try.prog N ([Value.int .i64 (i : Int)] ++ caps).toArray u fun ed w' => ed = .returned (.bool (p i)) ∧ Below w.heap.size u w') (hm : ∀ i j, i ≤ j → j < n → p i = true → p j = true) :
 Calls Try.prog 24 #[.int .i64 (n : Int), .func (.func N) #[] caps.toArray] w fun ed w' => ∃ k : Nat, ed = .returned (.int .i64 (k : Int)) ∧ k ≤ n ∧ (∀ i, i < k → p i = false) ∧ (∀ i, k ≤ i → i < n → p i = true) ∧ Below w.heap.size w w' := by
 have HF := Lib.hid hf
 have HM := Lib.hid hm
 clear hf hm
 go_enter Try.func24, Try.ntmps24
 go_wp2
 go_loopw [5, 6] (fun iv jv wr => ∃ i j : Nat, iv = .int .i64 i ∧ jv = .int .i64 j ∧ i ≤ j ∧ j ≤ n ∧ Hid (∀ q, q < i → p q = false) ∧ Hid (∀ q, j ≤ q → q < n → p q = true) ∧ Hid (Below w.heap.size w wr)) (fun iv jv _ => (intOf jv).toNat - (intOf iv).toNat)
 case atStart => exact ⟨0, n, rfl, rfl, by omega, by omega, Lib.hid (fun q hq => by omega), Lib.hid (fun q h1 h2 => by omega), Lib.hid (Below.refl _ _)⟩
 case round =>
  obtain ⟨i, j, rfl, rfl, hij, hjn, HI, HJ, HB⟩ := hrel
  by_cases hlt : i < j
  ·obtain ⟨h, hh⟩ : ∃ h, (i + j) / 2 = h := ⟨_, rfl⟩
   have h1 : i ≤ h := by omega
   have h2 : h < j := by omega
   have HC := Lib.hid (HF.out h wr (by omega) HB.out)
   have hw : ((i : Int) + (j : Int)) / 2 = (h : Int) := by omega
   obtain ⟨b, hb⟩ : ∃ b, p h = b := ⟨_, rfl⟩
   rw [hb] at HC
   have HP := Lib.hid hb
   clear hh hb
   go_wp2_with fail
   refine HC.out.mono ?_
   rintro e w2 ⟨rfl, b2⟩
   have B2 := Lib.hid (HB.out.trans b2)
   clear b2 hw
   rcases b with _ | _
   ·go_wp2
    go_roundw
    case rel => exact ⟨h + 1, j, by go_num, rfl, by omega, by omega, Lib.hid (fun q hq => by
     cases hpq : p q with
     | false => rfl
     | true => exact (HM.out q h (by omega) (by omega) hpq).symm.trans HP.out), HJ, B2⟩
    case measure => simp [intOf]; omega
   ·go_wp2
    go_roundw
    case rel => exact ⟨i, h, rfl, rfl, by omega, by omega, HI, Lib.hid (fun q h3 h4 => HM.out h q h3 h4 HP.out), B2⟩
    case measure => simp [intOf]; omega
  ·obtain rfl : i = j := by omega
   go_wp2
   go_ret
   exact ⟨i, rfl, hjn, HI.out, HJ.out, HB.out⟩
theorem breaks_le {l : List Int} (h : risesFrom 0 l = true) {i j : Nat} (hij : i ≤ j) (hj : j < l.length) : l.getD i 0 ≤ l.getD j 0 := by
 by_cases e : i = j
 ·rw [e]; exact Int.le_refl _
 ·have := breaks_lt h (j - i - 1) i (by omega)
  rw [show i + 1 + (j - i - 1) = j by omega] at this
  omega
theorem lineOf_found {l : List Int} {i : Int} {k : Nat} (h0 : 0 ≤ i) (hk : k ≤ l.length) (h1 : ∀ q, q < k → decide (i < l.getD q 0) = false) (h2 : ∀ q, k ≤ q → q < l.length → decide (i < l.getD q 0) = true) :
 lineOf l i = if k = l.length then -1 else (k : Int) := by
 unfold lineOf
 rw [if_neg (by omega)]
 by_cases e : k = l.length
 ·rw [if_pos e, List.find?_eq_none.2 (fun j hj => by have := h1 j (by rw [e]; exact List.mem_range.1 hj); simpa using this)]
 ·rw [if_neg e]
  have : (List.range l.length).find? (fun k => decide (i < l.getD k 0)) = some k := by
   rw [List.find?_range_eq_some]
   refine ⟨h2 k (Nat.le_refl _) (by omega), by simp; omega, fun j hj => by rw [h1 j hj]; rfl⟩
  rw [this]
set_option maxHeartbeats 1000000 in
theorem nof1_any (A : Option Addr) (l : List Int) (c : Nat) (i : Int) (p q m : Nat) (hm : m < l.length) (u : World) (h : Lies u u.heap.size A (ints .i64 l)) (hp : u.cell? ⟨p, 0, none⟩ = some (.int .i64 i)) (hq : u.cell? ⟨q, 0, none⟩ = some (.slice A l.length c)) (_ : l.length ≤ 1000000) :
 Calls Try.prog 25 ([Value.int .i64 (m : Int)] ++ [Value.pointer (some ⟨p, 0, none⟩), Value.pointer (some ⟨q, 0, none⟩)]).toArray u fun ed w' => ed = .returned (.bool (decide (i < l.getD m 0))) ∧ Below u.heap.size u w' := by
 obtain ⟨x, hx⟩ : ∃ x, l.getD m 0 = x := ⟨_, rfl⟩
 rw [hx]
 obtain ⟨a, rfl, _, hc⟩ := h.int hm
 rw [getD_at hm] at hx
 rw [hx] at hc
 clear hx h
 have k0 : (0 : Int) ≤ (m : Int) := by omega
 have k1 : (m : Int) < (l.length : Int) := by omega
 go_enter Try.func25, Try.ntmps25
 go_wp2_with fail
 go_quiet (fail)
 go_wp2
 go_ret
 exact ⟨rfl, below_drawn (Below.refl _ _) _⟩
set_option maxHeartbeats 1000000 in
theorem nof13_any (A : Option Addr) (l : List Int) (c : Nat) (i : Int) (w : World) (h : Lies w w.heap.size A (ints .i64 l)) (hl : l.length ≤ 10000) (hr : risesFrom 0 l = true) :
 Calls Try.prog 13 #[.slice A l.length c, .int .i64 i] w fun ed w' => ed = .returned (.int .i64 (lineOf l i)) ∧ Below w.heap.size w w' := by
 obtain ⟨w1, hw1⟩ : ∃ u, w.alloc (.cells #[.slice A l.length c] 22) = u := ⟨_, rfl⟩
 obtain ⟨w0, hw0⟩ : ∃ u, w1.alloc (.cells #[.int .i64 i] 3) = u := ⟨_, rfl⟩
 have hsz : w1.heap.size = w.heap.size + 1 := by rw [← hw1]; simp
 have B1 : Below w.heap.size w w1 := hw1 ▸ below_alloc w _
 have B0 : Below w.heap.size w w0 := below_then B1 (hw0 ▸ below_alloc w1 _)
 have S1 : ∀ u, Below w1.heap.size w1 u → u.cell? ⟨w.heap.size, 0, none⟩ = some (.slice A l.length c) := fun u hu => boxed (hw1 ▸ hu) rfl
 have S0 : ∀ u, Below w0.heap.size w0 u → u.cell? ⟨w1.heap.size, 0, none⟩ = some (.int .i64 i) := fun u hu => boxed (hw0 ▸ hu) rfl
 have D0 : Below w1.heap.size w1 w0 := hw0 ▸ below_alloc w1 _
 rw [hsz] at S0
 have H := Lib.hid h
 have HR := Lib.hid hr
 have HB0 := Lib.hid B0
 have HS0 := Lib.hid S0
 have HS1 := Lib.hid S1
 have HD0 := Lib.hid D0
 have HW0 := Lib.hid hw0
 have HW1 := Lib.hid hw1
 have c0 := S0 w0 (Below.refl _ _)
 have c1 := S1 w0 D0
 clear h hr B0 S0 S1 D0 B1 hw0 hw1
 rcases hi : decide (i < 0) with _ | _
 ·have hi0 : 0 ≤ i := by simpa using hi
  have HF : Hid (∀ k, k ≤ l.length → (∀ q, q < k → decide (i < l.getD q 0) = false) → (∀ q, k ≤ q → q < l.length → decide (i < l.getD q 0) = true) → lineOf l i = if k = l.length then -1 else (k : Int)) := Lib.hid fun k hk h1 h2 => lineOf_found hi0 hk h1 h2
  go_enter Try.func13, Try.ntmps13
  go_upto_region 1 with fail
  rw [HW1.out, HW0.out]
  go_wp2_with fail
  refine (search_any 25 [Value.pointer (some ⟨w.heap.size + 1, 0, none⟩), Value.pointer (some ⟨w.heap.size, 0, none⟩)] (call_ok Try.func25 (by kernel_rfl) (by kernel_rfl)) l.length (fun m => decide (i < l.getD m 0)) w0 (by omega)
   (fun m u hm hu => ?_) (fun a b hab hb => ?_)).mono ?_
  ·have hu' := below_then HB0.out hu
   exact (nof1_any A l c i (w.heap.size + 1) w.heap.size m hm u (H.out.up hu') (HS0.out u hu) (HS1.out u (HD0.out.trans (hu.mono HD0.out.size))) (by omega)).mono fun _ _ ⟨e1, b1⟩ => ⟨e1, b1.mono hu.size⟩
  ·intro ha
   have hle := breaks_le HR.out hab hb
   have ha' : i < l.getD a 0 := of_decide_eq_true ha
   exact decide_eq_true (by omega)
  ·rintro e w2 ⟨k, rfl, hk, p1, p2, b2⟩
   have HB2 := Lib.hid (below_then HB0.out b2)
   have c2 := HS1.out w2 (HD0.out.trans (b2.mono HD0.out.size))
   have HV := Lib.hid (HF.out k hk p1 p2)
   clear p1 p2 b2 c0 c1
   by_cases e : k = l.length
   ·have d1 : ((k : Int) == (l.length : Int)) = true := by simp [e]
    have HE := Lib.hid e
    clear e
    go_wp2
    go_ret
    exact ⟨ret_int (by rw [HV.out, if_pos HE.out]), HB2.out⟩
   ·have d1 : ((k : Int) == (l.length : Int)) = false := by simp; omega
    have HE := Lib.hid e
    clear e
    go_wp2
    go_ret
    exact ⟨ret_int (by rw [HV.out, if_neg HE.out]), HB2.out⟩
 ·have HF : Hid (lineOf l i = -1) := Lib.hid (by unfold lineOf; rw [if_pos (by simpa using hi)])
  go_enter Try.func13, Try.ntmps13
  go_upto_region 1 with fail
  rw [HW1.out, HW0.out]
  go_wp2
  go_ret
  exact ⟨ret_int HF.out.symm, HB0.out⟩
end Go.Proofs.Ytadfleopbpomfaa
namespace Go.Proofs.Ytadfleopbpomfaa
open Go.RowKit
attribute [local go_sem] Oper.semAt_some
def bwAt (l : List Int) (j : Nat) : Nat × Int := (l.length - 1 - j, l.getD (l.length - 1 - j) 0)
def bwTo (l : List Int) (k : Nat) : List (Nat × Int) := (List.range k).map (bwAt l)
theorem bwTo_succ (l : List Int) (k : Nat) : bwTo l (k + 1) = bwTo l k ++ [bwAt l k] := by simp [bwTo, List.range_succ]
theorem bwTo_length (l : List Int) (k : Nat) : (bwTo l k).length = k := by simp [bwTo]
set_option maxHeartbeats 1000000 in
theorem bw_in (F : Fence) (n : Nat) (hF : F.fn 28) (hro : F.round = none) (A : Option Addr) (len cap : Nat) (w : World) :
 CallsIn F n Try.prog 28 #[.slice A len cap] w fun e w' => e = .returned (.func (.func 34) #[] #[.pointer (some ⟨w.heap.size, 0, none⟩)]) ∧ w' = w.alloc (.cells #[.slice A len cap] 22) := by
 refine callsIn_of_wp Try.func28 rfl hF ?_ hro
 simp only [Try.ntmps28, List.size_toArray, List.length_cons, List.length_nil, Nat.reduceAdd, Nat.reduceSub, Array.replicate_succ, Array.replicate_zero, List.push_toArray, List.append_toArray, List.nil_append, List.cons_append]
 gi_wp2
 go_ret
 exact ⟨rfl, rfl⟩
end Go.Proofs.Ytadfleopbpomfaa
namespace Go.Proofs.Ytadfleopbpomfaa
open Go.RowKit
attribute [local go_sem] Oper.semAt_some
def KB (n₁ b : Nat) (u u' : World) : Prop := Below n₁ u u' ∧ u'.heap[b]? = u.heap[b]?
theorem KB.refl (n₁ b : Nat) (u : World) : KB n₁ b u u := ⟨Below.refl _ _, rfl⟩
theorem KB.trans {n₁ b : Nat} {u v z : World} (h : KB n₁ b u v) (k : KB n₁ b v z) : KB n₁ b u z := ⟨h.1.trans k.1, k.2.trans h.2⟩
theorem kb_t {n₁ b : Nat} {u v z : World} (h : KB n₁ b u v) (k : KB n₁ b v z) : KB n₁ b u z := h.trans k
theorem kb_b {n₁ b : Nat} {w : World} (hn : n₁ ≤ w.heap.size) (hb : b < w.heap.size) (W : World) (l : Nat) (o o' : Obj) (hl : w.heap.size ≤ l) (h : W.heap[l]? = some o) (h1 : o.isCells = false) (h2 : o.isWalk = false) : KB n₁ b W (W.putObj l o') :=
 ⟨belowK_b hn W l o o' hl h h1 h2, World.putObj_heap_other (by omega)⟩
set_option maxRecDepth 100000 in
set_option maxHeartbeats 2000000 in
theorem bw1K_in (F : Fence) (n : Nat) (hF : F.fn 34) (hro : F.round = none) (hn : 1 ≤ n) (l0 Bs n₁ cap : Nat) (A : Option Addr) (l : List Int) (hl : l.length ≤ 1000000) (J Jx : List (Nat × Int) → World → Prop)
 (hY : ∀ k W, k < l.length → J (bwTo l k) W → YieldAt F (n - 1) Try.prog l0 #[.int .i64 ((bwAt l k).1 : Int), .int .i64 (bwAt l k).2] W fun e W' =>
  (e = .returned (.bool true) ∧ J (bwTo l (k + 1)) W' ∧ KB n₁ Bs W W') ∨ (e = .returned (.bool false) ∧ Jx (bwTo l (k + 1)) W'))
 (W : World) (hBs : W.cell? ⟨Bs, 0, none⟩ = some (.slice A l.length cap)) (hL : Lies W n₁ A (ints .i64 l)) (h0 : J [] W) :
 CallsIn F n Try.prog 34 #[.func (.yield l0) #[] #[], .pointer (some ⟨Bs, 0, none⟩)] W fun e W' => (∃ v, e = .returned v) ∧
  ((∃ ys, ys = bwTo l l.length ∧ J ys W') ∨ (∃ pre, (∃ k, k ≤ l.length ∧ pre = bwTo l k) ∧ Jx pre W')) := by
 have HY := Lib.hid hY
 have HL := Lib.hid hL
 have HB := Lib.hid hBs
 have H0 := Lib.hid h0
 clear hY hL h0
 refine callsIn_of_wp Try.func34 rfl hF ?_ hro
 simp only [Try.ntmps34, List.size_toArray, List.length_cons, List.length_nil, Nat.reduceAdd, Nat.reduceSub, Array.replicate_succ, Array.replicate_zero, List.push_toArray, List.append_toArray, List.nil_append, List.cons_append]
 have hw0 : IntKind.i64.wrap ((l.length : Int) - 1) = (l.length : Int) - 1 := IntWalk.i64_in _ (by omega)
 gi_wp2
 gi_loopw [3] (fun i wr => ∃ k : Nat, k ≤ l.length ∧ i = .int .i64 ((l.length : Int) - 1 - (k : Int)) ∧ Hid (J (bwTo l k) wr) ∧ Hid (KB n₁ Bs W wr))
  (fun i _ => (intOf i + 1).toNat)
 case atStart => exact ⟨0, Nat.zero_le _, by simp, H0, Lib.hid (KB.refl _ _ _)⟩
 case round =>
  obtain ⟨k, hk, rfl, HJ, HBr⟩ := hrel
  by_cases hlt : k < l.length
  ·obtain ⟨m, hm⟩ : ∃ m, l.length - 1 - k = m := ⟨_, rfl⟩
   have hmz : (l.length : Int) - 1 - (k : Int) = (m : Int) := by omega
   rw [hmz]
   have hml : m < l.length := by omega
   obtain ⟨p, rfl, _, hc⟩ := (HL.out.below HBr.out.1).int hml
   have hc' : wr.cell? (p.add m) = some (.int .i64 (l.getD m 0)) := by rw [getD_at hml]; exact hc
   have hbc := (World.cell?_of_block (a := ⟨Bs, 0, none⟩) HBr.out.2).trans HB.out
   have b0 : (0 : Int) ≤ (m : Int) := by omega
   have b1 : (m : Int) < (l.length : Int) := by omega
   have hq := HY.out k wr hlt HJ.out
   rw [show bwAt l k = (m, l.getD m 0) by rw [bwAt, hm]] at hq
   obtain ⟨fn, tmps, assign, body, hy, hR⟩ := hq
   dsimp only at hy
   have hw1 : IntKind.i64.wrap ((m : Int) - 1) = (l.length : Int) - 1 - ((k + 1 : Nat) : Int) := by rw [IntWalk.i64_in _ (by omega)]; omega
   obtain ⟨x, hx⟩ : ∃ x, l.getD m 0 = x := ⟨_, rfl⟩
   rw [hx] at hc' hy
   have HM := Lib.hid hm
   clear hc hmz hm hBs hx
   have HR := Lib.hid hR
   clear hR
   gi_wp2
   refine HR.out.mono ?_
   rintro e W3 (⟨rfl, j3, k3⟩ | ⟨rfl, j3⟩)
   ·have HJ3 := Lib.hid j3
    have HK3 := Lib.hid (HBr.out.trans k3)
    clear j3 k3
    gi_wp2
    go_roundw
    case rel => exact ⟨k + 1, by omega, by first | rfl | trivial, HJ3, HK3⟩
    case measure => have := HM.out; simp [intOf]; omega
   ·have HJ3 := Lib.hid j3
    clear j3
    gi_wp2
    refine bodyPost_ret (results_none rfl _ _ _) rfl ?_
    exact ⟨⟨_, rfl⟩, .inr ⟨_, ⟨k + 1, by omega, rfl⟩, HJ3.out⟩⟩
  ·obtain rfl : k = l.length := by omega
   have hmz : (l.length : Int) - 1 - (l.length : Int) = -1 := by omega
   rw [hmz]
   clear hBs hmz
   gi_wp2
   go_end0
   exact ⟨⟨_, rfl⟩, .inl ⟨_, rfl, HJ.out⟩⟩
theorem bwK_stops (p : Nat × Int → Prop) (F : Fence) (n : Nat) (hF : F.fn 34) (hro : F.round = none) (hn : 1 ≤ n) (Bs n₁ cap : Nat) (A : Option Addr) (l : List Int) (hl : l.length ≤ 1000000) (w : World) (hBl : Bs < w.heap.size) (hn₁ : n₁ ≤ w.heap.size)
 (hc : w.cell? ⟨Bs, 0, none⟩ = some (.slice A l.length cap)) (hL : Lies w n₁ A (ints .i64 l)) (hp : ∀ k, k < l.length → p (bwAt l k)) :
 SeqStopsK F n Try.prog 34 #[.pointer (some ⟨Bs, 0, none⟩)] (fun x : {x : Nat × Int // p x} => #[Value.int .i64 (x.1.1 : Int), Value.int .i64 x.1.2]) (KB n₁ Bs) (fun ys => ys.map Subtype.val = bwTo l l.length)
  (fun pre => ∃ k, k ≤ l.length ∧ pre.map Subtype.val = bwTo l k) l.length w := fun l0 J Jx W hW _ _ hY h0 => by
 refine (bw1K_in F n hF hro hn l0 Bs n₁ cap A l hl (fun ys u => ∃ xs : List {x : Nat × Int // p x}, xs.map Subtype.val = ys ∧ J xs u) (fun ys u => ∃ xs : List {x : Nat × Int // p x}, xs.map Subtype.val = ys ∧ Jx xs u)
  (fun k u hk hj => ?_) W ((hW.cell (p := ⟨Bs, 0, none⟩) (by show Bs < _; omega)).trans hc) (hL.below (hW.mono hn₁)) (by exact ⟨[], rfl, h0⟩)).mono ?_
 ·obtain ⟨xs, e1, hj⟩ := hj
  obtain ⟨fn, tmps, assign, body, hy, hR⟩ := hY xs ⟨bwAt l k, hp k hk⟩ u hj (by rw [← List.length_map (f := Subtype.val), e1, bwTo_length]; exact hk)
  have e2 : (xs ++ [(⟨bwAt l k, hp k hk⟩ : {x : Nat × Int // p x})]).map Subtype.val = bwTo l (k + 1) := by rw [List.map_append, e1, bwTo_succ]; rfl
  refine ⟨fn, tmps, assign, body, hy, RoundIn.mono hR ?_⟩
  rintro e W3 (⟨rfl, j3, k3⟩ | ⟨rfl, j3⟩)
  ·exact .inl ⟨rfl, ⟨_, e2, j3⟩, k3⟩
  ·exact .inr ⟨rfl, ⟨_, e2, j3⟩⟩
 ·rintro e W3 ⟨hv, ⟨ys, e1, xs, e2, hj⟩ | ⟨pre, ⟨k, hk, e1⟩, xs, e2, hj⟩⟩
  ·exact ⟨hv, .inl ⟨xs, e2.trans e1, hj⟩⟩
  ·exact ⟨hv, .inr ⟨xs, ⟨k, hk, e2.trans e1⟩, hj⟩⟩
end Go.Proofs.Ytadfleopbpomfaa
namespace Go.Proofs.Ytadfleopbpomfaa
open Go.RowKit
structure Kpt (p : Int → Bool) (l : List Int) (j : Nat) (cur : List Int) : Prop where
 len : cur.length = l.length
 done : cur.take (l.take j |>.filter p).length = (l.take j).filter p
 rest : cur.drop j = l.drop j
theorem kpt_le (p : Int → Bool) (l : List Int) (j : Nat) : ((l.take j).filter p).length ≤ j := by
 have := List.length_filter_le p (l.take j)
 simp at this; omega
theorem filter_take_succ (p : Int → Bool) (l : List Int) (k : Nat) (h : k < l.length) : (l.take (k + 1)).filter p = if p l[k] then (l.take k).filter p ++ [l[k]] else (l.take k).filter p := by
 rw [take_snoc l k h, List.filter_append]
 cases ho : p l[k] <;> simp [ho]
theorem Kpt.get {p : Int → Bool} {l cur : List Int} {j : Nat} (h : Kpt p l j cur) (hj : j < l.length) : cur[j]? = some l[j] := by
 have := congrArg (·[0]?) h.rest
 simp only [List.getElem?_drop, Nat.add_zero] at this
 rw [this, List.getElem?_eq_getElem hj]
theorem Kpt.skip {p : Int → Bool} {l cur : List Int} {j : Nat} (h : Kpt p l j cur) (hj : j < l.length) (hp : p l[j] = false) : Kpt p l (j + 1) cur ∧ ((l.take (j + 1)).filter p).length = ((l.take j).filter p).length := by
 have hf := filter_take_succ p l j hj
 rw [hp, if_neg (by simp)] at hf
 refine ⟨⟨h.len, by rw [hf]; exact h.done, ?_⟩, by rw [hf]⟩
 rw [← List.drop_drop, ← List.drop_drop, h.rest]
theorem Kpt.keep {p : Int → Bool} {l cur : List Int} {j i : Nat} (h : Kpt p l j cur) (hj : j < l.length) (hp : p l[j] = true) (hi : ((l.take j).filter p).length = i) : Kpt p l (j + 1) (cur.set i l[j]) ∧ ((l.take (j + 1)).filter p).length = i + 1 := by
 have hf := filter_take_succ p l j hj
 have hle := kpt_le p l j
 rw [hp, if_pos rfl] at hf
 have hlen : ((l.take (j + 1)).filter p).length = i + 1 := by rw [hf]; simp [hi]
 have hd := h.done
 rw [hi] at hd
 have hcl := h.len
 refine ⟨⟨by rw [List.length_set, h.len], ?_, ?_⟩, hlen⟩
 ·rw [hlen, List.take_succ_eq_append_getElem (by rw [List.length_set]; omega), List.take_set_of_le (Nat.le_refl _), List.getElem_set_self, hd, hf]
 ·rw [List.drop_set_of_lt (by omega), ← List.drop_drop, ← List.drop_drop, h.rest]
set_option maxHeartbeats 1000000 in
theorem clone_any (A : Option Addr) (l : List Int) (c : Nat) (w : World) (h : Lies w w.heap.size A (ints .i64 l)) (hl : l.length ≤ 1000000) :
 Calls Try.prog 27 #[.slice A l.length c] w fun ed w' => Rowed w w.heap.size 3 (ints .i64 l) ed w' := by
 have H := Lib.hid h
 clear h
 rcases A with _ | p
 ·have : l = [] := by
   rcases l with _ | ⟨x, l⟩
   ·rfl
   ·obtain ⟨p, hp, _⟩ := H.out (by simp); cases hp
  subst this
  have he : ∀ W, (binOp .eql 22 (.slice none 0 c) (.slice none 0 0)).run Try.prog W = .ok (.bool true) W := fun W => Lib.run_eql_slice_nil W _ _ _ _ _ _ _ Try.underlying22
  go_enter Try.func27, Try.ntmps27
  go_wp2
  go_ret
  exact ⟨_, rfl, Own.empty _ _ _, Below.refl _ _⟩
 ·have he : ∀ W, (binOp .eql 22 (.slice (some p) l.length c) (.slice none 0 0)).run Try.prog W = .ok (.bool false) W := fun W => Lib.run_eql_slice_nil W _ _ _ _ _ _ _ Try.underlying22
  go_enter Try.func27, Try.ntmps27
  go_wp2_with (first
   | (at_builtin; refine app_src intsT w (w.alloc (.cells #[] 3)) w.heap.size w.heap.size _ _ _ [] (ints .i64 l) (some p) l.length c rfl rfl rfl rfl (by simp) (Own.ofLit #[] (Nat.le_refl _) (by decide)) (H.out.alloc (Nat.le_refl _) _) (ints_one _ _) (below_alloc _ _) (by simp) (by unfold maxLen; simp; omega) (by simp; omega) ?_; intro v2 w2 o2 b2 _ _; have O2 := Lib.hid o2; have B2 := Lib.hid b2; clear o2 b2)
   | fail)
  go_ret
  exact ⟨_, rfl, by simpa using O2.out, B2.out⟩
end Go.Proofs.Ytadfleopbpomfaa
namespace Go.Proofs.Ytadfleopbpomfaa
open Go.RowKit
theorem grown_of_below {w w' : World} (h : Below w.heap.size w w') (row : Option Nat) : w.grownBy w' row := ⟨h.os, h.tape, h.output, h.size, fun k hk _ => h.block k hk⟩
end Go.Proofs.Ytadfleopbpomfaa
