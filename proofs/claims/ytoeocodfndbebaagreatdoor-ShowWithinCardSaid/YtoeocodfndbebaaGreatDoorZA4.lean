/- Shared texts, shaken for one claim. -/
import Derived.WalkKit
import Derived.OrdersHeld
import Derived.Deep.RegionHeld
import Derived.Deep.MidRow
import Derived.Test.YtoeocodfndbebaaGreatDoorZA1
import Derived.Test.YtoeocodfndbebaaGreatDoorZA2
import Derived.Test.YtoeocodfndbebaaGreatDoorZA3
namespace Go.Proofs.YtoeocodfndbebaaGreatDoor
open Go.RowKit
theorem eq_two (a b c d : Int) (w : World) : (Op.equalIn 10000 82 (.agg #[.int .i64 a, .int .i64 b]) (.agg #[.int .i64 c, .int .i64 d])).run Tryz.prog w = .ok (a == c && b == d) w := by
 have u3 := Tryz.underlying3
 have a3 := Tryz.isAgg3
 have z3 := Tryz.sizeOf3
 rw [show (10000 : Nat) = 9999 + 1 from rfl, Op.equalIn]
 simp only [Sem.run_bind, run_underlying Tryz.underlying82, Result.andThen_ok]
 simp only [Std.Legacy.Range.forIn_eq_forIn_range', Std.Legacy.Range.size, Nat.sub_zero, Nat.add_sub_cancel, Nat.div_one, List.range'_succ, List.range'_zero, List.forIn_cons, List.forIn_nil]
 go_simp
 by_cases h1 : a = c <;> by_cases h2 : b = d <;> simp [h1, h2] <;> go_simp <;> simp [h1, h2]
set_option maxRecDepth 20000 in
set_option maxHeartbeats 1000000 in
theorem shtimes_any (w : World) (k lo hi : Int) (A A' : Option Addr) (n c m c' : Nat) :
 Calls Tryz.prog 51 #[.agg #[.int .i64 k, .slice A n c, .int .i64 lo, .int .i64 hi, .slice A' m c']] w fun e w' => e = .returned (.agg #[.int .i64 lo, .int .i64 hi]) ∧ w.grownBy w' none := by
 have X0 : Hid (Box ((w.alloc (.cells #[.int .i64 k, .slice A n c, .int .i64 lo, .int .i64 hi, .slice A' m c'] 25)).alloc (.cells #[.int .i64 0, .int .i64 0] 82)) (w.heap.size + 1) #[.int .i64 0, .int .i64 0] 82) := Lib.hid (by
  have := Box.new (w.alloc (.cells #[.int .i64 k, .slice A n c, .int .i64 lo, .int .i64 hi, .slice A' m c'] 25)) #[.int .i64 0, .int .i64 0] 82
  rw [World.size_alloc] at this
  exact this)
 have G0 : Hid (w.grownBy ((w.alloc (.cells #[.int .i64 k, .slice A n c, .int .i64 lo, .int .i64 hi, .slice A' m c'] 25)).alloc (.cells #[.int .i64 0, .int .i64 0] 82)) none) := Lib.hid ((grown_new w _ none).trans (grown_new _ _ none))
 go_enter Tryz.func51, Tryz.ntmps51
 go_wp2_with (first
  | (refine store_box _ _ _ (w.heap.size + 1) #[.int .i64 0, .int .i64 0] #[.int .i64 lo, .int .i64 hi] rfl rfl rfl rfl rfl X0.out rfl (by kernel_rfl) (by simp [Value.oneCell']) ?_; intro w1 x1 g1; have X1 := Lib.hid x1; have G1 := Lib.hid (grown_two G0.out g1 (Nat.le_succ _)); clear x1 g1)
  | fail)
 (try simp only [Exit.inBlock, Exit.then])
 exact bodyPost_ret (v := .agg #[.int .i64 lo, .int .i64 hi]) (results_cell_row rfl _ _ (w.heap.size + 1) 82 _ (0, 0) _ rfl X1.out Tryz.underlying82 rfl (by kernel_rfl)) rfl ⟨rfl, G1.out⟩
set_option maxRecDepth 20000 in
set_option maxHeartbeats 1000000 in
theorem shonce_any (w : World) (k lo hi : Int) (A A' : Option Addr) (n c m c' : Nat) :
 Calls Tryz.prog 59 #[.agg #[.int .i64 k, .slice A n c, .int .i64 lo, .int .i64 hi, .slice A' m c']] w fun e w' => e = .returned (.bool (lo == 0 && hi == 0)) ∧ w.grownBy w' none := by
 have heq := fun u => eq_two lo hi 0 0 u
 go_enter Tryz.func59, Tryz.ntmps59
 go_wp2_with fail
 refine (shtimes_any _ k lo hi A A' n c m c').mono ?_
 rintro e w1 ⟨rfl, g1⟩
 have G1 := Lib.hid ((grown_new w _ none).trans g1)
 clear g1
 go_wp2_with fail
 go_ret
 exact ⟨rfl, G1.out⟩
set_option maxRecDepth 20000 in
set_option maxHeartbeats 1000000 in
theorem shcounted_any (w : World) (k lo hi : Int) (A A' : Option Addr) (n c m c' : Nat) :
 Calls Tryz.prog 62 #[.agg #[.int .i64 k, .slice A n c, .int .i64 lo, .int .i64 hi, .slice A' m c']] w fun e w' => e = .returned (.bool (decide (0 ≤ lo) && decide (lo ≤ 20) && (hi == -1 || (decide (lo ≤ hi) && decide (hi ≤ 20))))) ∧ w.grownBy w' none := by
 have G0 : Hid (w.grownBy (w.alloc (.cells #[.int .i64 k, .slice A n c, .int .i64 lo, .int .i64 hi, .slice A' m c'] 25)) none) := Lib.hid (grown_new w _ none)
 rcases h0 : decide (0 ≤ lo) with _ | _
 ·go_enter Tryz.func62, Tryz.ntmps62
  go_wp2
  go_ret
  exact ⟨rfl, G0.out⟩
 rcases h1 : decide (lo ≤ 20) with _ | _
 ·go_enter Tryz.func62, Tryz.ntmps62
  go_wp2
  go_ret
  exact ⟨rfl, G0.out⟩
 rcases h2 : (hi == -1) with _ | _
 ·rcases h3 : decide (lo ≤ hi) with _ | _
  ·go_enter Tryz.func62, Tryz.ntmps62
   go_wp2
   go_ret
   exact ⟨rfl, G0.out⟩
  ·rcases h4 : decide (hi ≤ 20) with _ | _
   ·go_enter Tryz.func62, Tryz.ntmps62
    go_wp2
    go_ret
    exact ⟨rfl, G0.out⟩
   ·go_enter Tryz.func62, Tryz.ntmps62
    go_wp2
    go_ret
    exact ⟨rfl, G0.out⟩
 ·go_enter Tryz.func62, Tryz.ntmps62
  go_wp2
  go_ret
  exact ⟨rfl, G0.out⟩
set_option maxRecDepth 20000 in
set_option maxHeartbeats 4000000 in
theorem equalrg_any (w : World) (B B' : Nat) (A A' : Option Addr) (R R' : List (Int × Int)) (c c' : Nat) (h : Lies w B A (prC R)) (h' : Lies w B' A' (prC R')) (hl : R.length ≤ 9223372036854775807) :
 Calls Tryz.prog 60 #[.slice A R.length c, .slice A' R'.length c'] w fun e w' => e = .returned (.bool (decide (R = R'))) ∧ w.grownBy w' none := by
 have H := Lib.hid h
 have H' := Lib.hid h'
 clear h h'
 by_cases hn : R.length = R'.length
 ·have d0 : ((R.length : Int) != (R'.length : Int)) = false := by simp [hn]
  have d1 : (R.length != R'.length) = false := by simp [hn]
  have HN := Lib.hid hn
  obtain ⟨z, hz⟩ : ∃ z, decide (R = R') = z := ⟨_, rfl⟩
  have HZ := Lib.hid hz
  rw [hz]
  clear hn hz
  go_enter Tryz.func60, Tryz.ntmps60
  go_wp2_with fail
  go_loopw [13] (fun i wr => ∃ k n : Nat, k ≤ R.length ∧ i = .int .i64 k ∧ wr = w.drewN n ∧ Hid (R.take k = R'.take k)) (fun i _ => R.length - (intOf i).toNat)
  case atStart => exact ⟨0, 0, by omega, rfl, rfl, Lib.hid rfl⟩
  case round =>
   obtain ⟨k, n, hk, rfl, rfl, HT⟩ := hrel
   by_cases hlt : k < R.length
   ·have hlt' : k < R'.length := by have := HN.out; omega
    obtain ⟨g, off, rfl, -, c0, c1⟩ := prC_at H.out hlt
    obtain ⟨g', off', rfl, -, c0', c1'⟩ := prC_at H'.out hlt'
    have b0 : (0 : Int) ≤ (k : Int) := by omega
    have b1 : (k : Int) < (R.length : Int) := by omega
    have b2 : (k : Int) < (R'.length : Int) := by omega
    obtain ⟨p, hp⟩ : ∃ x, R[k] = x := ⟨_, rfl⟩
    obtain ⟨p', hp'⟩ : ∃ x, R'[k] = x := ⟨_, rfl⟩
    rw [hp] at c0 c1
    rw [hp'] at c0' c1'
    obtain ⟨p1, p2⟩ := p
    obtain ⟨q1, q2⟩ := p'
    simp only at c0 c1 c0' c1'
    have heq := fun u => eq_rg p1 p2 q1 q2 u
    have HP := Lib.hid hp
    have HP' := Lib.hid hp'
    clear hp hp'
    by_cases he : p1 = q1 ∧ p2 = q2
    ·obtain ⟨rfl, rfl⟩ := he
     have hx : (p1 == p1) = true := by simp
     have hy : (p2 == p2) = true := by simp
     go_wp2_with fail
     go_quiet (fail)
     go_wp2_with fail
     go_roundw
     case rel => exact ⟨k + 1, n + nq, by omega, by go_num, rfl, Lib.hid (by rw [List.take_succ_eq_append_getElem hlt, List.take_succ_eq_append_getElem hlt', HT.out, HP.out, HP'.out])⟩
     case measure => simp [intOf]; omega
    ·have hx : (p1 == q1 && p2 == q2) = false := by simpa using he
     have HF : Hid (z = false) := Lib.hid (by
      rw [← HZ.out]
      refine decide_eq_false fun e => he ?_
      subst e
      have := HP.out.symm.trans HP'.out
      injection this with h1 h2
      exact ⟨h1, h2⟩)
     clear he
     go_wp2_with fail
     go_quiet (fail)
     go_wp2_with fail
     go_ret
     exact ⟨by rw [HF.out]; rfl, grown_draws (grown_draws (grown_refl w none) n) nq⟩
   ·obtain rfl : k = R.length := by omega
    have HF : Hid (z = true) := Lib.hid (by
     rw [← HZ.out]
     refine decide_eq_true ?_
     have := HT.out
     rw [List.take_length, HN.out, List.take_length] at this
     exact this)
    go_wp2_with fail
    go_ret
    exact ⟨by rw [HF.out]; rfl, grown_draws (grown_refl _ _) _⟩
 ·have d0 : ((R.length : Int) != (R'.length : Int)) = true := by simp; omega
  have d1 : (R.length != R'.length) = true := by simpa using hn
  have HF : Hid (decide (R = R') = false) := Lib.hid (decide_eq_false fun e => hn (by rw [e]))
  rw [HF.out]
  clear hn
  go_enter Tryz.func60, Tryz.ntmps60
  go_wp2_with fail
  go_ret
  exact ⟨rfl, grown_refl _ _⟩
end Go.Proofs.YtoeocodfndbebaaGreatDoor
namespace Go.Proofs.YtoeocodfndbebaaGreatDoor
def insB (c : Int) : Bool := decide (0 ≤ c) && decide (c ≤ topR)
theorem turnR_has {R : List (Int × Int)} (hl : R.length ≤ 500) (c : Int) : hasR (turnR R) c = (insB c && !hasR R c) := by
 unfold turnR
 rw [setP_has, setR_has hl]
 show (insB c && !(insB c && hasR R c)) = _
 cases insB c <;> simp
theorem turnR_canon (R : List (Int × Int)) : Canon 0 (turnR R) := setP_canon _
theorem turnR_len {R : List (Int × Int)} (hl : R.length ≤ 500) : (turnR R).length ≤ R.length + 1 := by
 obtain ⟨h1, h2⟩ := (turnR_canon R).lows
 have h3 := sub_length _ (0 :: R.map fun r => r.2 + 1) h1 fun x hx => by
  obtain ⟨g0, g1, g2⟩ := h2 x hx
  have g2 := g2 (x - 1) rfl
  rw [turnR_has hl] at g1 g2
  simp [insB] at g1 g2
  rw [List.mem_cons]
  by_cases h0 : x = 0
  ·exact .inl h0
  ·refine .inr ?_
   have hy := g2 (by omega) (by omega)
   obtain ⟨r, hr, k1, k2⟩ := hasR_iff.1 hy
   refine List.mem_map.2 ⟨r, hr, ?_⟩
   false_or_by_contra
   rename_i hne
   have : hasR R x = true := hasR_iff.2 ⟨r, hr, by omega, by omega⟩
   rw [this] at g1
   simp at g1
 simpa using h3
end Go.Proofs.YtoeocodfndbebaaGreatDoor
namespace Go.Proofs.YtoeocodfndbebaaGreatDoor
open Go
section
variable {P : Program} {ops : Array Oper} {Q : Exit → Act → World → Prop} {md : Region.Mode} {S : World → Prop} {ex : Nat → Bool}
def waits (md : Region.Mode) (ops : Array Oper) : Nat → Nat → Nat → Bool
 | 0, _, _ => false
 | fuel + 1, j, i => match ops[j]? with
  | some o => o.after.any fun e => Region.binds md e && (e.on == i || waits md ops fuel e.on i)
  | none => false
def Closed (md : Region.Mode) (ops : Array Oper) (listed : Array Bool) : Prop :=
 ∀ k o, ops[k]? = some o → listed.getD k false = true → ∀ e ∈ o.after, Region.binds md e = true → listed.getD e.on false = true
theorem closed_none (md : Region.Mode) (ops : Array Oper) (n : Nat) : Closed md ops (Array.replicate n false) := by
 intro k o _ h
 simp only [Array.getD_eq_getD_getElem?, Array.getElem?_replicate] at h
 split at h <;> simp at h
theorem Closed.next {listed : Array Bool} {i : Nat} (h : Closed md ops listed) (hi : i ∈ Region.ready md ops listed) : Closed md ops (listed.setIfInBounds i true) := by
 intro k o hk hl e he hb
 by_cases hki : k = i
 ·subst hki
  obtain ⟨_, o', ho', hall⟩ := mem_ready.1 hi
  obtain rfl : o = o' := Option.some.inj (hk.symm.trans ho')
  exact getD_set_true (hall e he hb)
 ·rw [getD_set_ne false (Ne.symm hki)] at hl
  exact getD_set_true (h k o hk hl e he hb)
theorem Closed.step {listed : Array Bool} (i : Nat) (h : Closed md ops listed) (hi : (Region.ready md ops listed).contains i = true) : Closed md ops (listed.setIfInBounds i true) := h.next (by simpa using hi)
theorem waits_listed {listed : Array Bool} (hc : Closed md ops listed) : ∀ (fuel j i : Nat), (∀ o, ops[j]? = some o → ∀ e ∈ o.after, Region.binds md e = true → listed.getD e.on false = true) → waits md ops fuel j i = true → listed.getD i false = true := by
 intro fuel
 induction fuel with
 | zero => intro j i _ h; cases h
 | succ fuel ih =>
  intro j i hj h
  unfold waits at h
  split at h
  ·rename_i o ho
   obtain ⟨e, he, hb⟩ := Array.any_eq_true'.1 h
   simp only [Bool.and_eq_true, Bool.or_eq_true, beq_iff_eq] at hb
   have hl := hj o ho e he hb.1
   rcases hb.2 with h2 | h2
   ·rw [← h2]; exact hl
   ·exact ih e.on i (fun o' ho' => hc e.on o' ho' hl) h2
  ·cases h
def wpAnyE (P : Program) (md : Region.Mode) (ops : Array Oper) (Q : Exit → Act → World → Prop) (S : World → Prop) (ex : Nat → Bool) : Nat → Array Bool → Act → World → Prop
 | 0, listed, a, w => Region.ready md ops listed = [] ∧ Q .normal a w
 | fuel + 1, listed, a, w =>
  (Region.ready md ops listed = [] → Q .normal a w) ∧
  ∀ i ∈ Region.ready md ops listed, wpOp P ops Q i (fun a' w' => (ex i = false → S w → S w') ∧ wpAnyE P md ops Q S ex fuel (listed.setIfInBounds i true) a' w') a w
theorem wpAny_of_E : ∀ (fuel : Nat) (listed : Array Bool) (a : Act) (w : World), wpAnyE P md ops Q S ex fuel listed a w → wpAny P md ops Q fuel listed a w
 | 0, _, _, _, h => h
 | fuel + 1, _, _, _, h => ⟨h.1, fun i hi => wpOp_mono (fun a' w' h' => wpAny_of_E fuel _ a' w' h'.2) (h.2 i hi)⟩
theorem wpAnyE_first {i : Nat} {oi : Oper} {v : Value} (hi : ops[i]? = some oi) (hsel : ∀ (j : Nat) (o : Oper) cs b, ops[j]? = some o → o.op ≠ .select cs b)
 (hQ : ∀ c a w, Q (.panic c) (a.put oi.dst v) w → Q (.panic c) a w) (hex : ∀ j, ex j = true → waits md ops ops.size j i = true) :
 ∀ (fuel : Nat) (listed : Array Bool) (a : Act) (w : World), Closed md ops listed →
  (∀ j oj, ops[j]? = some oj → j ≠ i → listed.getD j true = false → (∀ e ∈ oj.after, Region.binds md e = true → e.on ≠ i) → oi.apart ops oj = true) →
  i ∈ Region.ready md ops listed → YieldsIf P ops S oi v a → S w →
  wpAnyE P md ops Q S ex fuel (listed.setIfInBounds i true) (a.put oi.dst v) w → wpAnyE P md ops Q S ex (fuel + 1) listed a w := by
 intro fuel
 induction fuel with
 | zero =>
  intro listed a w _ _ hr hy hS H
  refine ⟨fun h => (by rw [h] at hr; cases hr), fun j hj => ?_⟩
  rcases Nat.decEq j i with hji | hji
  ·have := ready_mono hj hji
   rw [H.1] at this
   cases this
  ·subst hji
   exact hy.wpOp hi hS ⟨fun _ h => h, H⟩
 | succ fuel ih =>
  intro listed a w hc hfree hr hy hS H
  refine ⟨fun h => (by rw [h] at hr; cases hr), fun j hj => ?_⟩
  rcases Nat.decEq j i with hji | hji
  ·have hrest := H.2 j (ready_mono hj hji)
   obtain ⟨hjun, oj, hoj, hall⟩ := mem_ready.1 hj
   have hiun := (mem_ready.1 hr).1
   have clash : ∀ {m : Nat}, m = i → listed.getD m false = true → False := fun hm hl => by
    rw [hm] at hl
    simp only [Array.getD_eq_getD_getElem?] at hl hiun
    cases hh : listed[i]? with
    | none => rw [hh] at hl; cases hl
    | some b => rw [hh] at hl hiun; simp only [Option.getD_some] at hl hiun; rw [hl] at hiun; cases hiun
   have hnot : ∀ e ∈ oj.after, Region.binds md e = true → e.on ≠ i := fun e he hb heq => clash heq (hall e he hb)
   have hnex : ex j = false := by
    cases he : ex j with
    | false => rfl
    | true =>
     refine (clash rfl (waits_listed hc _ j i (fun o ho e hee hb => ?_) (hex j he))).elim
     obtain rfl : oj = o := Option.some.inj (hoj.symm.trans ho)
     exact hall e hee hb
   have hput := wpOp_putIf hoj (hfree j oj hoj hji hjun hnot) (fun cs b => hsel i oi cs b hi) (fun cs b => hsel j oj cs b hoj) hQ hy hrest
   refine wpOp_mono (fun a' w' h3 => ⟨h3.2.1, ?_⟩) hput
   refine ih (listed.setIfInBounds j true) a' w' (hc.next hj) ?_ (ready_mono hr (Ne.symm hji)) h3.1 (h3.2.1 hnex hS) ?_
   ·intro k ok hk hki hun hno
    refine hfree k ok hk hki ?_ hno
    rcases Nat.decEq j k with hjk | hjk
    ·rw [getD_set_ne true hjk] at hun; exact hun
    ·subst hjk; exact hjun
   ·rw [Array.setIfInBounds_comm _ _ hji]
    exact h3.2.2
  ·subst hji
   exact hy.wpOp hi hS ⟨fun _ h => h, H⟩
theorem wpAnyE_first_free {i : Nat} {oi : Oper} {v : Value} (hi : ops[i]? = some oi) (hsel : ∀ (j : Nat) (o : Oper) cs b, ops[j]? = some o → o.op ≠ .select cs b)
 (hQ : ∀ c a w, Q (.panic c) (a.put oi.dst v) w → Q (.panic c) a w) :
 ∀ (fuel : Nat) (listed : Array Bool) (a : Act) (w : World),
  (∀ j oj, ops[j]? = some oj → j ≠ i → listed.getD j true = false → (∀ e ∈ oj.after, Region.binds md e = true → e.on ≠ i) → oi.apart ops oj = true) →
  i ∈ Region.ready md ops listed → YieldsIf P ops (fun _ => True) oi v a →
  wpAnyE P md ops Q S ex fuel (listed.setIfInBounds i true) (a.put oi.dst v) w → wpAnyE P md ops Q S ex (fuel + 1) listed a w := by
 intro fuel
 induction fuel with
 | zero =>
  intro listed a w _ hr hy H
  refine ⟨fun h => (by rw [h] at hr; cases hr), fun j hj => ?_⟩
  rcases Nat.decEq j i with hji | hji
  ·have := ready_mono hj hji
   rw [H.1] at this
   cases this
  ·subst hji
   exact hy.wpOp hi trivial ⟨fun _ h => h, H⟩
 | succ fuel ih =>
  intro listed a w hfree hr hy H
  refine ⟨fun h => (by rw [h] at hr; cases hr), fun j hj => ?_⟩
  rcases Nat.decEq j i with hji | hji
  ·have hrest := H.2 j (ready_mono hj hji)
   obtain ⟨hjun, oj, hoj, hall⟩ := mem_ready.1 hj
   have hiun := (mem_ready.1 hr).1
   have hnot : ∀ e ∈ oj.after, Region.binds md e = true → e.on ≠ i := fun e he hb heq => by
    have hl := hall e he hb
    rw [heq] at hl
    simp only [Array.getD_eq_getD_getElem?] at hl hiun
    cases hh : listed[i]? with
    | none => rw [hh] at hl; cases hl
    | some b => rw [hh] at hl hiun; simp only [Option.getD_some] at hl hiun; rw [hl] at hiun; cases hiun
   have hput := wpOp_putIf hoj (hfree j oj hoj hji hjun hnot) (fun cs b => hsel i oi cs b hi) (fun cs b => hsel j oj cs b hoj) hQ hy hrest
   refine wpOp_mono (fun a' w' h3 => ⟨h3.2.1, ?_⟩) hput
   refine ih (listed.setIfInBounds j true) a' w' ?_ (ready_mono hr (Ne.symm hji)) h3.1 ?_
   ·intro k ok hk hki hun hno
    refine hfree k ok hk hki ?_ hno
    rcases Nat.decEq j k with hjk | hjk
    ·rw [getD_set_ne true hjk] at hun; exact hun
    ·subst hjk; exact hjun
   ·rw [Array.setIfInBounds_comm _ _ hji]
    exact h3.2.2
  ·subst hji
   exact hy.wpOp hi trivial ⟨fun _ h => h, H⟩
/-! the moves -/
theorem wpAnyE_take {i : Nat} {oi : Oper} {v : Value} {fuel : Nat} {listed : Array Bool} {a : Act} {w : World} {xs : List Nat} (hi : ops[i]? = some oi)
 (hs : Region.noSelect ops = true) (hf : Region.free md ops listed i = true) (hr : (Region.ready md ops listed).contains i = true) (hx : xs.all (fun j => waits md ops ops.size j i) = true)
 (hQ : ∀ c a w, Q (.panic c) (a.put oi.dst v) w → Q (.panic c) a w) (hy : YieldsIf P ops S oi v a) (hS : S w) (hc : Closed md ops listed)
 (h : Closed md ops (listed.setIfInBounds i true) → wpAnyE P md ops Q S (fun j => xs.contains j) fuel (listed.setIfInBounds i true) (a.put oi.dst v) w) : wpAnyE P md ops Q S (fun j => xs.contains j) (fuel + 1) listed a w := by
 have hr' : i ∈ Region.ready md ops listed := by simpa using hr
 refine wpAnyE_first hi (Region.noSelect_spec hs) hQ (fun j hj => ?_) fuel listed a w hc (Region.free_spec hi hf) hr' hy hS (h (hc.next hr'))
 exact List.all_eq_true.1 hx j (by simpa using hj)
theorem wpAnyE_free {i : Nat} {oi : Oper} {v : Value} {fuel : Nat} {listed : Array Bool} {a : Act} {w : World} (hi : ops[i]? = some oi)
 (hs : Region.noSelect ops = true) (hf : Region.free md ops listed i = true) (hr : (Region.ready md ops listed).contains i = true)
 (hQ : ∀ c a w, Q (.panic c) (a.put oi.dst v) w → Q (.panic c) a w) (hy : YieldsIf P ops (fun _ => True) oi v a) (hc : Closed md ops listed)
 (h : Closed md ops (listed.setIfInBounds i true) → wpAnyE P md ops Q S ex fuel (listed.setIfInBounds i true) (a.put oi.dst v) w) : wpAnyE P md ops Q S ex (fuel + 1) listed a w := by
 have hr' : i ∈ Region.ready md ops listed := by simpa using hr
 exact wpAnyE_first_free hi (Region.noSelect_spec hs) hQ fuel listed a w (Region.free_spec hi hf) hr' hy (h (hc.next hr'))
theorem eY (i : Nat) {oi : Oper} {v : Value} {fuel : Nat} {listed : Array Bool} {a : Act} {w : World} {xs : List Nat} (hS : S w) (hc : Closed md ops listed)
 (h : Closed md ops (listed.setIfInBounds i true) → wpAnyE P md ops Q S (fun j => xs.contains j) fuel (listed.setIfInBounds i true) (a.put oi.dst v) w)
 (hi : ops[i]? = some oi := by rfl) (hQ : ∀ c a w, Q (.panic c) (a.put oi.dst v) w → Q (.panic c) a w := by exact fun _ _ _ h => h)
 (hw : Region.wanted oi (yielded ops a.tmps) = true := by rfl) (hy : ∀ u, S u → (execOp a.eval oi).run P u = .ok (.value v) u := by (intro u hu; (try dsimp only at hu); go_simp; try with_reducible rfl))
 (hs : Region.noSelect ops = true := by kernel_rfl) (hf : Region.free md ops listed i = true := by kernel_rfl) (hr : (Region.ready md ops listed).contains i = true := by kernel_rfl) (hx : xs.all (fun j => waits md ops ops.size j i) = true := by kernel_rfl) :
 wpAnyE P md ops Q S (fun j => xs.contains j) (fuel + 1) listed a w := wpAnyE_take hi hs hf hr hx hQ (.inl ⟨hw, hy⟩) hS hc h
theorem eX (i : Nat) {oi : Oper} {v : Value} {fuel : Nat} {listed : Array Bool} {a : Act} {w : World} (hc : Closed md ops listed)
 (h : Closed md ops (listed.setIfInBounds i true) → wpAnyE P md ops Q S ex fuel (listed.setIfInBounds i true) (a.put oi.dst v) w)
 (hi : ops[i]? = some oi := by rfl) (hQ : ∀ c a w, Q (.panic c) (a.put oi.dst v) w → Q (.panic c) a w := by exact fun _ _ _ h => h)
 (hw : Region.wanted oi (yielded ops a.tmps) = true := by rfl) (hy : ∀ u, True → (execOp a.eval oi).run P u = .ok (.value v) u := by (intro u _; go_simp; try with_reducible rfl))
 (hs : Region.noSelect ops = true := by kernel_rfl) (hf : Region.free md ops listed i = true := by kernel_rfl) (hr : (Region.ready md ops listed).contains i = true := by kernel_rfl) : wpAnyE P md ops Q S ex (fuel + 1) listed a w := wpAnyE_free hi hs hf hr hQ (.inl ⟨hw, hy⟩) hc h
def AllReadyE (P : Program) (md : Region.Mode) (ops : Array Oper) (Q : Exit → Act → World → Prop) (S : World → Prop) (ex : Nat → Bool) (fuel : Nat) (listed : Array Bool) (a : Act) (w : World) (rs : List Nat) : Prop :=
 ∀ i ∈ rs, wpOp P ops Q i (fun a' w' => (ex i = false → S w → S w') ∧ wpAnyE P md ops Q S ex fuel (listed.setIfInBounds i true) a' w') a w
theorem AllReadyE.nil {fuel : Nat} {listed : Array Bool} {a : Act} {w : World} : AllReadyE P md ops Q S ex fuel listed a w [] := fun _ h => by cases h
theorem AllReadyE.cons {fuel : Nat} {listed : Array Bool} {a : Act} {w : World} {i : Nat} {o : Oper} {rs : List Nat} (ho : ops[i]? = some o)
 (h : ∀ K' : Act → World → Prop, Shut (∀ a w, (ex i = false → S w) → (S w → wpAnyE P md ops Q S ex fuel (listed.setIfInBounds i true) a w) → (ex i = true → wpAnyE P md ops Q S ex fuel (listed.setIfInBounds i true) a w) → K' a w) →
  if Region.wanted o (yielded ops a.tmps) = true then Oper.wp P o a w K' Q else K' (a.put o.dst undef) w)
 (hs : AllReadyE P md ops Q S ex fuel listed a w rs) : AllReadyE P md ops Q S ex fuel listed a w (i :: rs) := fun j hj => by
 rcases List.mem_cons.1 hj with hji | hj
 ·subst hji
  refine wpOp_step ho (fun K' hK => h K' (fun a w hS hW hX => hK a w ⟨fun he _ => hS he, ?_⟩))
  cases he : ex j with
  | false => exact hW (hS he)
  | true => exact hX he
 ·exact hs j hj
theorem wpAnyE_ready {rs : List Nat} {fuel : Nat} {listed : Array Bool} {a : Act} {w : World} (hr : Region.ready md ops listed = rs) (hne : rs ≠ [])
 (h : AllReadyE P md ops Q S ex fuel listed a w rs) : wpAnyE P md ops Q S ex (fuel + 1) listed a w :=
 ⟨fun h0 => absurd (hr ▸ h0) hne, hr ▸ h⟩
theorem eA (i : Nat) {fuel : Nat} {listed : Array Bool} {a : Act} {w : World} {o : Oper}
 (h : ∀ K' : Act → World → Prop, Shut (∀ a w, (ex i = false → S w) → (S w → wpAnyE P md ops Q S ex fuel (listed.setIfInBounds i true) a w) → (ex i = true → wpAnyE P md ops Q S ex fuel (listed.setIfInBounds i true) a w) → K' a w) →
  if Region.wanted o (yielded ops a.tmps) = true then Oper.wp P o a w K' Q else K' (a.put o.dst undef) w)
 (ho : ops[i]? = some o := by rfl) (hr : Region.ready md ops listed = [i] := by kernel_rfl) : wpAnyE P md ops Q S ex (fuel + 1) listed a w :=
 wpAnyE_ready hr (List.cons_ne_nil _ _) (AllReadyE.cons ho h AllReadyE.nil)
theorem eB {K' : Act → World → Prop} {fuel : Nat} {listed : Array Bool} {a : Act} {w : World} {i : Nat} (hK : Shut (∀ a w, (ex i = false → S w) → (S w → wpAnyE P md ops Q S ex fuel (listed.setIfInBounds i true) a w) → (ex i = true → wpAnyE P md ops Q S ex fuel (listed.setIfInBounds i true) a w) → K' a w))
 (hZ : Closed md ops listed) (hS : S w) (h : S w → Closed md ops (listed.setIfInBounds i true) → wpAnyE P md ops Q S ex fuel (listed.setIfInBounds i true) a w)
 (hr : (Region.ready md ops listed).contains i = true := by kernel_rfl) (hx : ex i = false := by kernel_rfl) : K' a w :=
 hK.out a w (fun _ => hS) (fun h' => h h' (hZ.step i hr)) (fun hX => by rw [hx] at hX; cases hX)
theorem eE {K' : Act → World → Prop} {fuel : Nat} {listed : Array Bool} {a : Act} {w : World} {i : Nat} (hK : Shut (∀ a w, (ex i = false → S w) → (S w → wpAnyE P md ops Q S ex fuel (listed.setIfInBounds i true) a w) → (ex i = true → wpAnyE P md ops Q S ex fuel (listed.setIfInBounds i true) a w) → K' a w))
 (hZ : Closed md ops listed) (h : Closed md ops (listed.setIfInBounds i true) → wpAnyE P md ops Q S ex fuel (listed.setIfInBounds i true) a w)
 (hr : (Region.ready md ops listed).contains i = true := by kernel_rfl) (hx : ex i = true := by kernel_rfl) : K' a w :=
 hK.out a w (fun hX => by rw [hx] at hX; cases hX) (fun _ => h (hZ.step i hr)) (fun _ => h (hZ.step i hr))
theorem wpAnyE_done {listed : Array Bool} {a : Act} {w : World} (hr : Region.ready md ops listed = []) (h : Q .normal a w) :
 ∀ fuel, wpAnyE P md ops Q S ex fuel listed a w
 | 0 => ⟨hr, h⟩
 | _ + 1 => ⟨fun _ => h, by rw [hr]; simp⟩
theorem wp_region_E {id : Nat} {a : Act} {w : World} (xs : List Nat) (hm : P.follows .mixedOrders = true) (hS : S w.drew)
 (h : S w.drew → Closed .any ops (Array.replicate ops.size false) → wpAnyE P .any ops Q S (fun j => xs.contains j) ops.size (Array.replicate ops.size false) a w.drew) : (Code.region id ops true).wp P Q a w :=
 wp_region_any hm (wpAny_of_E _ _ _ _ (h hS (closed_none _ _ _)))
end
end Go.Proofs.YtoeocodfndbebaaGreatDoor
namespace Go.Proofs.YtoeocodfndbebaaGreatDoor
open Go.RowKit
def RowedRg (w : World) (S : List (Int × Int)) (ed : Ending) (w' : World) : Prop := ∃ v, ed = .returned v ∧ OwnN w' w.heap.size 66 2 v S.length (prC S) ∧ Below w.heap.size w w'
theorem rg_lit (u : World) (p : Int × Int) : Lies (u.alloc (.cells #[.int .i64 p.1, .int .i64 p.2] 66)) (u.heap.size + 1) (some ⟨u.heap.size, 0, none⟩) (prC [p]) :=
 Lies.lit (w := u) (e := 66) #[.int .i64 p.1, .int .i64 p.2]
end Go.Proofs.YtoeocodfndbebaaGreatDoor
namespace Go.Proofs.YtoeocodfndbebaaGreatDoor
open Go.RowKit
theorem tailR_skip {p : Int → Bool} {a b : Nat} (h0 : a ≤ b) (h1 : b ≤ 1114112) (hn : ∀ c : Int, (a : Int) ≤ c → c < b → p c = false) : tailR p a = tailR p b :=
 canon_ext (tailR_canon p (by omega)) ((tailR_canon p h1).weaken (by omega)) fun c h2 h3 => by
  rw [tailR_has p (by omega), tailR_has p h1]
  by_cases hc : c < b
  ·rw [hn c h2 hc]; simp
  ·rw [show decide ((a : Int) ≤ c) = true by simpa using h2, show decide ((b : Int) ≤ c) = true by simp; omega]
structure TurnAt (S : List (Int × Int)) (a i : Nat) (T : List (Int × Int)) : Prop where
 tail : T ++ tailR (fun c => !hasR S c) a = setP fun c => !hasR S c
 canon : Canon a (S.drop i)
 same : ∀ c : Int, (a : Int) ≤ c → hasR S c = hasR (S.drop i) c
 le : a ≤ 1114112
 len : T.length ≤ i
theorem TurnAt.start {S : List (Int × Int)} (h : Canon 0 S) : TurnAt S 0 0 [] := ⟨rfl, h, fun _ _ => rfl, by omega, by simp⟩
theorem TurnAt.next {S T : List (Int × Int)} {a i lo hi : Nat} (h : TurnAt S a i T) (hi' : i < S.length) (he : S[i] = ((lo : Int), (hi : Int))) :
 a ≤ lo ∧ lo ≤ hi ∧ hi ≤ 1114111 ∧ TurnAt S (hi + 1) (i + 1) (if a < lo then T ++ [((a : Int), (lo : Int) - 1)] else T) := by
 have hd : S.drop i = ((lo : Int), (hi : Int)) :: S.drop (i + 1) := by rw [List.drop_eq_getElem_cons hi', he]
 have hc := h.canon
 rw [hd] at hc
 obtain ⟨h1, h2, h3, h4⟩ := hc
 simp only at h1 h2 h3 h4
 unfold topR at h3
 have hq : ∀ c : Int, (a : Int) ≤ c → c < lo → hasR S c = false := fun c g1 g2 => by
  rw [h.same c g1, hd, hasR_cons, show inR ((lo : Int), (hi : Int)) c = false by simp [inR] <;> omega, Bool.false_or]
  rcases hh : hasR (S.drop (i + 1)) c with _ | _
  ·rfl
  ·have := h4.has hh; omega
 have hy : ∀ c : Int, (lo : Int) ≤ c → c < ((hi + 1 : Nat) : Int) → hasR S c = true := fun c g1 g2 => by
  rw [h.same c (by omega), hd, hasR_cons, show inR ((lo : Int), (hi : Int)) c = true by simp [inR] <;> omega]; rfl
 have hsk : tailR (fun c => !hasR S c) lo = tailR (fun c => !hasR S c) (hi + 1) := tailR_skip (by omega) (by omega) fun c g1 g2 => by simp only [hy c g1 g2]; rfl
 refine ⟨by omega, by omega, by omega, ?_, h4.weaken (by omega), fun c g => ?_, by omega, ?_⟩
 ·have ht := h.tail
  split
  ·rename_i hlt
   obtain ⟨m, rfl⟩ : ∃ m, lo = m + 1 := ⟨lo - 1, by omega⟩
   rw [tailR_run (a := a) (lo := a) (hi := m) (Nat.le_refl _) (by omega) (by omega) (fun c g1 g2 => by omega) (fun c g1 g2 => by simp only [hq c g1 (by omega)]; rfl) (.inr (by simp only [hy ((m : Int) + 1) (by omega) (by omega)]; rfl)), hsk] at ht
   rw [List.append_assoc, show (((m + 1 : Nat) : Int) - 1) = (m : Int) by omega]
   exact ht
  ·have : a = lo := by omega
   subst this
   rw [← hsk]; exact ht
 ·rw [h.same c (by omega), hd, hasR_cons, show inR ((lo : Int), (hi : Int)) c = false by simp [inR] <;> omega, Bool.false_or]
 ·have := h.len
  split
  ·simp; omega
  ·omega
theorem TurnAt.done {S T : List (Int × Int)} {a : Nat} (h : TurnAt S a S.length T) : (if a ≤ 1114111 then T ++ [((a : Int), (1114111 : Int))] else T) = setP fun c => !hasR S c := by
 have hs : ∀ c : Int, (a : Int) ≤ c → hasR S c = false := fun c g => by rw [h.same c g, List.drop_length]; rfl
 have ht := h.tail
 split
 ·rename_i hle
  rw [tailR_run (a := a) (lo := a) (hi := 1114111) (Nat.le_refl _) hle (by omega) (fun c g1 g2 => by omega) (fun c g1 g2 => by simp only [hs c g1]; rfl) (.inl rfl), tailR_none (by omega) (fun c g1 g2 => by unfold topR at g2; omega)] at ht
  exact ht
 ·rename_i hle
  have := h.le
  rw [tailR_none h.le (fun c g1 g2 => by unfold topR at g2; omega), List.append_nil] at ht
  exact ht
end Go.Proofs.YtoeocodfndbebaaGreatDoor
namespace Go.Proofs.YtoeocodfndbebaaGreatDoor
def capR (r : Int × Int) : Int × Int := (max r.1 0, min r.2 1114111)
def keepR (R : List (Int × Int)) : List (Int × Int) := (R.map capR).filter fun r => decide (r.1 ≤ r.2)
theorem keepR_next {R : List (Int × Int)} {k : Nat} (h : k < R.length) : keepR (R.take (k + 1)) = keepR (R.take k) ++ (if max R[k].1 0 ≤ min R[k].2 1114111 then [(max R[k].1 0, min R[k].2 1114111)] else []) := by
 unfold keepR
 rw [List.take_succ_eq_append_getElem h, List.map_append, List.filter_append]
 congr 1
 by_cases hh : max R[k].1 0 ≤ min R[k].2 1114111 <;> simp [capR, hh]
theorem keepR_len (R : List (Int × Int)) : (keepR R).length ≤ R.length := by
 unfold keepR
 refine Nat.le_trans (List.length_filter_le _ _) ?_
 simp
theorem keepR_in {R : List (Int × Int)} {r : Int × Int} (h : r ∈ keepR R) : 0 ≤ r.1 ∧ r.1 ≤ r.2 ∧ r.2 ≤ topR := by
 unfold keepR at h
 rw [List.mem_filter, List.mem_map] at h
 obtain ⟨⟨q, _, rfl⟩, h⟩ := h
 have h : max q.1 0 ≤ min q.2 1114111 := of_decide_eq_true h
 show 0 ≤ max q.1 0 ∧ max q.1 0 ≤ min q.2 1114111 ∧ min q.2 1114111 ≤ topR
 unfold topR
 omega
theorem keepR_has (R : List (Int × Int)) (c : Int) : hasR (keepR R) c = (decide (0 ≤ c) && decide (c ≤ topR) && hasR R c) := by
 rw [Bool.eq_iff_iff]
 simp only [Bool.and_eq_true, decide_eq_true_eq]
 rw [hasR_iff, hasR_iff]
 unfold topR
 constructor
 ·rintro ⟨r, hr, h1, h2⟩
  unfold keepR at hr
  rw [List.mem_filter, List.mem_map] at hr
  obtain ⟨⟨q, hq, rfl⟩, h⟩ := hr
  have h1 : max q.1 0 ≤ c := h1
  have h2 : c ≤ min q.2 1114111 := h2
  exact ⟨by omega, q, hq, by omega, by omega⟩
 ·rintro ⟨h0, q, hq, h1, h2⟩
  refine ⟨capR q, ?_, ?_, ?_⟩
  ·unfold keepR
   rw [List.mem_filter, List.mem_map]
   refine ⟨⟨q, hq, rfl⟩, ?_⟩
   exact decide_eq_true (show max q.1 0 ≤ min q.2 1114111 by omega)
  ·show max q.1 0 ≤ c; omega
  ·show c ≤ min q.2 1114111; omega
theorem hasR_perm {L R : List (Int × Int)} (h : L.Perm R) (c : Int) : hasR L c = hasR R c := by
 rw [Bool.eq_iff_iff, hasR_iff, hasR_iff]
 constructor
 ·rintro ⟨r, hr, h2⟩; exact ⟨r, h.mem_iff.1 hr, h2⟩
 ·rintro ⟨r, hr, h2⟩; exact ⟨r, h.mem_iff.2 hr, h2⟩
theorem canon_snoc : ∀ {T : List (Int × Int)} {a : Int} {r : Int × Int}, Canon a T → (∀ q, T.getLast? = some q → q.2 + 2 ≤ r.1) → a ≤ r.1 → r.1 ≤ r.2 → r.2 ≤ topR → Canon a (T ++ [r])
 | [], _, _, _, _, h1, h2, h3 => ⟨h1, h2, h3, trivial⟩
 | [p], _, _, h, hq, _, h2, h3 => ⟨h.1, h.2.1, h.2.2.1, hq p rfl, h2, h3, trivial⟩
 | p :: q :: T, _, _, h, hq, h1, h2, h3 => by
  obtain ⟨g1, g2, g3, g4⟩ := h
  refine ⟨g1, g2, g3, canon_snoc g4 (fun s hs => hq s (by rw [List.getLast?_cons_cons]; exact hs)) ?_ h2 h3⟩
  have hmem : ∀ {T : List (Int × Int)} {a : Int}, Canon a T → ∀ s, T.getLast? = some s → a ≤ s.1 ∧ s.1 ≤ s.2 := by
   intro T
   induction T with
   | nil => intro a _ s hs; cases hs
   | cons t T ih =>
    intro a hc s hs
    rcases T with _ | ⟨u, T⟩
    ·have : t = s := by simpa using hs
     subst this
     exact ⟨hc.1, hc.2.1⟩
    ·have h5 := ih hc.2.2.2 s (by rw [List.getLast?_cons_cons] at hs; exact hs)
     have := hc.1
     have := hc.2.1
     exact ⟨by omega, h5.2⟩
  obtain ⟨s, hs⟩ : ∃ s, (q :: T).getLast? = some s := ⟨_, List.getLast?_eq_some_getLast (by simp)⟩
  have h5 := hmem g4 s hs
  have h6 := hq s (by rw [List.getLast?_cons_cons]; exact hs)
  omega
theorem canon_wider : ∀ {T : List (Int × Int)} {a m : Int} {q : Int × Int}, Canon a (T ++ [q]) → q.2 ≤ m → m ≤ topR → Canon a (T ++ [(q.1, m)])
 | [], _, _, _, h, h1, h2 => ⟨h.1, by have := h.2.1; simp only; omega, h2, trivial⟩
 | p :: T, _, _, _, h, h1, h2 => ⟨h.1, h.2.1, h.2.2.1, canon_wider (T := T) h.2.2.2 h1 h2⟩
theorem canon_lastAt : ∀ {T : List (Int × Int)} {a : Int} {q : Int × Int}, Canon a (T ++ [q]) → a ≤ q.1 ∧ q.1 ≤ q.2 ∧ q.2 ≤ topR
 | [], _, _, h => ⟨h.1, h.2.1, h.2.2.1⟩
 | p :: T, _, _, h => by
  have := canon_lastAt (T := T) h.2.2.2
  have := h.1; have := h.2.1
  omega
structure LeastAt (L : List (Int × Int)) (k : Nat) (T : List (Int × Int)) : Prop where
 canon : Canon 0 T
 has : ∀ c, hasR T c = hasR (L.take k) c
 low : ∀ q, T.getLast? = some q → ∃ r ∈ L.take k, q.1 = r.1
 len : T.length ≤ k
theorem LeastAt.start (L : List (Int × Int)) : LeastAt L 0 [] := ⟨trivial, fun _ => rfl, fun q h => (by cases h), by simp⟩
section
variable {L T T' : List (Int × Int)} {k : Nat} {q : Int × Int}
theorem LeastAt.lowLe (h : LeastAt L k (T' ++ [q])) (hs : L.Pairwise (fun p r => p.1 ≤ r.1)) (hk : k < L.length) : q.1 ≤ L[k].1 := by
 obtain ⟨r, hr, hq⟩ := h.low q (by simp)
 rw [hq]
 obtain ⟨i, hi, rfl⟩ := List.getElem_of_mem hr
 rw [List.length_take] at hi
 rw [List.getElem_take]
 exact List.pairwise_iff_getElem.1 hs i k (by omega) hk (by omega)
theorem LeastAt.new (h : LeastAt L k T) (hin : ∀ r ∈ L, 0 ≤ r.1 ∧ r.1 ≤ r.2 ∧ r.2 ≤ topR) (hk : k < L.length) (hn : ∀ q, T.getLast? = some q → ¬ L[k].1 ≤ q.2 + 1) : LeastAt L (k + 1) (T ++ [L[k]]) := by
 have hi := hin L[k] (List.getElem_mem hk)
 refine ⟨canon_snoc h.canon (fun q hq => by have := hn q hq; omega) hi.1 hi.2.1 hi.2.2, fun c => ?_, fun q hq => ?_, by have := h.len; simp; omega⟩
 ·rw [hasR_append, List.take_succ_eq_append_getElem hk, hasR_append, h.has]
 ·rw [List.getLast?_append] at hq
  have : L[k] = q := by simpa using hq
  subst this
  exact ⟨_, by rw [List.take_succ_eq_append_getElem hk]; exact List.mem_append_right _ (List.mem_singleton.2 rfl), rfl⟩
theorem LeastAt.join (h : LeastAt L k (T' ++ [q])) (hs : L.Pairwise (fun p r => p.1 ≤ r.1)) (hin : ∀ r ∈ L, 0 ≤ r.1 ∧ r.1 ≤ r.2 ∧ r.2 ≤ topR) (hk : k < L.length) (hn : L[k].1 ≤ q.2 + 1) : LeastAt L (k + 1) (T' ++ [(q.1, max q.2 L[k].2)]) := by
 have hi := hin L[k] (List.getElem_mem hk)
 have hlo := h.lowLe hs hk
 have hla := canon_lastAt h.canon
 refine ⟨canon_wider h.canon (by omega) (by omega), fun c => ?_, fun s hs' => ?_, by have := h.len; simp at this ⊢; omega⟩
 ·rw [List.take_succ_eq_append_getElem hk, hasR_append, hasR_append, ← h.has, hasR_append, Bool.or_assoc]
  congr 1
  rw [Bool.eq_iff_iff]
  simp [hasR, inR]
  omega
 ·have : (q.1, max q.2 L[k].2) = s := by simpa using hs'
  subst this
  obtain ⟨r, hr, he⟩ := h.low q (by simp)
  exact ⟨r, by rw [List.take_succ_eq_append_getElem hk]; exact List.mem_append_left _ hr, he⟩
theorem LeastAt.done (h : LeastAt L L.length T) {R : List (Int × Int)} (hp : L.Perm (keepR R)) : setP (hasR R) = T := by
 refine setP_is h.canon fun c h0 h1 => ?_
 rw [h.has, List.take_length, hasR_perm hp, keepR_has]
 simp [h0, h1]
theorem perm_in {R : List (Int × Int)} (hp : L.Perm (keepR R)) : ∀ r ∈ L, 0 ≤ r.1 ∧ r.1 ≤ r.2 ∧ r.2 ≤ topR := fun _ hr => keepR_in (hp.mem_iff.1 hr)
end
end Go.Proofs.YtoeocodfndbebaaGreatDoor
namespace Go.Proofs.YtoeocodfndbebaaGreatDoor
open Go.RowKit Reckon
def fo (c : Int) : Int :=
 if 65 ≤ c ∧ c ≤ 90 then c + 32 else if 181 ≤ c ∧ c ≤ 181 then c + 775 else if 192 ≤ c ∧ c ≤ 214 then c + 32 else if 216 ≤ c ∧ c ≤ 222 then c + 32 else if 913 ≤ c ∧ c ≤ 929 then c + 32
 else if 931 ≤ c ∧ c ≤ 937 then c + 32 else if 962 ≤ c ∧ c ≤ 962 then c + 1 else if 1024 ≤ c ∧ c ≤ 1039 then c + 80 else if 1040 ≤ c ∧ c ≤ 1071 then c + 32 else if 7838 ≤ c ∧ c ≤ 7838 then c + -7615 else c
def rws : List (Int × Int × Int) := [(65, 90, 32), (181, 181, 775), (192, 214, 32), (216, 222, 32), (913, 929, 32), (931, 937, 32), (962, 962, 1), (1024, 1039, 80), (1040, 1071, 32), (7838, 7838, -7615)]
def foL : List (Int × Int × Int) → Int → Int
 | [], c => c
 | r :: l, c => if r.1 ≤ c ∧ c ≤ r.2.1 then c + r.2.2 else foL l c
theorem foL_eq (c : Int) : foL rws c = fo c := rfl
def rowCells : List Value := rws.flatMap fun r => [.int .i64 r.1, .int .i64 r.2.1, .int .i64 r.2.2]
structure FoTabs (w : World) : Prop where
 big : 3 < w.heap.size
 cells : w.rangeAt 3 0 rowCells
theorem FoTabs.below {w w' : World} {B : Nat} (h : FoTabs w) (hb : Below B w w') (hB : 3 < B) : FoTabs w' :=
 ⟨Nat.lt_of_lt_of_le h.big hb.size, fun i v hi => (hb.cell (p := ⟨_, _, none⟩) hB).trans (h.cells i v hi)⟩
theorem rws_small : ∀ r ∈ rws, 0 ≤ r.1 ∧ r.2.1 ≤ 8000 ∧ -8000 ≤ r.2.2 ∧ r.2.2 ≤ 8000 := by decide
theorem index_row0 (w : World) : (Instr.index 170 (.agg rowCells.toArray) (.int .i64 (0 : Nat))).run Tryz.prog w = .ok (.agg #[.int .i64 65, .int .i64 90, .int .i64 32]) w := by kernel_rfl
theorem index_row1 (w : World) : (Instr.index 170 (.agg rowCells.toArray) (.int .i64 (1 : Nat))).run Tryz.prog w = .ok (.agg #[.int .i64 181, .int .i64 181, .int .i64 775]) w := by kernel_rfl
theorem index_row2 (w : World) : (Instr.index 170 (.agg rowCells.toArray) (.int .i64 (2 : Nat))).run Tryz.prog w = .ok (.agg #[.int .i64 192, .int .i64 214, .int .i64 32]) w := by kernel_rfl
theorem index_row3 (w : World) : (Instr.index 170 (.agg rowCells.toArray) (.int .i64 (3 : Nat))).run Tryz.prog w = .ok (.agg #[.int .i64 216, .int .i64 222, .int .i64 32]) w := by kernel_rfl
theorem index_row4 (w : World) : (Instr.index 170 (.agg rowCells.toArray) (.int .i64 (4 : Nat))).run Tryz.prog w = .ok (.agg #[.int .i64 913, .int .i64 929, .int .i64 32]) w := by kernel_rfl
theorem index_row5 (w : World) : (Instr.index 170 (.agg rowCells.toArray) (.int .i64 (5 : Nat))).run Tryz.prog w = .ok (.agg #[.int .i64 931, .int .i64 937, .int .i64 32]) w := by kernel_rfl
theorem index_row6 (w : World) : (Instr.index 170 (.agg rowCells.toArray) (.int .i64 (6 : Nat))).run Tryz.prog w = .ok (.agg #[.int .i64 962, .int .i64 962, .int .i64 1]) w := by kernel_rfl
theorem index_row7 (w : World) : (Instr.index 170 (.agg rowCells.toArray) (.int .i64 (7 : Nat))).run Tryz.prog w = .ok (.agg #[.int .i64 1024, .int .i64 1039, .int .i64 80]) w := by kernel_rfl
theorem index_row8 (w : World) : (Instr.index 170 (.agg rowCells.toArray) (.int .i64 (8 : Nat))).run Tryz.prog w = .ok (.agg #[.int .i64 1040, .int .i64 1071, .int .i64 32]) w := by kernel_rfl
theorem index_row9 (w : World) : (Instr.index 170 (.agg rowCells.toArray) (.int .i64 (9 : Nat))).run Tryz.prog w = .ok (.agg #[.int .i64 7838, .int .i64 7838, .int .i64 (-7615)]) w := by kernel_rfl
theorem index_row (k : Nat) (r : Int × Int × Int) (hk : rws[k]? = some r) (w : World) : (Instr.index 170 (.agg rowCells.toArray) (.int .i64 k)).run Tryz.prog w = .ok (.agg #[.int .i64 r.1, .int .i64 r.2.1, .int .i64 r.2.2]) w := by
 have h10 : k < 10 := (List.getElem?_eq_some_iff.1 hk).1
 have : k = 0 ∨ k = 1 ∨ k = 2 ∨ k = 3 ∨ k = 4 ∨ k = 5 ∨ k = 6 ∨ k = 7 ∨ k = 8 ∨ k = 9 := by omega
 rcases this with rfl | rfl | rfl | rfl | rfl | rfl | rfl | rfl | rfl | rfl <;> cases hk
 ·exact index_row0 w
 ·exact index_row1 w
 ·exact index_row2 w
 ·exact index_row3 w
 ·exact index_row4 w
 ·exact index_row5 w
 ·exact index_row6 w
 ·exact index_row7 w
 ·exact index_row8 w
 ·exact index_row9 w
set_option maxHeartbeats 1000000 in
theorem of_any (c : Int) (w : World) (hT : FoTabs w) : Calls Tryz.prog 167 #[.int .i64 c] w fun e w' => e = .returned (.int .i64 (fo c)) ∧ Below w.heap.size w w' := by
 have HT := Lib.hid hT
 clear hT
 go_enter Tryz.func167, Tryz.ntmps167
 go_wp2_with (first
  | (refine wpList_load_mid rfl 170 _ rfl 3 0 rfl rowCells _ HT.out.cells Tryz.underlying170 rfl (by kernel_rfl) ?_)
  | fail)
 go_loopw [6] (fun i wr => ∃ k : Nat, k ≤ 10 ∧ i = .int .i64 k ∧ Hid (foL (rws.drop k) c = fo c) ∧ Below w.heap.size w wr) (fun i _ => 10 - (intOf i).toNat)
 case atStart => exact ⟨0, by omega, rfl, foL_eq c, Below.refl _ _⟩
 case round =>
  obtain ⟨k, hk, rfl, HF, hb⟩ := hrel
  have HB := Lib.hid hb
  have hsz := hb.size
  clear hb
  by_cases hlt : k < 10
  ·have b1 : (k : Int) < 10 := by omega
   obtain ⟨r, hr⟩ : ∃ r, rws[k]? = some r := ⟨_, List.getElem?_eq_getElem (show k < rws.length from hlt)⟩
   have hx := index_row k r hr
   have hdrop : rws.drop k = r :: rws.drop (k + 1) := by
    obtain ⟨hk', hr'⟩ := List.getElem?_eq_some_iff.1 hr
    rw [← hr']; exact List.drop_eq_getElem_cons hk'
   have HD := Lib.hid hdrop
   have hbd := rws_small r (List.mem_of_getElem? hr)
   obtain ⟨a, b, m⟩ := r
   dsimp only at hx hbd
   clear hdrop hr
   rcases ha : decide (a ≤ c) with _ | _
   ·go_wp2
    go_roundw
    case rel =>
     refine ⟨k + 1, by omega, by go_num, ?_, HB.out.alloc hsz _⟩
     have := HF.out
     rw [HD.out, foL, if_neg (show ¬ (a ≤ c ∧ c ≤ b) by simp at ha; omega)] at this
     exact this
    case measure => simp [intOf]; omega
   ·rcases hbb : decide (c ≤ b) with _ | _
    ·go_wp2
     go_roundw
     case rel =>
      refine ⟨k + 1, by omega, by go_num, ?_, HB.out.alloc hsz _⟩
      have := HF.out
      rw [HD.out, foL, if_neg (show ¬ (a ≤ c ∧ c ≤ b) by simp at hbb; omega)] at this
      exact this
     case measure => simp [intOf]; omega
    ·have hsum : IntKind.i64.wrap (c + m) = c + m := by
      simp at ha hbb
      exact IntWalk.i64_in _ (by omega)
     go_wp2
     go_ret
     refine ⟨ret_int ?_, HB.out.alloc hsz _⟩
     rw [← HF.out, HD.out, foL, if_pos (show a ≤ c ∧ c ≤ b by simp at ha hbb; omega)]
  ·go_wp2
   go_ret
   refine ⟨ret_int ?_, HB.out⟩
   have := HF.out
   rw [show k = 10 by omega] at this
   exact this
end Go.Proofs.YtoeocodfndbebaaGreatDoor
