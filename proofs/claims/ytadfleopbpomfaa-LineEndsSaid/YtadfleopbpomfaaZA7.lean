/- Shared texts, shaken for one claim. -/
import Derived.BigRegion
import Derived.WalkKit
import Derived.OrdersHeld
import Derived.Deep.RegionHeld
import Derived.Test.YtadfleopbpomfaaZA1
import Derived.Test.YtadfleopbpomfaaZA4
namespace Go.Proofs.Ytadfleopbpomfaa
open Go.RowKit
structure Ent where
 lev : Int
 over : Int
 iso : Bool
structure X6 where
 base : Int
 st : List Ent
 isos : Nat
 embeds : Nat
 valid : Nat
 most : Nat
 levels : List Int
 classes : List Int
def Ent.cells (e : Ent) : List Value := [.int .i64 e.lev, .int .i64 e.over, .bool e.iso]
def ents (es : List Ent) : List Value := es.flatMap Ent.cells
@[simp] theorem ents_length (es : List Ent) : (ents es).length = es.length * 3 := by
 induction es with
 | nil => rfl
 | cons e es ih => simp only [ents, List.flatMap_cons, List.length_append] at ih ⊢; rw [ih]; simp [Ent.cells]; omega
theorem ents_append (a b : List Ent) : ents (a ++ b) = ents a ++ ents b := by simp [ents]
theorem ents_one (es : List Ent) : ∀ u ∈ ents es, u.oneCell' = true := by
 intro u hu
 obtain ⟨e, _, h⟩ := List.mem_flatMap.1 hu
 simp only [Ent.cells, List.mem_cons, List.mem_nil_iff, or_false] at h
 rcases h with rfl | rfl | rfl <;> rfl
def X6.cells (x : X6) (sv lv cv lsl : Value) : List Value := [.int .i64 x.base, sv, .int .i64 x.isos, .int .i64 x.embeds, .int .i64 x.valid, .int .i64 x.most, lv, cv, lsl]
structure IsX (w : World) (B g : Nat) (x : X6) (lsl sv lv cv : Value) : Prop where
 row : OwnN w B 74 1 (.slice (some ⟨g, 0, none⟩) 9 9) 9 (x.cells sv lv cv lsl)
 stack : OwnN w B 92 3 sv x.st.length (ents x.st.reverse)
 levels : OwnN w B 3 1 lv x.levels.length (ints .i64 x.levels)
 classes : OwnN w B 3 1 cv x.classes.length (ints .i64 x.classes)
 apart : Apart lv cv
section
variable {w w' : World} {B g : Nat} {x : X6} {lsl sv lv cv : Value}
theorem IsX.below (h : IsX w B g x lsl sv lv cv) {C : Nat} (hb : Below C w w') (hC : w.heap.size ≤ C) : IsX w' B g x lsl sv lv cv :=
 ⟨h.row.below hb hC, h.stack.below hb hC, h.levels.below hb hC, h.classes.below hb hC, h.apart⟩
theorem IsX.field (h : IsX w B g x lsl sv lv cv) (j : Nat) (hj : j < 9) : w.cell? ⟨g, j, none⟩ = (x.cells sv lv cv lsl)[j]? := World.ownsRow.cellAt h.row j (by omega)
theorem IsX.inside (h : IsX w B g x lsl sv lv cv) : B ≤ g ∧ g < w.heap.size := h.row.inside g rfl
end
theorem intsN : SliceOfN Try.prog 22 3 (.int .i64 0) 1 8 := intsT.wide
theorem entsT : SliceOfN Try.prog 72 92 (.agg #[.int .i64 0, .int .i64 0, .bool false]) 3 24 := ⟨by kernel_rfl, by kernel_rfl, rfl, by decide⟩
set_option maxHeartbeats 1000000 in
theorem top_any (w : World) (B g : Nat) (x : X6) (lsl sv lv cv : Value) (e : Ent) (st : List Ent) (hst : x.st = e :: st) (h : IsX w B g x lsl sv lv cv) (hsm : x.st.length ≤ 1000000) :
 Calls Try.prog 73 #[.pointer (some ⟨g, 0, none⟩)] w fun ed w' => ed = .returned (.agg #[.int .i64 e.lev, .int .i64 e.over, .bool e.iso]) ∧ Below w.heap.size w w' := by
 have hin := h.inside
 obtain ⟨gs, c, rfl, hnc, hgs, hgl, hcells⟩ := h.stack.block (by rw [hst]; simp)
 have h1 := h.field 1 (by omega)
 simp only [X6.cells, List.getElem?_cons_succ, List.getElem?_cons_zero] at h1
 obtain ⟨n, hn⟩ : ∃ n, st.length = n := ⟨_, rfl⟩
 have hxl : x.st.length = n + 1 := by rw [hst]; simp [hn]
 rw [hxl] at h1 hcells
 have hrev : ents x.st.reverse = ents st.reverse ++ e.cells := by rw [hst, List.reverse_cons, ents_append]; simp [ents]
 have hel : (ents st.reverse).length = n * 3 := by simp [hn]
 have hc0 := hcells (n * 3) (by omega)
 have hc1 := hcells (n * 3 + 1) (by omega)
 have hc2 := hcells (n * 3 + 2) (by omega)
 rw [hrev, List.getElem?_append_right (by omega), hel] at hc0 hc1 hc2
 simp only [Nat.sub_self, Nat.add_sub_cancel_left, Ent.cells, List.getElem?_cons_zero, List.getElem?_cons_succ] at hc0 hc1 hc2
 have hw1 : IntKind.i64.wrap (((n + 1 : Nat) : Int) - 1) = (n : Int) := by rw [IntWalk.i64_in _ (by omega)]; omega
 have hw2 : IntKind.i64.wrap (n : Int) = (n : Int) := IntWalk.i64_in _ (by omega)
 have b0 : (0 : Int) ≤ (n : Int) := by omega
 have b1 : (n : Int) < ((n + 1 : Nat) : Int) := by omega
 have hne : ¬ w.heap.size = g := by omega
 have hne' : ¬ w.heap.size = gs := by omega
 clear hrev hel hcells hxl hn hst
 go_enter Try.func73, Try.ntmps73
 go_wp2
 go_region
 go_wp2
 (try simp only [Exit.inBlock, Exit.then])
 refine bodyPost_ret (v := .agg #[.int .i64 e.lev, .int .i64 e.over, .bool e.iso]) ?_ rfl ⟨rfl, below_drawn (below_alloc _ _) 1⟩
 exact results_cell_row rfl _ _ w.heap.size 92 _ (0, 0) _ rfl (Go.heap_alloc_new w _) Try.underlying92 rfl (by kernel_rfl)
def nextL (level dir : Int) : Int := if level < 0 ∨ 125 < level then -1 else if dir = 1 then (if level % 2 = 0 then level + 1 else level + 2) else (if level % 2 = 1 then level + 1 else level + 2)
set_option maxHeartbeats 1000000 in
theorem next_any (k dir : Int) (w : World) : Calls Try.prog 87 #[.int .i64 k, .int .i64 dir] w fun e w' => e = .returned (.int .i64 (nextL k dir)) ∧ w = w' := by
 obtain ⟨z, hz⟩ : ∃ z, nextL k dir = z := ⟨_, rfl⟩
 rw [hz]
 rcases h0 : decide (k < 0) with _ | _
 ·rcases h1 : decide (k > 125) with _ | _
  ·obtain ⟨n, rfl⟩ : ∃ n : Nat, k = n := ⟨k.toNat, by simp at h0; omega⟩
   have hn : n ≤ 125 := by simp at h1; omega
   obtain ⟨o, ho⟩ : ∃ o : Int, (if dir = 1 then (1 : Int) else 0) = o := ⟨_, rfl⟩
   have ho01 : o = 0 ∨ o = 1 := by split at ho <;> omega
   have hz' : z = if ((n : Int) + 1) % 2 = o then (n : Int) + 1 else (n : Int) + 2 := by
    rw [← hz, nextL, if_neg (by omega)]
    split at ho
    ·rw [if_pos (by assumption)]; split <;> split <;> omega
    ·rw [if_neg (by assumption)]; split <;> split <;> omega
   rcases hd : (dir == 1) with _ | _
   ·have HZ : Hid (z = if ((n : Int) + 1) % 2 = 0 then (n : Int) + 1 else (n : Int) + 2) := by
     have : o = 0 := by rw [← ho, if_neg (by simpa using hd)]
     rw [this] at hz'; exact hz'
    clear ho ho01 hz hz'
    go_enter Try.func87, Try.ntmps87
    go_wp2
    go_loopw [5] (fun v wr => ∃ j : Nat, j ≤ 1 ∧ v = .int .i64 ((n : Int) + 1 + j) ∧ Hid (j = 0 ∨ z = (n : Int) + 2) ∧ wr = w) (fun v _ => n + 3 - (intOf v).toNat)
    case atStart => exact ⟨0, by omega, by go_num, Lib.hid (.inl rfl), rfl⟩
    case round =>
     obtain ⟨j, hj, rfl, HJ, rfl⟩ := hrel
     have hwr : IntKind.i64.wrap ((n : Int) + 1 + j + 1) = (n : Int) + 1 + (j + 1 : Nat) := by rw [IntWalk.i64_in _ (by omega)]; omega
     rcases ht : (((n : Int) + 1 + j) % 2 != 0) with _ | _
     ·have he : ((n : Int) + 1 + j) % 2 = 0 := by simpa using ht
      have hzz : z = (n : Int) + 1 + j := by
       have h1 := HZ.out
       have h2 := HJ.out
       split at h1 <;> omega
      subst hzz
      clear he
      go_wp2
      go_ret
      exact ⟨rfl, rfl⟩
     ·have he : ¬ ((n : Int) + 1 + j) % 2 = 0 := by simpa using ht
      have hj0 : j = 0 ∧ z = (n : Int) + 2 := by
       have h1 := HZ.out
       have h2 := HJ.out
       split at h1 <;> omega
      have HZ2 := Lib.hid hj0
      clear he hj0
      go_wp2
      go_roundw
      case rel => exact ⟨j + 1, by have := HZ2.out; omega, by first | rfl | go_num, Lib.hid (.inr HZ2.out.2), by first | rfl | trivial⟩
      case measure => simp [intOf]; omega
   ·have HZ : Hid (z = if ((n : Int) + 1) % 2 = 1 then (n : Int) + 1 else (n : Int) + 2) := by
     have : o = 1 := by rw [← ho, if_pos (by simpa using hd)]
     rw [this] at hz'; exact hz'
    clear ho ho01 hz hz'
    go_enter Try.func87, Try.ntmps87
    go_wp2
    go_loopw [5] (fun v wr => ∃ j : Nat, j ≤ 1 ∧ v = .int .i64 ((n : Int) + 1 + j) ∧ Hid (j = 0 ∨ z = (n : Int) + 2) ∧ wr = w) (fun v _ => n + 3 - (intOf v).toNat)
    case atStart => exact ⟨0, by omega, by go_num, Lib.hid (.inl rfl), rfl⟩
    case round =>
     obtain ⟨j, hj, rfl, HJ, rfl⟩ := hrel
     have hwr : IntKind.i64.wrap ((n : Int) + 1 + j + 1) = (n : Int) + 1 + (j + 1 : Nat) := by rw [IntWalk.i64_in _ (by omega)]; omega
     rcases ht : (((n : Int) + 1 + j) % 2 != 1) with _ | _
     ·have he : ((n : Int) + 1 + j) % 2 = 1 := by simpa using ht
      have hzz : z = (n : Int) + 1 + j := by
       have h1 := HZ.out
       have h2 := HJ.out
       split at h1 <;> omega
      subst hzz
      clear he
      go_wp2
      go_ret
      exact ⟨rfl, rfl⟩
     ·have he : ¬ ((n : Int) + 1 + j) % 2 = 1 := by simpa using ht
      have hj0 : j = 0 ∧ z = (n : Int) + 2 := by
       have h1 := HZ.out
       have h2 := HJ.out
       split at h1 <;> omega
      have HZ2 := Lib.hid hj0
      clear he hj0
      go_wp2
      go_roundw
      case rel => exact ⟨j + 1, by have := HZ2.out; omega, by first | rfl | go_num, Lib.hid (.inr HZ2.out.2), by first | rfl | trivial⟩
      case measure => simp [intOf]; omega
  ·have : z = -1 := by rw [← hz, nextL, if_pos (by simp at h1; omega)]
   subst this
   clear hz
   go_enter Try.func87, Try.ntmps87
   go_wp2
   go_ret
   exact ⟨rfl, rfl⟩
 ·have : z = -1 := by rw [← hz, nextL, if_pos (by simp at h0; omega)]
  subst this
  clear hz
  go_enter Try.func87, Try.ntmps87
  go_wp2
  go_ret
  exact ⟨rfl, rfl⟩
theorem field0 (a b : Int) (i : Bool) (u : World) : (Instr.field 92 (.agg #[.int .i64 a, .int .i64 b, .bool i]) 0).run Try.prog u = .ok (.int .i64 a) u := by kernel_rfl
theorem field1 (a b : Int) (i : Bool) (u : World) : (Instr.field 92 (.agg #[.int .i64 a, .int .i64 b, .bool i]) 1).run Try.prog u = .ok (.int .i64 b) u := by kernel_rfl
theorem field2 (a b : Int) (i : Bool) (u : World) : (Instr.field 92 (.agg #[.int .i64 a, .int .i64 b, .bool i]) 2).run Try.prog u = .ok (.bool i) u := by kernel_rfl
end Go.Proofs.Ytadfleopbpomfaa
namespace Go.Proofs.Ytadfleopbpomfaa
open Go
section
variable {P : Program} {ops : Array Oper} {Q : Exit → Act → World → Prop} {md : Region.Mode} {S : World → Prop} {ex : Nat → Bool}
def waits (md : Region.Mode) (ops : Array Oper) : Nat → Nat → Nat → Bool
 | 0, _, _ => false
 | fuel + 1, j, i => match ops[j]? with
  | some o => o.after.any fun e => Region.binds md e && (e.on == i || waits md ops fuel e.on i)
  | none => false
def Closed (md : Region.Mode) (ops : Array Oper) (listed : Array Bool) : Prop :=
 ∀ k o, ops[k]? = some o → listed.getD k false = true → ∀ e ∈ o.after, Region.binds md e = true → listed.getD e.on false = true
theorem closed_none (md : Region.Mode) (ops : Array Oper) (n : Nat) : Closed md ops (Array.replicate n false) := by
 intro k o _ h
 simp only [Array.getD_eq_getD_getElem?, Array.getElem?_replicate] at h
 split at h <;> simp at h
theorem Closed.next {listed : Array Bool} {i : Nat} (h : Closed md ops listed) (hi : i ∈ Region.ready md ops listed) : Closed md ops (listed.setIfInBounds i true) := by
 intro k o hk hl e he hb
 by_cases hki : k = i
 ·subst hki
  obtain ⟨_, o', ho', hall⟩ := mem_ready.1 hi
  obtain rfl : o = o' := Option.some.inj (hk.symm.trans ho')
  exact getD_set_true (hall e he hb)
 ·rw [getD_set_ne false (Ne.symm hki)] at hl
  exact getD_set_true (h k o hk hl e he hb)
theorem Closed.step {listed : Array Bool} (i : Nat) (h : Closed md ops listed) (hi : (Region.ready md ops listed).contains i = true) : Closed md ops (listed.setIfInBounds i true) := h.next (by simpa using hi)
theorem waits_listed {listed : Array Bool} (hc : Closed md ops listed) : ∀ (fuel j i : Nat), (∀ o, ops[j]? = some o → ∀ e ∈ o.after, Region.binds md e = true → listed.getD e.on false = true) → waits md ops fuel j i = true → listed.getD i false = true := by
 intro fuel
 induction fuel with
 | zero => intro j i _ h; cases h
 | succ fuel ih =>
  intro j i hj h
  unfold waits at h
  split at h
  ·rename_i o ho
   obtain ⟨e, he, hb⟩ := Array.any_eq_true'.1 h
   simp only [Bool.and_eq_true, Bool.or_eq_true, beq_iff_eq] at hb
   have hl := hj o ho e he hb.1
   rcases hb.2 with h2 | h2
   ·rw [← h2]; exact hl
   ·exact ih e.on i (fun o' ho' => hc e.on o' ho' hl) h2
  ·cases h
def wpAnyE (P : Program) (md : Region.Mode) (ops : Array Oper) (Q : Exit → Act → World → Prop) (S : World → Prop) (ex : Nat → Bool) : Nat → Array Bool → Act → World → Prop
 | 0, listed, a, w => Region.ready md ops listed = [] ∧ Q .normal a w
 | fuel + 1, listed, a, w =>
  (Region.ready md ops listed = [] → Q .normal a w) ∧
  ∀ i ∈ Region.ready md ops listed, wpOp P ops Q i (fun a' w' => (ex i = false → S w → S w') ∧ wpAnyE P md ops Q S ex fuel (listed.setIfInBounds i true) a' w') a w
theorem wpAny_of_E : ∀ (fuel : Nat) (listed : Array Bool) (a : Act) (w : World), wpAnyE P md ops Q S ex fuel listed a w → wpAny P md ops Q fuel listed a w
 | 0, _, _, _, h => h
 | fuel + 1, _, _, _, h => ⟨h.1, fun i hi => wpOp_mono (fun a' w' h' => wpAny_of_E fuel _ a' w' h'.2) (h.2 i hi)⟩
theorem wpAnyE_first {i : Nat} {oi : Oper} {v : Value} (hi : ops[i]? = some oi) (hsel : ∀ (j : Nat) (o : Oper) cs b, ops[j]? = some o → o.op ≠ .select cs b)
 (hQ : ∀ c a w, Q (.panic c) (a.put oi.dst v) w → Q (.panic c) a w) (hex : ∀ j, ex j = true → waits md ops ops.size j i = true) :
 ∀ (fuel : Nat) (listed : Array Bool) (a : Act) (w : World), Closed md ops listed →
  (∀ j oj, ops[j]? = some oj → j ≠ i → listed.getD j true = false → (∀ e ∈ oj.after, Region.binds md e = true → e.on ≠ i) → oi.apart ops oj = true) →
  i ∈ Region.ready md ops listed → YieldsIf P ops S oi v a → S w →
  wpAnyE P md ops Q S ex fuel (listed.setIfInBounds i true) (a.put oi.dst v) w → wpAnyE P md ops Q S ex (fuel + 1) listed a w := by
 intro fuel
 induction fuel with
 | zero =>
  intro listed a w _ _ hr hy hS H
  refine ⟨fun h => (by rw [h] at hr; cases hr), fun j hj => ?_⟩
  rcases Nat.decEq j i with hji | hji
  ·have := ready_mono hj hji
   rw [H.1] at this
   cases this
  ·subst hji
   exact hy.wpOp hi hS ⟨fun _ h => h, H⟩
 | succ fuel ih =>
  intro listed a w hc hfree hr hy hS H
  refine ⟨fun h => (by rw [h] at hr; cases hr), fun j hj => ?_⟩
  rcases Nat.decEq j i with hji | hji
  ·have hrest := H.2 j (ready_mono hj hji)
   obtain ⟨hjun, oj, hoj, hall⟩ := mem_ready.1 hj
   have hiun := (mem_ready.1 hr).1
   have clash : ∀ {m : Nat}, m = i → listed.getD m false = true → False := fun hm hl => by
    rw [hm] at hl
    simp only [Array.getD_eq_getD_getElem?] at hl hiun
    cases hh : listed[i]? with
    | none => rw [hh] at hl; cases hl
    | some b => rw [hh] at hl hiun; simp only [Option.getD_some] at hl hiun; rw [hl] at hiun; cases hiun
   have hnot : ∀ e ∈ oj.after, Region.binds md e = true → e.on ≠ i := fun e he hb heq => clash heq (hall e he hb)
   have hnex : ex j = false := by
    cases he : ex j with
    | false => rfl
    | true =>
     refine (clash rfl (waits_listed hc _ j i (fun o ho e hee hb => ?_) (hex j he))).elim
     obtain rfl : oj = o := Option.some.inj (hoj.symm.trans ho)
     exact hall e hee hb
   have hput := wpOp_putIf hoj (hfree j oj hoj hji hjun hnot) (fun cs b => hsel i oi cs b hi) (fun cs b => hsel j oj cs b hoj) hQ hy hrest
   refine wpOp_mono (fun a' w' h3 => ⟨h3.2.1, ?_⟩) hput
   refine ih (listed.setIfInBounds j true) a' w' (hc.next hj) ?_ (ready_mono hr (Ne.symm hji)) h3.1 (h3.2.1 hnex hS) ?_
   ·intro k ok hk hki hun hno
    refine hfree k ok hk hki ?_ hno
    rcases Nat.decEq j k with hjk | hjk
    ·rw [getD_set_ne true hjk] at hun; exact hun
    ·subst hjk; exact hjun
   ·rw [Array.setIfInBounds_comm _ _ hji]
    exact h3.2.2
  ·subst hji
   exact hy.wpOp hi hS ⟨fun _ h => h, H⟩
theorem wpAnyE_first_free {i : Nat} {oi : Oper} {v : Value} (hi : ops[i]? = some oi) (hsel : ∀ (j : Nat) (o : Oper) cs b, ops[j]? = some o → o.op ≠ .select cs b)
 (hQ : ∀ c a w, Q (.panic c) (a.put oi.dst v) w → Q (.panic c) a w) :
 ∀ (fuel : Nat) (listed : Array Bool) (a : Act) (w : World),
  (∀ j oj, ops[j]? = some oj → j ≠ i → listed.getD j true = false → (∀ e ∈ oj.after, Region.binds md e = true → e.on ≠ i) → oi.apart ops oj = true) →
  i ∈ Region.ready md ops listed → YieldsIf P ops (fun _ => True) oi v a →
  wpAnyE P md ops Q S ex fuel (listed.setIfInBounds i true) (a.put oi.dst v) w → wpAnyE P md ops Q S ex (fuel + 1) listed a w := by
 intro fuel
 induction fuel with
 | zero =>
  intro listed a w _ hr hy H
  refine ⟨fun h => (by rw [h] at hr; cases hr), fun j hj => ?_⟩
  rcases Nat.decEq j i with hji | hji
  ·have := ready_mono hj hji
   rw [H.1] at this
   cases this
  ·subst hji
   exact hy.wpOp hi trivial ⟨fun _ h => h, H⟩
 | succ fuel ih =>
  intro listed a w hfree hr hy H
  refine ⟨fun h => (by rw [h] at hr; cases hr), fun j hj => ?_⟩
  rcases Nat.decEq j i with hji | hji
  ·have hrest := H.2 j (ready_mono hj hji)
   obtain ⟨hjun, oj, hoj, hall⟩ := mem_ready.1 hj
   have hiun := (mem_ready.1 hr).1
   have hnot : ∀ e ∈ oj.after, Region.binds md e = true → e.on ≠ i := fun e he hb heq => by
    have hl := hall e he hb
    rw [heq] at hl
    simp only [Array.getD_eq_getD_getElem?] at hl hiun
    cases hh : listed[i]? with
    | none => rw [hh] at hl; cases hl
    | some b => rw [hh] at hl hiun; simp only [Option.getD_some] at hl hiun; rw [hl] at hiun; cases hiun
   have hput := wpOp_putIf hoj (hfree j oj hoj hji hjun hnot) (fun cs b => hsel i oi cs b hi) (fun cs b => hsel j oj cs b hoj) hQ hy hrest
   refine wpOp_mono (fun a' w' h3 => ⟨h3.2.1, ?_⟩) hput
   refine ih (listed.setIfInBounds j true) a' w' ?_ (ready_mono hr (Ne.symm hji)) h3.1 ?_
   ·intro k ok hk hki hun hno
    refine hfree k ok hk hki ?_ hno
    rcases Nat.decEq j k with hjk | hjk
    ·rw [getD_set_ne true hjk] at hun; exact hun
    ·subst hjk; exact hjun
   ·rw [Array.setIfInBounds_comm _ _ hji]
    exact h3.2.2
  ·subst hji
   exact hy.wpOp hi trivial ⟨fun _ h => h, H⟩
/-! the moves -/
theorem wpAnyE_take {i : Nat} {oi : Oper} {v : Value} {fuel : Nat} {listed : Array Bool} {a : Act} {w : World} {xs : List Nat} (hi : ops[i]? = some oi)
 (hs : Region.noSelect ops = true) (hf : Region.free md ops listed i = true) (hr : (Region.ready md ops listed).contains i = true) (hx : xs.all (fun j => waits md ops ops.size j i) = true)
 (hQ : ∀ c a w, Q (.panic c) (a.put oi.dst v) w → Q (.panic c) a w) (hy : YieldsIf P ops S oi v a) (hS : S w) (hc : Closed md ops listed)
 (h : Closed md ops (listed.setIfInBounds i true) → wpAnyE P md ops Q S (fun j => xs.contains j) fuel (listed.setIfInBounds i true) (a.put oi.dst v) w) : wpAnyE P md ops Q S (fun j => xs.contains j) (fuel + 1) listed a w := by
 have hr' : i ∈ Region.ready md ops listed := by simpa using hr
 refine wpAnyE_first hi (Region.noSelect_spec hs) hQ (fun j hj => ?_) fuel listed a w hc (Region.free_spec hi hf) hr' hy hS (h (hc.next hr'))
 exact List.all_eq_true.1 hx j (by simpa using hj)
theorem wpAnyE_free {i : Nat} {oi : Oper} {v : Value} {fuel : Nat} {listed : Array Bool} {a : Act} {w : World} (hi : ops[i]? = some oi)
 (hs : Region.noSelect ops = true) (hf : Region.free md ops listed i = true) (hr : (Region.ready md ops listed).contains i = true)
 (hQ : ∀ c a w, Q (.panic c) (a.put oi.dst v) w → Q (.panic c) a w) (hy : YieldsIf P ops (fun _ => True) oi v a) (hc : Closed md ops listed)
 (h : Closed md ops (listed.setIfInBounds i true) → wpAnyE P md ops Q S ex fuel (listed.setIfInBounds i true) (a.put oi.dst v) w) : wpAnyE P md ops Q S ex (fuel + 1) listed a w := by
 have hr' : i ∈ Region.ready md ops listed := by simpa using hr
 exact wpAnyE_first_free hi (Region.noSelect_spec hs) hQ fuel listed a w (Region.free_spec hi hf) hr' hy (h (hc.next hr'))
theorem eY (i : Nat) {oi : Oper} {v : Value} {fuel : Nat} {listed : Array Bool} {a : Act} {w : World} {xs : List Nat} (hS : S w) (hc : Closed md ops listed)
 (h : Closed md ops (listed.setIfInBounds i true) → wpAnyE P md ops Q S (fun j => xs.contains j) fuel (listed.setIfInBounds i true) (a.put oi.dst v) w)
 (hi : ops[i]? = some oi := by rfl) (hQ : ∀ c a w, Q (.panic c) (a.put oi.dst v) w → Q (.panic c) a w := by exact fun _ _ _ h => h)
 (hw : Region.wanted oi (yielded ops a.tmps) = true := by rfl) (hy : ∀ u, S u → (execOp a.eval oi).run P u = .ok (.value v) u := by (intro u hu; (try dsimp only at hu); go_simp; try with_reducible rfl))
 (hs : Region.noSelect ops = true := by kernel_rfl) (hf : Region.free md ops listed i = true := by kernel_rfl) (hr : (Region.ready md ops listed).contains i = true := by kernel_rfl) (hx : xs.all (fun j => waits md ops ops.size j i) = true := by kernel_rfl) :
 wpAnyE P md ops Q S (fun j => xs.contains j) (fuel + 1) listed a w := wpAnyE_take hi hs hf hr hx hQ (.inl ⟨hw, hy⟩) hS hc h
theorem eX (i : Nat) {oi : Oper} {v : Value} {fuel : Nat} {listed : Array Bool} {a : Act} {w : World} (hc : Closed md ops listed)
 (h : Closed md ops (listed.setIfInBounds i true) → wpAnyE P md ops Q S ex fuel (listed.setIfInBounds i true) (a.put oi.dst v) w)
 (hi : ops[i]? = some oi := by rfl) (hQ : ∀ c a w, Q (.panic c) (a.put oi.dst v) w → Q (.panic c) a w := by exact fun _ _ _ h => h)
 (hw : Region.wanted oi (yielded ops a.tmps) = true := by rfl) (hy : ∀ u, True → (execOp a.eval oi).run P u = .ok (.value v) u := by (intro u _; go_simp; try with_reducible rfl))
 (hs : Region.noSelect ops = true := by kernel_rfl) (hf : Region.free md ops listed i = true := by kernel_rfl) (hr : (Region.ready md ops listed).contains i = true := by kernel_rfl) : wpAnyE P md ops Q S ex (fuel + 1) listed a w := wpAnyE_free hi hs hf hr hQ (.inl ⟨hw, hy⟩) hc h
theorem eN (i : Nat) {oi : Oper} {fuel : Nat} {listed : Array Bool} {a : Act} {w : World} (hc : Closed md ops listed)
 (h : Closed md ops (listed.setIfInBounds i true) → wpAnyE P md ops Q S ex fuel (listed.setIfInBounds i true) (a.put oi.dst undef) w)
 (hi : ops[i]? = some oi := by rfl) (hQ : ∀ c a w, Q (.panic c) (a.put oi.dst undef) w → Q (.panic c) a w := by exact fun _ _ _ h => h)
 (hw : Region.wanted oi (yielded ops a.tmps) = false := by rfl)
 (hs : Region.noSelect ops = true := by kernel_rfl) (hf : Region.free md ops listed i = true := by kernel_rfl) (hr : (Region.ready md ops listed).contains i = true := by kernel_rfl) : wpAnyE P md ops Q S ex (fuel + 1) listed a w := wpAnyE_free hi hs hf hr hQ (.inr ⟨hw, rfl⟩) hc h
def AllReadyE (P : Program) (md : Region.Mode) (ops : Array Oper) (Q : Exit → Act → World → Prop) (S : World → Prop) (ex : Nat → Bool) (fuel : Nat) (listed : Array Bool) (a : Act) (w : World) (rs : List Nat) : Prop :=
 ∀ i ∈ rs, wpOp P ops Q i (fun a' w' => (ex i = false → S w → S w') ∧ wpAnyE P md ops Q S ex fuel (listed.setIfInBounds i true) a' w') a w
theorem AllReadyE.nil {fuel : Nat} {listed : Array Bool} {a : Act} {w : World} : AllReadyE P md ops Q S ex fuel listed a w [] := fun _ h => by cases h
theorem AllReadyE.cons {fuel : Nat} {listed : Array Bool} {a : Act} {w : World} {i : Nat} {o : Oper} {rs : List Nat} (ho : ops[i]? = some o)
 (h : ∀ K' : Act → World → Prop, Shut (∀ a w, (ex i = false → S w) → (S w → wpAnyE P md ops Q S ex fuel (listed.setIfInBounds i true) a w) → (ex i = true → wpAnyE P md ops Q S ex fuel (listed.setIfInBounds i true) a w) → K' a w) →
  if Region.wanted o (yielded ops a.tmps) = true then Oper.wp P o a w K' Q else K' (a.put o.dst undef) w)
 (hs : AllReadyE P md ops Q S ex fuel listed a w rs) : AllReadyE P md ops Q S ex fuel listed a w (i :: rs) := fun j hj => by
 rcases List.mem_cons.1 hj with hji | hj
 ·subst hji
  refine wpOp_step ho (fun K' hK => h K' (fun a w hS hW hX => hK a w ⟨fun he _ => hS he, ?_⟩))
  cases he : ex j with
  | false => exact hW (hS he)
  | true => exact hX he
 ·exact hs j hj
theorem wpAnyE_ready {rs : List Nat} {fuel : Nat} {listed : Array Bool} {a : Act} {w : World} (hr : Region.ready md ops listed = rs) (hne : rs ≠ [])
 (h : AllReadyE P md ops Q S ex fuel listed a w rs) : wpAnyE P md ops Q S ex (fuel + 1) listed a w :=
 ⟨fun h0 => absurd (hr ▸ h0) hne, hr ▸ h⟩
theorem eA (i : Nat) {fuel : Nat} {listed : Array Bool} {a : Act} {w : World} {o : Oper}
 (h : ∀ K' : Act → World → Prop, Shut (∀ a w, (ex i = false → S w) → (S w → wpAnyE P md ops Q S ex fuel (listed.setIfInBounds i true) a w) → (ex i = true → wpAnyE P md ops Q S ex fuel (listed.setIfInBounds i true) a w) → K' a w) →
  if Region.wanted o (yielded ops a.tmps) = true then Oper.wp P o a w K' Q else K' (a.put o.dst undef) w)
 (ho : ops[i]? = some o := by rfl) (hr : Region.ready md ops listed = [i] := by kernel_rfl) : wpAnyE P md ops Q S ex (fuel + 1) listed a w :=
 wpAnyE_ready hr (List.cons_ne_nil _ _) (AllReadyE.cons ho h AllReadyE.nil)
theorem eB {K' : Act → World → Prop} {fuel : Nat} {listed : Array Bool} {a : Act} {w : World} {i : Nat} (hK : Shut (∀ a w, (ex i = false → S w) → (S w → wpAnyE P md ops Q S ex fuel (listed.setIfInBounds i true) a w) → (ex i = true → wpAnyE P md ops Q S ex fuel (listed.setIfInBounds i true) a w) → K' a w))
 (hZ : Closed md ops listed) (hS : S w) (h : S w → Closed md ops (listed.setIfInBounds i true) → wpAnyE P md ops Q S ex fuel (listed.setIfInBounds i true) a w)
 (hr : (Region.ready md ops listed).contains i = true := by kernel_rfl) (hx : ex i = false := by kernel_rfl) : K' a w :=
 hK.out a w (fun _ => hS) (fun h' => h h' (hZ.step i hr)) (fun hX => by rw [hx] at hX; cases hX)
theorem eE {K' : Act → World → Prop} {fuel : Nat} {listed : Array Bool} {a : Act} {w : World} {i : Nat} (hK : Shut (∀ a w, (ex i = false → S w) → (S w → wpAnyE P md ops Q S ex fuel (listed.setIfInBounds i true) a w) → (ex i = true → wpAnyE P md ops Q S ex fuel (listed.setIfInBounds i true) a w) → K' a w))
 (hZ : Closed md ops listed) (h : Closed md ops (listed.setIfInBounds i true) → wpAnyE P md ops Q S ex fuel (listed.setIfInBounds i true) a w)
 (hr : (Region.ready md ops listed).contains i = true := by kernel_rfl) (hx : ex i = true := by kernel_rfl) : K' a w :=
 hK.out a w (fun hX => by rw [hx] at hX; cases hX) (fun _ => h (hZ.step i hr)) (fun _ => h (hZ.step i hr))
theorem wpAnyE_done {listed : Array Bool} {a : Act} {w : World} (hr : Region.ready md ops listed = []) (h : Q .normal a w) :
 ∀ fuel, wpAnyE P md ops Q S ex fuel listed a w
 | 0 => ⟨hr, h⟩
 | _ + 1 => ⟨fun _ => h, by rw [hr]; simp⟩
theorem wp_region_E {id : Nat} {a : Act} {w : World} (xs : List Nat) (hm : P.follows .mixedOrders = true) (hS : S w.drew)
 (h : S w.drew → Closed .any ops (Array.replicate ops.size false) → wpAnyE P .any ops Q S (fun j => xs.contains j) ops.size (Array.replicate ops.size false) a w.drew) : (Code.region id ops true).wp P Q a w :=
 wp_region_any hm (wpAny_of_E _ _ _ _ (h hS (closed_none _ _ _)))
end
end Go.Proofs.Ytadfleopbpomfaa
