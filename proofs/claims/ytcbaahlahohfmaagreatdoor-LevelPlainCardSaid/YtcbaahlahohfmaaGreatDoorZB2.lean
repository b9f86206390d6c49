/- Shared texts, shaken for one claim. -/
import Derived.WalkKit
import Derived.OrdersHeld
import Derived.Deep.RegionHeld
import Derived.Deep.RegionHeld3
import Derived.Deep.DeepCutAuto
import Derived.Test.YtcbaahlahohfmaaGreatDoorZB1
namespace Go.Proofs.YtcbaahlahohfmaaGreatDoor
open Go
section
variable {P : Program} {ops : Array Oper} {Q : Exit → Act → World → Prop} {md : Region.Mode} {S : World → Prop} {ex : Nat → Bool}
def waits (md : Region.Mode) (ops : Array Oper) : Nat → Nat → Nat → Bool
 | 0, _, _ => false
 | fuel + 1, j, i => match ops[j]? with
  | some o => o.after.any fun e => Region.binds md e && (e.on == i || waits md ops fuel e.on i)
  | none => false
def Closed (md : Region.Mode) (ops : Array Oper) (listed : Array Bool) : Prop :=
 ∀ k o, ops[k]? = some o → listed.getD k false = true → ∀ e ∈ o.after, Region.binds md e = true → listed.getD e.on false = true
theorem closed_none (md : Region.Mode) (ops : Array Oper) (n : Nat) : Closed md ops (Array.replicate n false) := by
 intro k o _ h
 simp only [Array.getD_eq_getD_getElem?, Array.getElem?_replicate] at h
 split at h <;> simp at h
theorem Closed.next {listed : Array Bool} {i : Nat} (h : Closed md ops listed) (hi : i ∈ Region.ready md ops listed) : Closed md ops (listed.setIfInBounds i true) := by
 intro k o hk hl e he hb
 by_cases hki : k = i
 ·subst hki
  obtain ⟨_, o', ho', hall⟩ := mem_ready.1 hi
  obtain rfl : o = o' := Option.some.inj (hk.symm.trans ho')
  exact getD_set_true (hall e he hb)
 ·rw [getD_set_ne false (Ne.symm hki)] at hl
  exact getD_set_true (h k o hk hl e he hb)
theorem Closed.step {listed : Array Bool} (i : Nat) (h : Closed md ops listed) (hi : (Region.ready md ops listed).contains i = true) : Closed md ops (listed.setIfInBounds i true) := h.next (by simpa using hi)
theorem waits_listed {listed : Array Bool} (hc : Closed md ops listed) : ∀ (fuel j i : Nat), (∀ o, ops[j]? = some o → ∀ e ∈ o.after, Region.binds md e = true → listed.getD e.on false = true) → waits md ops fuel j i = true → listed.getD i false = true := by
 intro fuel
 induction fuel with
 | zero => intro j i _ h; cases h
 | succ fuel ih =>
  intro j i hj h
  unfold waits at h
  split at h
  ·rename_i o ho
   obtain ⟨e, he, hb⟩ := Array.any_eq_true'.1 h
   simp only [Bool.and_eq_true, Bool.or_eq_true, beq_iff_eq] at hb
   have hl := hj o ho e he hb.1
   rcases hb.2 with h2 | h2
   ·rw [← h2]; exact hl
   ·exact ih e.on i (fun o' ho' => hc e.on o' ho' hl) h2
  ·cases h
def wpAnyE (P : Program) (md : Region.Mode) (ops : Array Oper) (Q : Exit → Act → World → Prop) (S : World → Prop) (ex : Nat → Bool) : Nat → Array Bool → Act → World → Prop
 | 0, listed, a, w => Region.ready md ops listed = [] ∧ Q .normal a w
 | fuel + 1, listed, a, w =>
  (Region.ready md ops listed = [] → Q .normal a w) ∧
  ∀ i ∈ Region.ready md ops listed, wpOp P ops Q i (fun a' w' => (ex i = false → S w → S w') ∧ wpAnyE P md ops Q S ex fuel (listed.setIfInBounds i true) a' w') a w
theorem wpAny_of_E : ∀ (fuel : Nat) (listed : Array Bool) (a : Act) (w : World), wpAnyE P md ops Q S ex fuel listed a w → wpAny P md ops Q fuel listed a w
 | 0, _, _, _, h => h
 | fuel + 1, _, _, _, h => ⟨h.1, fun i hi => wpOp_mono (fun a' w' h' => wpAny_of_E fuel _ a' w' h'.2) (h.2 i hi)⟩
theorem wpAnyE_first {i : Nat} {oi : Oper} {v : Value} (hi : ops[i]? = some oi) (hsel : ∀ (j : Nat) (o : Oper) cs b, ops[j]? = some o → o.op ≠ .select cs b)
 (hQ : ∀ c a w, Q (.panic c) (a.put oi.dst v) w → Q (.panic c) a w) (hex : ∀ j, ex j = true → waits md ops ops.size j i = true) :
 ∀ (fuel : Nat) (listed : Array Bool) (a : Act) (w : World), Closed md ops listed →
  (∀ j oj, ops[j]? = some oj → j ≠ i → listed.getD j true = false → (∀ e ∈ oj.after, Region.binds md e = true → e.on ≠ i) → oi.apart ops oj = true) →
  i ∈ Region.ready md ops listed → YieldsIf P ops S oi v a → S w →
  wpAnyE P md ops Q S ex fuel (listed.setIfInBounds i true) (a.put oi.dst v) w → wpAnyE P md ops Q S ex (fuel + 1) listed a w := by
 intro fuel
 induction fuel with
 | zero =>
  intro listed a w _ _ hr hy hS H
  refine ⟨fun h => (by rw [h] at hr; cases hr), fun j hj => ?_⟩
  rcases Nat.decEq j i with hji | hji
  ·have := ready_mono hj hji
   rw [H.1] at this
   cases this
  ·subst hji
   exact hy.wpOp hi hS ⟨fun _ h => h, H⟩
 | succ fuel ih =>
  intro listed a w hc hfree hr hy hS H
  refine ⟨fun h => (by rw [h] at hr; cases hr), fun j hj => ?_⟩
  rcases Nat.decEq j i with hji | hji
  ·have hrest := H.2 j (ready_mono hj hji)
   obtain ⟨hjun, oj, hoj, hall⟩ := mem_ready.1 hj
   have hiun := (mem_ready.1 hr).1
   have clash : ∀ {m : Nat}, m = i → listed.getD m false = true → False := fun hm hl => by
    rw [hm] at hl
    simp only [Array.getD_eq_getD_getElem?] at hl hiun
    cases hh : listed[i]? with
    | none => rw [hh] at hl; cases hl
    | some b => rw [hh] at hl hiun; simp only [Option.getD_some] at hl hiun; rw [hl] at hiun; cases hiun
   have hnot : ∀ e ∈ oj.after, Region.binds md e = true → e.on ≠ i := fun e he hb heq => clash heq (hall e he hb)
   have hnex : ex j = false := by
    cases he : ex j with
    | false => rfl
    | true =>
     refine (clash rfl (waits_listed hc _ j i (fun o ho e hee hb => ?_) (hex j he))).elim
     obtain rfl : oj = o := Option.some.inj (hoj.symm.trans ho)
     exact hall e hee hb
   have hput := wpOp_putIf hoj (hfree j oj hoj hji hjun hnot) (fun cs b => hsel i oi cs b hi) (fun cs b => hsel j oj cs b hoj) hQ hy hrest
   refine wpOp_mono (fun a' w' h3 => ⟨h3.2.1, ?_⟩) hput
   refine ih (listed.setIfInBounds j true) a' w' (hc.next hj) ?_ (ready_mono hr (Ne.symm hji)) h3.1 (h3.2.1 hnex hS) ?_
   ·intro k ok hk hki hun hno
    refine hfree k ok hk hki ?_ hno
    rcases Nat.decEq j k with hjk | hjk
    ·rw [getD_set_ne true hjk] at hun; exact hun
    ·subst hjk; exact hjun
   ·rw [Array.setIfInBounds_comm _ _ hji]
    exact h3.2.2
  ·subst hji
   exact hy.wpOp hi hS ⟨fun _ h => h, H⟩
theorem wpAnyE_first_free {i : Nat} {oi : Oper} {v : Value} (hi : ops[i]? = some oi) (hsel : ∀ (j : Nat) (o : Oper) cs b, ops[j]? = some o → o.op ≠ .select cs b)
 (hQ : ∀ c a w, Q (.panic c) (a.put oi.dst v) w → Q (.panic c) a w) :
 ∀ (fuel : Nat) (listed : Array Bool) (a : Act) (w : World),
  (∀ j oj, ops[j]? = some oj → j ≠ i → listed.getD j true = false → (∀ e ∈ oj.after, Region.binds md e = true → e.on ≠ i) → oi.apart ops oj = true) →
  i ∈ Region.ready md ops listed → YieldsIf P ops (fun _ => True) oi v a →
  wpAnyE P md ops Q S ex fuel (listed.setIfInBounds i true) (a.put oi.dst v) w → wpAnyE P md ops Q S ex (fuel + 1) listed a w := by
 intro fuel
 induction fuel with
 | zero =>
  intro listed a w _ hr hy H
  refine ⟨fun h => (by rw [h] at hr; cases hr), fun j hj => ?_⟩
  rcases Nat.decEq j i with hji | hji
  ·have := ready_mono hj hji
   rw [H.1] at this
   cases this
  ·subst hji
   exact hy.wpOp hi trivial ⟨fun _ h => h, H⟩
 | succ fuel ih =>
  intro listed a w hfree hr hy H
  refine ⟨fun h => (by rw [h] at hr; cases hr), fun j hj => ?_⟩
  rcases Nat.decEq j i with hji | hji
  ·have hrest := H.2 j (ready_mono hj hji)
   obtain ⟨hjun, oj, hoj, hall⟩ := mem_ready.1 hj
   have hiun := (mem_ready.1 hr).1
   have hnot : ∀ e ∈ oj.after, Region.binds md e = true → e.on ≠ i := fun e he hb heq => by
    have hl := hall e he hb
    rw [heq] at hl
    simp only [Array.getD_eq_getD_getElem?] at hl hiun
    cases hh : listed[i]? with
    | none => rw [hh] at hl; cases hl
    | some b => rw [hh] at hl hiun; simp only [Option.getD_some] at hl hiun; rw [hl] at hiun; cases hiun
   have hput := wpOp_putIf hoj (hfree j oj hoj hji hjun hnot) (fun cs b => hsel i oi cs b hi) (fun cs b => hsel j oj cs b hoj) hQ hy hrest
   refine wpOp_mono (fun a' w' h3 => ⟨h3.2.1, ?_⟩) hput
   refine ih (listed.setIfInBounds j true) a' w' ?_ (ready_mono hr (Ne.symm hji)) h3.1 ?_
   ·intro k ok hk hki hun hno
    refine hfree k ok hk hki ?_ hno
    rcases Nat.decEq j k with hjk | hjk
    ·rw [getD_set_ne true hjk] at hun; exact hun
    ·subst hjk; exact hjun
   ·rw [Array.setIfInBounds_comm _ _ hji]
    exact h3.2.2
  ·subst hji
   exact hy.wpOp hi trivial ⟨fun _ h => h, H⟩
/-! the moves -/
theorem wpAnyE_take {i : Nat} {oi : Oper} {v : Value} {fuel : Nat} {listed : Array Bool} {a : Act} {w : World} {xs : List Nat} (hi : ops[i]? = some oi)
 (hs : Region.noSelect ops = true) (hf : Region.free md ops listed i = true) (hr : (Region.ready md ops listed).contains i = true) (hx : xs.all (fun j => waits md ops ops.size j i) = true)
 (hQ : ∀ c a w, Q (.panic c) (a.put oi.dst v) w → Q (.panic c) a w) (hy : YieldsIf P ops S oi v a) (hS : S w) (hc : Closed md ops listed)
 (h : Closed md ops (listed.setIfInBounds i true) → wpAnyE P md ops Q S (fun j => xs.contains j) fuel (listed.setIfInBounds i true) (a.put oi.dst v) w) : wpAnyE P md ops Q S (fun j => xs.contains j) (fuel + 1) listed a w := by
 have hr' : i ∈ Region.ready md ops listed := by simpa using hr
 refine wpAnyE_first hi (Region.noSelect_spec hs) hQ (fun j hj => ?_) fuel listed a w hc (Region.free_spec hi hf) hr' hy hS (h (hc.next hr'))
 exact List.all_eq_true.1 hx j (by simpa using hj)
theorem wpAnyE_free {i : Nat} {oi : Oper} {v : Value} {fuel : Nat} {listed : Array Bool} {a : Act} {w : World} (hi : ops[i]? = some oi)
 (hs : Region.noSelect ops = true) (hf : Region.free md ops listed i = true) (hr : (Region.ready md ops listed).contains i = true)
 (hQ : ∀ c a w, Q (.panic c) (a.put oi.dst v) w → Q (.panic c) a w) (hy : YieldsIf P ops (fun _ => True) oi v a) (hc : Closed md ops listed)
 (h : Closed md ops (listed.setIfInBounds i true) → wpAnyE P md ops Q S ex fuel (listed.setIfInBounds i true) (a.put oi.dst v) w) : wpAnyE P md ops Q S ex (fuel + 1) listed a w := by
 have hr' : i ∈ Region.ready md ops listed := by simpa using hr
 exact wpAnyE_first_free hi (Region.noSelect_spec hs) hQ fuel listed a w (Region.free_spec hi hf) hr' hy (h (hc.next hr'))
theorem eY (i : Nat) {oi : Oper} {v : Value} {fuel : Nat} {listed : Array Bool} {a : Act} {w : World} {xs : List Nat} (hS : S w) (hc : Closed md ops listed)
 (h : Closed md ops (listed.setIfInBounds i true) → wpAnyE P md ops Q S (fun j => xs.contains j) fuel (listed.setIfInBounds i true) (a.put oi.dst v) w)
 (hi : ops[i]? = some oi := by rfl) (hQ : ∀ c a w, Q (.panic c) (a.put oi.dst v) w → Q (.panic c) a w := by exact fun _ _ _ h => h)
 (hw : Region.wanted oi (yielded ops a.tmps) = true := by rfl) (hy : ∀ u, S u → (execOp a.eval oi).run P u = .ok (.value v) u := by (intro u hu; (try dsimp only at hu); go_simp; try with_reducible rfl))
 (hs : Region.noSelect ops = true := by kernel_rfl) (hf : Region.free md ops listed i = true := by kernel_rfl) (hr : (Region.ready md ops listed).contains i = true := by kernel_rfl) (hx : xs.all (fun j => waits md ops ops.size j i) = true := by kernel_rfl) :
 wpAnyE P md ops Q S (fun j => xs.contains j) (fuel + 1) listed a w := wpAnyE_take hi hs hf hr hx hQ (.inl ⟨hw, hy⟩) hS hc h
theorem eX (i : Nat) {oi : Oper} {v : Value} {fuel : Nat} {listed : Array Bool} {a : Act} {w : World} (hc : Closed md ops listed)
 (h : Closed md ops (listed.setIfInBounds i true) → wpAnyE P md ops Q S ex fuel (listed.setIfInBounds i true) (a.put oi.dst v) w)
 (hi : ops[i]? = some oi := by rfl) (hQ : ∀ c a w, Q (.panic c) (a.put oi.dst v) w → Q (.panic c) a w := by exact fun _ _ _ h => h)
 (hw : Region.wanted oi (yielded ops a.tmps) = true := by rfl) (hy : ∀ u, True → (execOp a.eval oi).run P u = .ok (.value v) u := by (intro u _; go_simp; try with_reducible rfl))
 (hs : Region.noSelect ops = true := by kernel_rfl) (hf : Region.free md ops listed i = true := by kernel_rfl) (hr : (Region.ready md ops listed).contains i = true := by kernel_rfl) : wpAnyE P md ops Q S ex (fuel + 1) listed a w := wpAnyE_free hi hs hf hr hQ (.inl ⟨hw, hy⟩) hc h
def AllReadyE (P : Program) (md : Region.Mode) (ops : Array Oper) (Q : Exit → Act → World → Prop) (S : World → Prop) (ex : Nat → Bool) (fuel : Nat) (listed : Array Bool) (a : Act) (w : World) (rs : List Nat) : Prop :=
 ∀ i ∈ rs, wpOp P ops Q i (fun a' w' => (ex i = false → S w → S w') ∧ wpAnyE P md ops Q S ex fuel (listed.setIfInBounds i true) a' w') a w
theorem AllReadyE.nil {fuel : Nat} {listed : Array Bool} {a : Act} {w : World} : AllReadyE P md ops Q S ex fuel listed a w [] := fun _ h => by cases h
theorem AllReadyE.cons {fuel : Nat} {listed : Array Bool} {a : Act} {w : World} {i : Nat} {o : Oper} {rs : List Nat} (ho : ops[i]? = some o)
 (h : ∀ K' : Act → World → Prop, Shut (∀ a w, (ex i = false → S w) → (S w → wpAnyE P md ops Q S ex fuel (listed.setIfInBounds i true) a w) → (ex i = true → wpAnyE P md ops Q S ex fuel (listed.setIfInBounds i true) a w) → K' a w) →
  if Region.wanted o (yielded ops a.tmps) = true then Oper.wp P o a w K' Q else K' (a.put o.dst undef) w)
 (hs : AllReadyE P md ops Q S ex fuel listed a w rs) : AllReadyE P md ops Q S ex fuel listed a w (i :: rs) := fun j hj => by
 rcases List.mem_cons.1 hj with hji | hj
 ·subst hji
  refine wpOp_step ho (fun K' hK => h K' (fun a w hS hW hX => hK a w ⟨fun he _ => hS he, ?_⟩))
  cases he : ex j with
  | false => exact hW (hS he)
  | true => exact hX he
 ·exact hs j hj
theorem wpAnyE_ready {rs : List Nat} {fuel : Nat} {listed : Array Bool} {a : Act} {w : World} (hr : Region.ready md ops listed = rs) (hne : rs ≠ [])
 (h : AllReadyE P md ops Q S ex fuel listed a w rs) : wpAnyE P md ops Q S ex (fuel + 1) listed a w :=
 ⟨fun h0 => absurd (hr ▸ h0) hne, hr ▸ h⟩
theorem eA (i : Nat) {fuel : Nat} {listed : Array Bool} {a : Act} {w : World} {o : Oper}
 (h : ∀ K' : Act → World → Prop, Shut (∀ a w, (ex i = false → S w) → (S w → wpAnyE P md ops Q S ex fuel (listed.setIfInBounds i true) a w) → (ex i = true → wpAnyE P md ops Q S ex fuel (listed.setIfInBounds i true) a w) → K' a w) →
  if Region.wanted o (yielded ops a.tmps) = true then Oper.wp P o a w K' Q else K' (a.put o.dst undef) w)
 (ho : ops[i]? = some o := by rfl) (hr : Region.ready md ops listed = [i] := by kernel_rfl) : wpAnyE P md ops Q S ex (fuel + 1) listed a w :=
 wpAnyE_ready hr (List.cons_ne_nil _ _) (AllReadyE.cons ho h AllReadyE.nil)
theorem eB {K' : Act → World → Prop} {fuel : Nat} {listed : Array Bool} {a : Act} {w : World} {i : Nat} (hK : Shut (∀ a w, (ex i = false → S w) → (S w → wpAnyE P md ops Q S ex fuel (listed.setIfInBounds i true) a w) → (ex i = true → wpAnyE P md ops Q S ex fuel (listed.setIfInBounds i true) a w) → K' a w))
 (hZ : Closed md ops listed) (hS : S w) (h : S w → Closed md ops (listed.setIfInBounds i true) → wpAnyE P md ops Q S ex fuel (listed.setIfInBounds i true) a w)
 (hr : (Region.ready md ops listed).contains i = true := by kernel_rfl) (hx : ex i = false := by kernel_rfl) : K' a w :=
 hK.out a w (fun _ => hS) (fun h' => h h' (hZ.step i hr)) (fun hX => by rw [hx] at hX; cases hX)
theorem eE {K' : Act → World → Prop} {fuel : Nat} {listed : Array Bool} {a : Act} {w : World} {i : Nat} (hK : Shut (∀ a w, (ex i = false → S w) → (S w → wpAnyE P md ops Q S ex fuel (listed.setIfInBounds i true) a w) → (ex i = true → wpAnyE P md ops Q S ex fuel (listed.setIfInBounds i true) a w) → K' a w))
 (hZ : Closed md ops listed) (h : Closed md ops (listed.setIfInBounds i true) → wpAnyE P md ops Q S ex fuel (listed.setIfInBounds i true) a w)
 (hr : (Region.ready md ops listed).contains i = true := by kernel_rfl) (hx : ex i = true := by kernel_rfl) : K' a w :=
 hK.out a w (fun hX => by rw [hx] at hX; cases hX) (fun _ => h (hZ.step i hr)) (fun _ => h (hZ.step i hr))
theorem wpAnyE_done {listed : Array Bool} {a : Act} {w : World} (hr : Region.ready md ops listed = []) (h : Q .normal a w) :
 ∀ fuel, wpAnyE P md ops Q S ex fuel listed a w
 | 0 => ⟨hr, h⟩
 | _ + 1 => ⟨fun _ => h, by rw [hr]; simp⟩
theorem wp_region_E {id : Nat} {a : Act} {w : World} (xs : List Nat) (hm : P.follows .mixedOrders = true) (hS : S w.drew)
 (h : S w.drew → Closed .any ops (Array.replicate ops.size false) → wpAnyE P .any ops Q S (fun j => xs.contains j) ops.size (Array.replicate ops.size false) a w.drew) : (Code.region id ops true).wp P Q a w :=
 wp_region_any hm (wpAny_of_E _ _ _ _ (h hS (closed_none _ _ _)))
end
end Go.Proofs.YtcbaahlahohfmaaGreatDoor
namespace Go.Proofs.YtcbaahlahohfmaaGreatDoor
open Go.RowKit
def fitsX (x : X6) (n : Int) : Bool := decide (n ≤ 125) && (((x.isos : Int) == 0) && ((x.embeds : Int) == 0))
def pushX (x : X6) (e : Ent) : X6 := { x with st := e :: x.st, most := max x.most (x.st.length + 1) }
end Go.Proofs.YtcbaahlahohfmaaGreatDoor
namespace Go.Proofs.YtcbaahlahohfmaaGreatDoor
open Go.RowKit
section
variable {w w' : World} {B g : Nat} {x x' : X6} {lsl sv lv cv : Value}
theorem IsX.far (h : IsX w B g x lsl sv lv cv) : sv.ownBlock ≠ some g ∧ lv.ownBlock ≠ some g ∧ cv.ownBlock ≠ some g := by
 have key : ∀ {e' : TypeId} {s m : Nat} {u : Value} {xs : List Value}, OwnN w B e' s u m xs → e' ≠ 72 → u.ownBlock ≠ some g := fun ho he e1 => by
  rcases ho.unlike h.row he with h2 | h2
  ·rw [h2] at e1; cases e1
  ·exact h2 e1
 exact ⟨key h.stack (by decide), key h.levels (by decide), key h.classes (by decide)⟩
theorem IsX.stored (h : IsX w B g x lsl sv lv cv) {j : Nat} {u : Value} (r : OwnN w' B 72 1 (.slice (some ⟨g, 0, none⟩) 9 9) 9 ((x.cells sv lv cv lsl).set j u)) (hg : w.grownBy w' (some g))
 (hx : x'.cells sv lv cv lsl = (x.cells sv lv cv lsl).set j u) (h1 : x'.st = x.st) (h2 : x'.levels = x.levels) (h3 : x'.classes = x.classes) : IsX w' B g x' lsl sv lv cv := by
 obtain ⟨f1, f2, f3⟩ := h.far
 exact ⟨hx ▸ r, by rw [h1]; exact h.stack.keep hg (.inr f1), by rw [h2]; exact h.levels.keep hg (.inr f2), by rw [h3]; exact h.classes.keep hg (.inr f3), h.apart⟩
theorem IsX.same (h : IsX w B g x lsl sv lv cv) (hh : w'.heap = w.heap) : IsX w' B g x lsl sv lv cv :=
 ⟨h.row.same hh, h.stack.same hh, h.levels.same hh, h.classes.same hh, h.apart⟩
theorem IsX.storedStack (h : IsX w B g x lsl sv lv cv) {u : Value} (r : OwnN w' B 72 1 (.slice (some ⟨g, 0, none⟩) 9 9) 9 ((x.cells sv lv cv lsl).set 1 u)) (hg : w.grownBy w' (some g))
 (st : List Ent) (ho : OwnN w B 99 3 u st.length (ents st.reverse)) (hu : u.ownBlock ≠ some g) : IsX w' B g { x with st := st } lsl u lv cv := by
 obtain ⟨_, f2, f3⟩ := h.far
 exact ⟨r, ho.keep hg (.inr hu), h.levels.keep hg (.inr f2), h.classes.keep hg (.inr f3), h.apart⟩
end
def startX (x : X6) : X6 := { x with st := [⟨x.base, -1, false⟩], isos := 0, embeds := 0, valid := 0, most := max x.most 1 }
end Go.Proofs.YtcbaahlahohfmaaGreatDoor
namespace Go.Proofs.YtcbaahlahohfmaaGreatDoor
open Go.RowKit
theorem grown_ne {w : World} {u v : Value} {k : Nat} (he : v.ownBlock = u.ownBlock ∨ ∃ q, v.ownBlock = some q ∧ w.heap.size ≤ q) (hu : u.ownBlock ≠ some k) (hk : k < w.heap.size) : v.ownBlock ≠ some k := by
 rcases he with he | ⟨q, he, hq⟩
 ·rw [he]; exact hu
 ·rw [he]; intro e; injection e with e; omega
structure Frame (w w' : World) (g : Nat) (sv sv' : Value) : Prop where
 size : w.heap.size ≤ w'.heap.size
 keep : ∀ k, k < w.heap.size → k ≠ g → sv.ownBlock ≠ some k → w'.heap[k]? = w.heap[k]?
 new : ∀ k, sv'.ownBlock = some k → sv.ownBlock = some k ∨ w.heap.size ≤ k
section
variable {w w' w'' : World} {g : Nat} {sv sv' sv'' : Value}
theorem Frame.below (hb : Below w.heap.size w w') : Frame w w' g sv sv := ⟨hb.size, fun k hk _ _ => hb.block k hk, fun _ h => .inl h⟩
theorem Frame.refl (w : World) (g : Nat) (sv : Value) : Frame w w g sv sv := Frame.below (Below.refl _ _)
theorem Frame.same (hh : w'.heap = w.heap) : Frame w w' g sv sv := ⟨by rw [hh]; exact Nat.le_refl _, fun k _ _ _ => by rw [hh], fun _ h => .inl h⟩
theorem Frame.store (hg : w.grownBy w' (some g)) : Frame w w' g sv sv := ⟨hg.size, fun k hk h1 _ => hg.block k hk (fun e => h1 (Option.some.inj e)), fun _ h => .inl h⟩
theorem Frame.app (hg : w.grownBy w' sv.ownBlock) (he : sv'.ownBlock = sv.ownBlock ∨ ∃ q, sv'.ownBlock = some q ∧ w.heap.size ≤ q) : Frame w w' g sv sv' :=
 ⟨hg.size, fun k hk _ h2 => hg.block k hk (fun e => h2 e.symm), fun k hk => by
  rcases he with he | ⟨q, he, hq⟩
  ·exact .inl (he ▸ hk)
  ·rw [he] at hk; injection hk with hk; subst hk; exact .inr hq⟩
theorem Frame.trans (h1 : Frame w w' g sv sv') (h2 : Frame w' w'' g sv' sv'') : Frame w w'' g sv sv'' :=
 ⟨Nat.le_trans h1.size h2.size, fun k hk hg hs => (h2.keep k (Nat.lt_of_lt_of_le hk h1.size) hg (fun e => by
  rcases h1.new k e with h | h
  ·exact hs h
  ·omega)).trans (h1.keep k hk hg hs), fun k hk => by
  rcases h2.new k hk with h | h
  ·exact h1.new k h
  ·exact .inr (Nat.le_trans h1.size h)⟩
theorem Frame.cell (h : Frame w w' g sv sv') {a j : Nat} (ha : a < w.heap.size) (hg : a ≠ g) (hs : sv.ownBlock ≠ some a) : w'.cell? ⟨a, j, none⟩ = w.cell? ⟨a, j, none⟩ := World.cell?_of_block (h.keep a ha hg hs)
end
structure P6 where
 base : Int
 st : List Ent
 isos : Nat
 embeds : Nat
 valid : Nat
def P6.cells (p : P6) (lsl sv : Value) : List Value := [lsl, .int .i64 p.base, sv, .int .i64 p.isos, .int .i64 p.embeds, .int .i64 p.valid]
structure IsP (w : World) (B g : Nat) (p : P6) (lsl sv : Value) : Prop where
 row : OwnN w B 86 1 (.slice (some ⟨g, 0, none⟩) 6 6) 6 (p.cells lsl sv)
 stack : OwnN w B 88 3 sv p.st.length (ents p.st.reverse)
section
variable {w w' : World} {B g : Nat} {p p' : P6} {lsl sv : Value}
theorem IsP.below (h : IsP w B g p lsl sv) {C : Nat} (hb : Below C w w') (hC : w.heap.size ≤ C) : IsP w' B g p lsl sv := ⟨h.row.below hb hC, h.stack.below hb hC⟩
theorem IsP.field (h : IsP w B g p lsl sv) (j : Nat) (hj : j < 6) : w.cell? ⟨g, j, none⟩ = (p.cells lsl sv)[j]? := World.ownsRow.cellAt h.row j (by omega)
theorem IsP.inside (h : IsP w B g p lsl sv) : B ≤ g ∧ g < w.heap.size := h.row.inside g rfl
theorem IsP.le (h : IsP w B g p lsl sv) : B ≤ w.heap.size := by have := h.inside; omega
theorem IsP.far (h : IsP w B g p lsl sv) : sv.ownBlock ≠ some g := fun e1 => by
 rcases h.stack.unlike h.row (by decide) with h2 | h2
 ·rw [h2] at e1; cases e1
 ·exact h2 e1
theorem IsP.same (h : IsP w B g p lsl sv) (hh : w'.heap = w.heap) : IsP w' B g p lsl sv := ⟨h.row.same hh, h.stack.same hh⟩
theorem IsP.alloc (h : IsP w B g p lsl sv) (o : Obj) : IsP (w.alloc o) B g p lsl sv := ⟨h.row.alloc o, h.stack.alloc o⟩
theorem IsP.stored (h : IsP w B g p lsl sv) {j : Nat} {u : Value} (r : OwnN w' B 86 1 (.slice (some ⟨g, 0, none⟩) 6 6) 6 ((p.cells lsl sv).set j u)) (hg : w.grownBy w' (some g))
 (hx : p'.cells lsl sv = (p.cells lsl sv).set j u) (h1 : p'.st = p.st) : IsP w' B g p' lsl sv :=
 ⟨hx ▸ r, by rw [h1]; exact h.stack.keep hg (.inr h.far)⟩
theorem IsP.storedStack (_h : IsP w B g p lsl sv) {u : Value} (r : OwnN w' B 86 1 (.slice (some ⟨g, 0, none⟩) 6 6) 6 ((p.cells lsl sv).set 2 u)) (hg : w.grownBy w' (some g))
 (st : List Ent) (ho : OwnN w B 88 3 u st.length (ents st.reverse)) (hu : u.ownBlock ≠ some g) : IsP w' B g { p with st := st } lsl u :=
 ⟨r, ho.keep hg (.inr hu)⟩
end
theorem pentsT : SliceOfN Tryz.prog 84 88 (.agg #[.int .i64 0, .int .i64 0, .bool false]) 3 24 := ⟨by kernel_rfl, by kernel_rfl, rfl, by decide⟩
def HasP (w : World) (B g : Nat) (p : P6) (lsl : Value) : Prop := ∃ sv, IsP w B g p lsl sv
def Went (w w' : World) (B g : Nat) (p : P6) (lsl sv : Value) : Prop := ∃ sv', IsP w' B g p lsl sv' ∧ Frame w w' g sv sv'
theorem Went.has {w w' : World} {B g : Nat} {p : P6} {lsl sv : Value} (h : Went w w' B g p lsl sv) : HasP w' B g p lsl := by obtain ⟨sv', h, _⟩ := h; exact ⟨sv', h⟩
structure P6.Small (p : P6) : Prop where
 st : p.st.length ≤ 100000
 isos : p.isos ≤ 1000000
 embeds : p.embeds ≤ 1000000
 valid : p.valid ≤ 1000000
theorem pfield0 (a b : Int) (i : Bool) (u : World) : (Instr.field 88 (.agg #[.int .i64 a, .int .i64 b, .bool i]) 0).run Tryz.prog u = .ok (.int .i64 a) u := by kernel_rfl
theorem pfield2 (a b : Int) (i : Bool) (u : World) : (Instr.field 88 (.agg #[.int .i64 a, .int .i64 b, .bool i]) 2).run Tryz.prog u = .ok (.bool i) u := by kernel_rfl
set_option maxRecDepth 20000 in
set_option maxHeartbeats 1000000 in
theorem plast_any (w : World) (B g : Nat) (p : P6) (lsl : Value) (e : Ent) (st : List Ent) (hst : p.st = e :: st) (hp : HasP w B g p lsl) (hsm : p.st.length ≤ 1000000) :
 Calls Tryz.prog 81 #[.pointer (some ⟨g, 0, none⟩)] w fun ed w' => ed = .returned (.agg #[.int .i64 e.lev, .int .i64 e.over, .bool e.iso]) ∧ Below w.heap.size w w' := by
 obtain ⟨sv, h⟩ := hp
 have hin := h.inside
 obtain ⟨gs, c, rfl, hnc, hgs, hgl, hcells⟩ := h.stack.block (by rw [hst]; simp)
 have h1 := h.field 2 (by omega)
 simp only [P6.cells, List.getElem?_cons_succ, List.getElem?_cons_zero] at h1
 obtain ⟨n, hn⟩ : ∃ n, st.length = n := ⟨_, rfl⟩
 have hxl : p.st.length = n + 1 := by rw [hst]; simp [hn]
 rw [hxl] at h1 hcells
 have hrev : ents p.st.reverse = ents st.reverse ++ e.cells := by rw [hst, List.reverse_cons, ents_append]; simp [ents]
 have hel : (ents st.reverse).length = n * 3 := by simp [hn]
 have hc0 := hcells (n * 3) (by omega)
 have hc1 := hcells (n * 3 + 1) (by omega)
 have hc2 := hcells (n * 3 + 2) (by omega)
 rw [hrev, List.getElem?_append_right (by omega), hel] at hc0 hc1 hc2
 simp only [Nat.sub_self, Nat.add_sub_cancel_left, Ent.cells, List.getElem?_cons_zero, List.getElem?_cons_succ] at hc0 hc1 hc2
 have hw1 : IntKind.i64.wrap (((n + 1 : Nat) : Int) - 1) = (n : Int) := by rw [IntWalk.i64_in _ (by omega)]; omega
 have hw2 : IntKind.i64.wrap (n : Int) = (n : Int) := IntWalk.i64_in _ (by omega)
 have b0 : (0 : Int) ≤ (n : Int) := by omega
 have b1 : (n : Int) < ((n + 1 : Nat) : Int) := by omega
 have hne : ¬ w.heap.size = g := by omega
 have hne' : ¬ w.heap.size = gs := by omega
 clear hrev hel hcells hxl hn hst
 go_enter Tryz.func81, Tryz.ntmps81
 go_wp2
 go_region
 go_wp2
 (try simp only [Exit.inBlock, Exit.then])
 refine bodyPost_ret (v := .agg #[.int .i64 e.lev, .int .i64 e.over, .bool e.iso]) ?_ rfl ⟨rfl, below_drawn (below_alloc _ _) 1⟩
 exact results_cell_row rfl _ _ w.heap.size 88 _ (0, 0) _ rfl (Go.heap_alloc_new w _) Tryz.underlying88 rfl (by kernel_rfl)
def overP (p : P6) : Bool := decide (0 < p.isos) || decide (0 < p.embeds)
set_option maxRecDepth 20000 in
set_option maxHeartbeats 1000000 in
theorem overflows_any (w : World) (B g : Nat) (p : P6) (lsl : Value) (hp : HasP w B g p lsl) :
 Calls Tryz.prog 127 #[.pointer (some ⟨g, 0, none⟩)] w fun e w' => e = .returned (.bool (overP p)) ∧ w = w' := by
 obtain ⟨sv, h⟩ := hp
 have h2 := h.field 3 (by omega)
 have h3 := h.field 4 (by omega)
 simp only [P6.cells, List.getElem?_cons_succ, List.getElem?_cons_zero] at h2 h3
 clear h
 rcases hA : decide (0 < p.isos) with _ | _
 ·rcases hB : decide (0 < p.embeds) with _ | _
  ·have hf : overP p = false := by simp [overP, hA, hB]
   rw [hf]
   clear hf
   go_enter Tryz.func127, Tryz.ntmps127
   go_wp2
   go_ret
   exact ⟨rfl, rfl⟩
  ·have hf : overP p = true := by simp [overP, hB]
   rw [hf]
   clear hf
   go_enter Tryz.func127, Tryz.ntmps127
   go_wp2
   go_ret
   exact ⟨rfl, rfl⟩
 ·have hf : overP p = true := by simp [overP, hA]
  rw [hf]
  clear hf
  go_enter Tryz.func127, Tryz.ntmps127
  go_wp2
  go_ret
  exact ⟨rfl, rfl⟩
set_option maxRecDepth 20000 in
set_option maxHeartbeats 1000000 in
theorem pnext_any (k dir : Int) (w : World) : Calls Tryz.prog 159 #[.int .i64 k, .int .i64 dir] w fun e w' => e = .returned (.int .i64 (nextL k dir)) ∧ w = w' := by
 obtain ⟨z, hz⟩ : ∃ z, nextL k dir = z := ⟨_, rfl⟩
 rw [hz]
 rcases h0 : decide (k < 0) with _ | _
 ·rcases h1 : decide (k > 125) with _ | _
  ·obtain ⟨n, rfl⟩ : ∃ n : Nat, k = n := ⟨k.toNat, by simp at h0; omega⟩
   have hn : n ≤ 125 := by simp at h1; omega
   rcases hd : (dir == 1) with _ | _
   ·have hzz : IntKind.i64.wrap (IntKind.i64.wrap ((n : Int) + 2) - (n : Int) % 2) = z := by
     rw [IntWalk.i64_in ((n : Int) + 2) (by omega), IntWalk.i64_in _ (by omega), ← hz, nextL, if_neg (by omega), if_neg (by simpa using hd)]
     split <;> omega
    have hw1 : IntKind.i64.wrap ((n : Int) + 2) = (n : Int) + 2 := IntWalk.i64_in _ (by omega)
    rw [hw1] at hzz
    clear hz
    go_enter Tryz.func159, Tryz.ntmps159
    go_wp2
    go_ret
    exact ⟨rfl, rfl⟩
   ·have hzz : IntKind.i64.wrap (IntKind.i64.wrap ((n : Int) + 1) + (n : Int) % 2) = z := by
     rw [IntWalk.i64_in ((n : Int) + 1) (by omega), IntWalk.i64_in _ (by omega), ← hz, nextL, if_neg (by omega), if_pos (by simpa using hd)]
     split <;> omega
    have hw1 : IntKind.i64.wrap ((n : Int) + 1) = (n : Int) + 1 := IntWalk.i64_in _ (by omega)
    rw [hw1] at hzz
    clear hz
    go_enter Tryz.func159, Tryz.ntmps159
    go_wp2
    go_ret
    exact ⟨rfl, rfl⟩
  ·have : z = -1 := by rw [← hz, nextL, if_pos (by simp at h1; omega)]
   subst this
   clear hz
   go_enter Tryz.func159, Tryz.ntmps159
   go_wp2
   go_ret
   exact ⟨rfl, rfl⟩
 ·have : z = -1 := by rw [← hz, nextL, if_pos (by simp at h0; omega)]
  subst this
  clear hz
  go_enter Tryz.func159, Tryz.ntmps159
  go_wp2
  go_ret
  exact ⟨rfl, rfl⟩
set_option maxRecDepth 20000 in
set_option maxHeartbeats 1000000 in
theorem ppop_any (w : World) (B g : Nat) (p : P6) (lsl sv : Value) (e : Ent) (st : List Ent) (hst : p.st = e :: st) (h : IsP w B g p lsl sv) (hsm : p.st.length ≤ 1000000) :
 Calls Tryz.prog 130 #[.pointer (some ⟨g, 0, none⟩)] w fun ed w' => ed = .returned (.tuple #[]) ∧ Went w w' B g { p with st := st } lsl sv ∧ Below B w w' := by
 have hin := h.inside
 obtain ⟨n, hn⟩ : ∃ n, st.length = n := ⟨_, rfl⟩
 have hxl : p.st.length = n + 1 := by rw [hst]; simp [hn]
 obtain ⟨A, c, rfl, hnc, hsh⟩ := h.stack.short (j := n) (by omega)
 have f1 := h.far
 have h1 := h.field 2 (by omega)
 simp only [P6.cells, List.getElem?_cons_succ, List.getElem?_cons_zero] at h1
 have hsv : OwnN w B 88 3 (.slice A n c) st.length (ents st.reverse) := by
  have hr : (ents p.st.reverse).take (n * 3) = ents st.reverse := by
   rw [hst, List.reverse_cons, ents_append, List.take_left' (by simp [hn])]
  rw [hr] at hsh
  rw [hn]; exact hsh
 obtain ⟨gs, hA⟩ : ∃ gs, A = some ⟨gs, 0, none⟩ := by
  obtain ⟨gs, c', hv, _⟩ := h.stack.block (by omega)
  injection hv with hv
  exact ⟨gs, hv⟩
 subst hA
 rw [hxl] at h1 hnc
 have hw1 : IntKind.i64.wrap (((n + 1 : Nat) : Int) - 1) = (n : Int) := by rw [IntWalk.i64_in _ (by omega)]; omega
 have hw2 : IntKind.i64.wrap (n : Int) = (n : Int) := IntWalk.i64_in _ (by omega)
 have b0 : (0 : Int) ≤ (n : Int) := by omega
 have b1 : (n : Int) ≤ (c : Int) := by omega
 have H := Lib.hid h
 have HS := Lib.hid hsv
 have HX := Lib.hid hxl
 have F1 : Hid ((Value.slice (some ⟨gs, 0, none⟩) n c).ownBlock ≠ some g) := Lib.hid f1
 have hcc : ¬ c = 0 := by omega
 clear h hsv hsh f1 hxl hn hst hsm
 go_enter Tryz.func130, Tryz.ntmps130
 go_wp2
 refine wp_region_E (S := fun w' => w'.cell? ⟨g, 2, none⟩ = some (.slice (some ⟨gs, 0, none⟩) (n + 1) c)) [14] (by kernel_rfl) (h1) (fun hHeld hZ => ?_)
 refine' eY 0 hHeld hZ fun hZ => ?_
 try simp only [Act.put,ZA,ZB,ZD,ZE,ZF]
 refine' eY 1 hHeld hZ fun hZ => ?_
 try simp only [Act.put,ZA,ZB,ZC,ZD,ZE,ZF]
 refine' eY 2 hHeld hZ fun hZ => ?_
 try simp only [Act.put,ZA,ZB,ZC,ZD,ZE,ZF]
 refine' eY 3 hHeld hZ fun hZ => ?_
 try simp only [Act.put,ZA,ZB,ZC,ZD,ZE,ZF]
 refine' eY 4 hHeld hZ fun hZ => ?_
 try simp only [Act.put,ZA,ZB,ZC,ZD,ZE,ZF]
 refine' eY 5 hHeld hZ fun hZ => ?_
 try simp only [Act.put,ZA,ZB,ZC,ZD,ZE,ZF]
 refine' eY 6 hHeld hZ fun hZ => ?_
 try simp only [Act.put,ZA,ZB,ZC,ZD,ZE,ZF]
 refine' eY 7 hHeld hZ fun hZ => ?_
 try simp only [Act.put,ZA,ZB,ZC,ZD,ZE,ZF]
 refine' eY 8 hHeld hZ fun hZ => ?_
 try simp only [Act.put,ZA,ZB,ZC,ZD,ZE,ZF]
 refine' eY 9 hHeld hZ fun hZ => ?_
 try simp only [Act.put,ZA,ZB,ZC,ZD,ZE,ZF]
 refine' eY 10 hHeld hZ fun hZ => ?_
 try simp only [Act.put,ZA,ZB,ZC,ZD,ZE,ZF]
 refine' eY 11 hHeld hZ fun hZ => ?_
 try simp only [Act.put,ZA,ZB,ZC,ZD,ZE,ZF]
 refine' eY 12 hHeld hZ fun hZ => ?_
 try simp only [Act.put,ZA,ZB,ZC,ZD,ZE,ZF]
 refine' eY 13 hHeld hZ fun hZ => ?_
 try simp only [Act.put,ZA,ZB,ZC,ZD,ZE,ZF]
 refine eA 14 fun K hK => ?_
 refine step_store w.drew B (.tmp 15) (.tmp 13) g 2 6 (.slice (some ⟨gs, 0, none⟩) n c) _ w.drew rfl rfl rfl (by kernel_rfl) rfl rfl rfl (H.out.row.same rfl) (by simp [P6.cells]) (Below.refl _ _) ?_
 intro w8 r8 b8 g8
 have R8 := Lib.hid r8
 have G8 := Lib.hid g8
 have B8 := Lib.hid b8
 clear r8 g8 b8
 refine eE hK hZ fun hZ => ?_
 clear hK K
 try simp only [Act.put,ZA,ZB,ZC,ZD,ZE,ZF]
 refine wpAnyE_done (by kernel_rfl) ?_ _
 clear hZ
 go_wp2
 (try simp only [Exit.inBlock, Exit.then])
 refine bodyPost_end (results_none rfl _ _ _) rfl ⟨rfl, ⟨.slice (some ⟨gs, 0, none⟩) n c, ?_, ((Frame.same (w := w) (w' := w.drew) (sv := .slice (some ⟨gs, 0, none⟩) p.st.length c) rfl).trans (Frame.store G8.out)).trans ⟨Nat.le_refl _, fun _ _ _ _ => rfl, fun _ h => .inl h⟩⟩, below_then_drew B8.out⟩
 exact (H.out.same (w' := w.drew) rfl).storedStack R8.out G8.out st (HS.out.same rfl) F1.out
theorem ent_lies (u : World) (e : Ent) : Lies (u.alloc (.cells #[.int .i64 e.lev, .int .i64 e.over, .bool e.iso] 88)) (u.heap.size + 1) (some ⟨u.heap.size, 0, none⟩) e.cells :=
 Lies.lit (w := u) (e := 88) #[.int .i64 e.lev, .int .i64 e.over, .bool e.iso]
theorem ents_push (e : Ent) (st : List Ent) : ents (e :: st).reverse = ents st.reverse ++ e.cells := by
 rw [List.reverse_cons, ents_append]; simp [ents]
theorem cells_one (e : Ent) : ∀ u ∈ e.cells, u.oneCell' = true := by simp [Ent.cells, Value.oneCell']
def fitP (p : P6) (d : Int) : Bool := match p.st with | [] => false | e :: _ => decide (nextL e.lev d ≤ 125)
def pushP (p : P6) (d o : Int) (i : Bool) : P6 := match p.st with | [] => p | e :: _ => if nextL e.lev d ≤ 125 then { p with st := ⟨nextL e.lev d, o, i⟩ :: p.st } else p
set_option maxRecDepth 20000 in
set_option maxHeartbeats 4000000 in
theorem ppush_any (w : World) (B g : Nat) (p : P6) (lsl sv : Value) (d o : Int) (i : Bool) (e : Ent) (st : List Ent) (hst : p.st = e :: st) (hp : IsP w B g p lsl sv) (hsm : p.st.length ≤ 1000000) :
 Calls Tryz.prog 128 #[.pointer (some ⟨g, 0, none⟩), .int .i64 d, .int .i64 o, .bool i] w fun ed w' => ed = .returned (.bool (fitP p d)) ∧ Went w w' B g (pushP p d o i) lsl sv ∧ Below B w w' := by
 have HP := Lib.hid hp
 have HST := Lib.hid hst
 obtain ⟨n, hn⟩ : ∃ n, nextL e.lev d = n := ⟨_, rfl⟩
 have HN := Lib.hid hn
 have hB : B ≤ w.heap.size := hp.le
 have hf0 := pfield0 e.lev e.over e.iso
 rcases hfit : decide (n > 125) with _ | _
 ·have hle : n ≤ 125 := by simp at hfit; omega
  have HF : Hid (fitP p d = true) := Lib.hid (by rw [fitP, hst]; simp [hn, hle])
  have HU : Hid (pushP p d o i = { p with st := ⟨n, o, i⟩ :: p.st }) := Lib.hid (by unfold pushP; rw [hst]; simp only [hn]; rw [if_pos hle])
  rw [HF.out, HU.out]
  clear hp hst hn hle
  go_enter Tryz.func128, Tryz.ntmps128
  go_wp2_with fail
  refine (plast_any w B g p lsl e st HST.out ⟨_, HP.out⟩ hsm).mono ?_
  rintro ed w1 ⟨rfl, b1⟩
  have B1 := Lib.hid (b1.mono hB)
  have X1 : Hid (IsP w1 B g p lsl sv) := Lib.hid (HP.out.below b1 (Nat.le_refl _))
  have FR1 : Hid (Frame w w1 g sv sv) := Lib.hid (Frame.below b1)
  clear b1
  go_wp2_with fail
  refine (pnext_any e.lev d w1).mono ?_
  rintro e wq ⟨rfl, rfl⟩
  rw [HN.out]
  have h := X1.out
  obtain ⟨A, c, rfl, hl, hnc, _⟩ := h.stack.form
  have h1 := h.field 2 (by omega)
  simp only [P6.cells, List.getElem?_cons_succ, List.getElem?_cons_zero] at h1
  have hB1 := h.le
  have H := Lib.hid h
  have HSL : Hid (p.st.length ≤ 1000000) := Lib.hid hsm
  have hin := h.inside
  have h1' : (w1.alloc (.cells #[.int .i64 n, .int .i64 o, .bool i] 88)).cell? ⟨g, 2, none⟩ = some (.slice A p.st.length c) := by
   rw [(below_alloc w1 _).cell (show g < w1.heap.size by omega)]; exact h1
  have HL := Lib.hid (ent_lies w1 ⟨n, o, i⟩)
  have HO := Lib.hid (h.alloc (.cells #[.int .i64 n, .int .i64 o, .bool i] 88))
  have HBA := Lib.hid ((below_alloc w1 (.cells #[.int .i64 n, .int .i64 o, .bool i] 88)).mono hB1)
  clear h hl
  go_wp2_with (first
   | (at_builtin; refine appN_at pentsT _ _ B _ _ _ _ p.st.length 1 (ents p.st.reverse) (Ent.cells ⟨n, o, i⟩) _ _ rfl rfl rfl rfl HO.out.stack HL.out rfl (cells_one _) (Below.refl _ _) HO.out.le (by have := HSL.out; unfold maxLen; omega) (by have := HSL.out; omega) ?_; intro v2 w2 o2 b2 g2 e2; have O2 := Lib.hid o2; obtain ⟨A2, c2, rfl, _, _, _⟩ := o2.form; have B2 := Lib.hid b2; have G2 := Lib.hid g2; have E2 := Lib.hid e2; clear o2 b2 g2 e2)
   | (refine store_cell w2 B _ _ g 2 6 (.slice A2 (p.st.length + 1) c2) _ w2 rfl rfl rfl (by kernel_rfl) rfl rfl rfl (HO.out.row.keep G2.out (.inr (fun e => HO.out.far e.symm))) (by simp [P6.cells]) (Below.refl _ _) ?_; intro w3 r3 b3 g3; have R3 := Lib.hid r3; have G3 := Lib.hid g3; have B3 : Hid (Below B w w3) := Lib.hid (B1.out.trans (HBA.out.trans (B2.out.trans b3))); clear r3 b3 g3)
   | fail)
  go_ret
  refine ⟨rfl, ⟨_, ⟨R3.out, ?_⟩, ((FR1.out.trans (Frame.below (below_alloc w1 _))).trans (Frame.app G2.out E2.out)).trans (Frame.store G3.out)⟩, B3.out⟩
  have := O2.out.keep G3.out (.inr (grown_ne E2.out HO.out.far (by have := HO.out.inside; omega)))
  rw [ents_push]
  exact this
 ·have hgt : ¬ n ≤ 125 := by simp at hfit; omega
  have HF : Hid (fitP p d = false) := Lib.hid (by rw [fitP, hst]; simp [hn]; omega)
  have HU : Hid (pushP p d o i = p) := Lib.hid (by unfold pushP; rw [hst]; simp only [hn]; rw [if_neg hgt])
  rw [HF.out, HU.out]
  clear hp hst hn hgt
  go_enter Tryz.func128, Tryz.ntmps128
  go_wp2_with fail
  refine (plast_any w B g p lsl e st HST.out ⟨_, HP.out⟩ hsm).mono ?_
  rintro ed w1 ⟨rfl, b1⟩
  have B1 := Lib.hid (b1.mono hB)
  have X1 : Hid (IsP w1 B g p lsl sv) := Lib.hid (HP.out.below b1 (Nat.le_refl _))
  have FR1 : Hid (Frame w w1 g sv sv) := Lib.hid (Frame.below b1)
  clear b1
  go_wp2_with fail
  refine (pnext_any e.lev d w1).mono ?_
  rintro e wq ⟨rfl, rfl⟩
  rw [HN.out]
  go_wp2_with fail
  go_ret
  exact ⟨rfl, ⟨_, X1.out, FR1.out⟩, B1.out⟩
end Go.Proofs.YtcbaahlahohfmaaGreatDoor
namespace Go.Proofs.YtcbaahlahohfmaaGreatDoor
open Go.RowKit
section
variable {w w' w'' : World} {B g : Nat} {x : X6} {lsl sv lv cv v : Value} {z : Int}
end
def putX (x : X6) (c : Int) : X6 := match x.st with
 | [] => x
 | e :: _ => { x with levels := x.levels ++ [e.lev], classes := x.classes ++ [if 0 ≤ e.over then e.over else c] }
structure X6.Small (x : X6) : Prop where
 st : x.st.length ≤ 100000
 lev : x.levels.length ≤ 1000000
 cls : x.classes.length ≤ 1000000
 isos : x.isos ≤ 1000000
 embeds : x.embeds ≤ 1000000
 valid : x.valid ≤ 1000000
end Go.Proofs.YtcbaahlahohfmaaGreatDoor
namespace Go.Proofs.YtcbaahlahohfmaaGreatDoor
open Go.RowKit
structure LitAt (w : World) (k : Nat) (cs : List Value) : Prop where
 lt : k < w.heap.size
 cells : ∀ i u, cs[i]? = some u → w.cell? ⟨k, i, none⟩ = some u
section
variable {w w' : World} {k : Nat} {cs : List Value}
theorem LitAt.new (w : World) (e : TypeId) (c : Array Value) : LitAt (w.alloc (.cells c e)) w.heap.size c.toList := ⟨by simp, fun i u hu => by simpa using hu⟩
theorem LitAt.lies (h : LitAt w k cs) : Lies w w.heap.size (some ⟨k, 0, none⟩) cs := fun _ => ⟨_, rfl, h.lt, fun i u hu => by rw [add_plain, Nat.zero_add]; exact h.cells i u hu⟩
theorem LitAt.below (h : LitAt w k cs) (hb : Below w.heap.size w w') : LitAt w' k cs := ⟨Nat.lt_of_lt_of_le h.lt hb.size, fun i u hu => (hb.cell (p := ⟨k, i, none⟩) h.lt).trans (h.cells i u hu)⟩
theorem LitAt.alloc (h : LitAt w k cs) (o : Obj) : LitAt (w.alloc o) k cs := h.below (below_alloc w o)
theorem LitAt.grown (h : LitAt w k cs) {row : Option Nat} (hg : w.grownBy w' row) (hr : row ≠ some k) : LitAt w' k cs :=
 ⟨Nat.lt_of_lt_of_le h.lt hg.size, fun i u hu => (World.cell?_of_block (hg.block k h.lt (fun e => hr e.symm))).trans (h.cells i u hu)⟩
end
structure IsY (w : World) (B g : Nat) (x : X6) (lsl sv lv cv v : Value) (z : Int) : Prop where
 row : OwnN w B 72 1 (.slice (some ⟨g, 0, none⟩) 9 9) 9 (x.cells sv lv cv lsl)
 stack : OwnN w B 99 3 sv x.st.length (ents x.st.reverse)
 new : OwnN w B 3 1 v (x.levels.length + 1) (ints .i64 x.levels ++ [.int .i64 z])
 classes : OwnN w B 3 1 cv x.classes.length (ints .i64 x.classes)
 apart : Apart v cv
structure IsZ (w : World) (B g : Nat) (x : X6) (lsl sv lv cv v v2 : Value) (z z2 : Int) : Prop where
 row : OwnN w B 72 1 (.slice (some ⟨g, 0, none⟩) 9 9) 9 (x.cells sv lv cv lsl)
 stack : OwnN w B 99 3 sv x.st.length (ents x.st.reverse)
 new : OwnN w B 3 1 v (x.levels.length + 1) (ints .i64 x.levels ++ [.int .i64 z])
 new2 : OwnN w B 3 1 v2 (x.classes.length + 1) (ints .i64 x.classes ++ [.int .i64 z2])
 apart : Apart v v2
section
variable {w w' w'' : World} {B g : Nat} {x : X6} {lsl sv lv cv v v2 : Value} {z z2 : Int}
theorem far_of {e' : TypeId} {s m : Nat} {u : Value} {xs : List Value} (row : OwnN w B 72 1 (.slice (some ⟨g, 0, none⟩) 9 9) 9 (x.cells sv lv cv lsl)) (ho : OwnN w B e' s u m xs) (he : e' ≠ 72) : u.ownBlock ≠ some g := fun e1 => by
 rcases ho.unlike row he with h2 | h2
 ·rw [h2] at e1; cases e1
 ·exact h2 e1
theorem IsX.le (h : IsX w B g x lsl sv lv cv) : B ≤ w.heap.size := by have := h.inside; omega
theorem IsY.le (h : IsY w B g x lsl sv lv cv v z) : B ≤ w.heap.size := by have := h.row.inside g rfl; omega
theorem IsX.alloc (h : IsX w B g x lsl sv lv cv) (o : Obj) : IsX (w.alloc o) B g x lsl sv lv cv := h.below (below_alloc w o) (Nat.le_refl _)
theorem IsY.alloc (h : IsY w B g x lsl sv lv cv v z) (o : Obj) : IsY (w.alloc o) B g x lsl sv lv cv v z := ⟨h.row.alloc o, h.stack.alloc o, h.new.alloc o, h.classes.alloc o, h.apart⟩
theorem IsZ.done (h : IsZ w B g x lsl sv lv cv v v2 z z2) (_ : OwnN w' B 72 1 (.slice (some ⟨g, 0, none⟩) 9 9) 9 ((x.cells sv lv cv lsl).set 6 v)) (g1 : w.grownBy w' (some g))
 (r2 : OwnN w'' B 72 1 (.slice (some ⟨g, 0, none⟩) 9 9) 9 (((x.cells sv lv cv lsl).set 6 v).set 7 v2)) (g2 : w'.grownBy w'' (some g)) :
 IsX w'' B g { x with levels := x.levels ++ [z], classes := x.classes ++ [z2] } lsl sv v v2 := by
 have k : ∀ {e' : TypeId} {s m : Nat} {u : Value} {xs : List Value}, OwnN w B e' s u m xs → e' ≠ 72 → OwnN w'' B e' s u m xs := fun ho he =>
  (ho.keep g1 (.inr (far_of h.row ho he))).keep g2 (.inr (far_of h.row ho he))
 refine ⟨r2, k h.stack (by decide), ?_, ?_, h.apart⟩
 ·have := k h.new (by decide); simpa [ints] using this
 ·have := k h.new2 (by decide); simpa [ints] using this
end
def dirOf (c : Int) : Int := if c = 16 ∨ c = 17 then 1 else 0
def overOf (c : Int) : Int := if c = 15 then 0 else if c = 17 then 1 else -1
def embedX (x : X6) (c : Int) : X6 := match x.st with
 | [] => x
 | e :: _ =>
  let y : X6 := { x with levels := x.levels ++ [e.lev], classes := x.classes ++ [c] }
  let n := nextL e.lev (dirOf c)
  if fitsX y n then pushX y ⟨n, overOf c, false⟩ else if x.isos = 0 then { y with embeds := y.embeds + 1 } else y
end Go.Proofs.YtcbaahlahohfmaaGreatDoor
