/- A region that draws its order: loads are taken first under a condition on the world; of operations that wait for all of these loads (the stores at a statement's end) nothing is asked. -/
import Derived.WalkKit
import Derived.OrdersHeld
import Derived.Deep.RegionHeld
namespace Go.Proofs.Ytpllklikjnndcaa
open Go

section
variable {P : Program} {ops : Array Oper} {Q : Exit → Act → World → Prop} {md : Region.Mode} {S : World → Prop} {ex : Nat → Bool}

/-- does operation j wait for operation i, be it through others? -/
def waits (md : Region.Mode) (ops : Array Oper) : Nat → Nat → Nat → Bool
  | 0, _, _ => false
  | fuel + 1, j, i => match ops[j]? with
    | some o => o.after.any fun e => Region.binds md e && (e.on == i || waits md ops fuel e.on i)
    | none => false
/-- what is listed is listed with all that it waits for -/
def Closed (md : Region.Mode) (ops : Array Oper) (listed : Array Bool) : Prop :=
  ∀ k o, ops[k]? = some o → listed.getD k false = true → ∀ e ∈ o.after, Region.binds md e = true → listed.getD e.on false = true
theorem closed_none (md : Region.Mode) (ops : Array Oper) (n : Nat) : Closed md ops (Array.replicate n false) := by
  intro k o _ h
  simp only [Array.getD_eq_getD_getElem?, Array.getElem?_replicate] at h
  split at h <;> simp at h
theorem Closed.next {listed : Array Bool} {i : Nat} (h : Closed md ops listed) (hi : i ∈ Region.ready md ops listed) : Closed md ops (listed.setIfInBounds i true) := by
  intro k o hk hl e he hb
  by_cases hki : k = i
  · subst hki
    obtain ⟨_, o', ho', hall⟩ := mem_ready.1 hi
    obtain rfl : o = o' := Option.some.inj (hk.symm.trans ho')
    exact getD_set_true (hall e he hb)
  · rw [getD_set_ne false (Ne.symm hki)] at hl
    exact getD_set_true (h k o hk hl e he hb)
theorem Closed.step {listed : Array Bool} (i : Nat) (h : Closed md ops listed) (hi : (Region.ready md ops listed).contains i = true) : Closed md ops (listed.setIfInBounds i true) := h.next (by simpa using hi)
theorem waits_listed {listed : Array Bool} (hc : Closed md ops listed) : ∀ (fuel j i : Nat), (∀ o, ops[j]? = some o → ∀ e ∈ o.after, Region.binds md e = true → listed.getD e.on false = true) → waits md ops fuel j i = true → listed.getD i false = true := by
  intro fuel
  induction fuel with
  | zero => intro j i _ h; cases h
  | succ fuel ih =>
    intro j i hj h
    unfold waits at h
    split at h
    · rename_i o ho
      obtain ⟨e, he, hb⟩ := Array.any_eq_true'.1 h
      simp only [Bool.and_eq_true, Bool.or_eq_true, beq_iff_eq] at hb
      have hl := hj o ho e he hb.1
      rcases hb.2 with h2 | h2
      · rw [← h2]; exact hl
      · exact ih e.on i (fun o' ho' => hc e.on o' ho' hl) h2
    · cases h

/-- whatever order is picked from here on; S holds behind each operation but those that are exempt -/
def wpAnyE (P : Program) (md : Region.Mode) (ops : Array Oper) (Q : Exit → Act → World → Prop) (S : World → Prop) (ex : Nat → Bool) : Nat → Array Bool → Act → World → Prop
  | 0, listed, a, w => Region.ready md ops listed = [] ∧ Q .normal a w
  | fuel + 1, listed, a, w =>
    (Region.ready md ops listed = [] → Q .normal a w) ∧
    ∀ i ∈ Region.ready md ops listed, wpOp P ops Q i (fun a' w' => (ex i = false → S w → S w') ∧ wpAnyE P md ops Q S ex fuel (listed.setIfInBounds i true) a' w') a w
theorem wpAny_of_E : ∀ (fuel : Nat) (listed : Array Bool) (a : Act) (w : World), wpAnyE P md ops Q S ex fuel listed a w → wpAny P md ops Q fuel listed a w
  | 0, _, _, _, h => h
  | fuel + 1, _, _, _, h => ⟨h.1, fun i hi => wpOp_mono (fun a' w' h' => wpAny_of_E fuel _ a' w' h'.2) (h.2 i hi)⟩

/-- what may be taken first: nobody that is exempt can come up ahead of it -/
theorem wpAnyE_first {i : Nat} {oi : Oper} {v : Value} (hi : ops[i]? = some oi) (hsel : ∀ (j : Nat) (o : Oper) cs b, ops[j]? = some o → o.op ≠ .select cs b)
    (hQ : ∀ c a w, Q (.panic c) (a.put oi.dst v) w → Q (.panic c) a w) (hex : ∀ j, ex j = true → waits md ops ops.size j i = true) :
    ∀ (fuel : Nat) (listed : Array Bool) (a : Act) (w : World), Closed md ops listed →
      (∀ j oj, ops[j]? = some oj → j ≠ i → listed.getD j true = false → (∀ e ∈ oj.after, Region.binds md e = true → e.on ≠ i) → oi.apart ops oj = true) →
      i ∈ Region.ready md ops listed → YieldsIf P ops S oi v a → S w →
      wpAnyE P md ops Q S ex fuel (listed.setIfInBounds i true) (a.put oi.dst v) w → wpAnyE P md ops Q S ex (fuel + 1) listed a w := by
  intro fuel
  induction fuel with
  | zero =>
    intro listed a w _ _ hr hy hS H
    refine ⟨fun h => (by rw [h] at hr; cases hr), fun j hj => ?_⟩
    rcases Nat.decEq j i with hji | hji
    · have := ready_mono hj hji
      rw [H.1] at this
      cases this
    · subst hji
      exact hy.wpOp hi hS ⟨fun _ h => h, H⟩
  | succ fuel ih =>
    intro listed a w hc hfree hr hy hS H
    refine ⟨fun h => (by rw [h] at hr; cases hr), fun j hj => ?_⟩
    rcases Nat.decEq j i with hji | hji
    · have hrest := H.2 j (ready_mono hj hji)
      obtain ⟨hjun, oj, hoj, hall⟩ := mem_ready.1 hj
      have hiun := (mem_ready.1 hr).1
      have clash : ∀ {m : Nat}, m = i → listed.getD m false = true → False := fun hm hl => by
        rw [hm] at hl
        simp only [Array.getD_eq_getD_getElem?] at hl hiun
        cases hh : listed[i]? with
        | none => rw [hh] at hl; cases hl
        | some b => rw [hh] at hl hiun; simp only [Option.getD_some] at hl hiun; rw [hl] at hiun; cases hiun
      have hnot : ∀ e ∈ oj.after, Region.binds md e = true → e.on ≠ i := fun e he hb heq => clash heq (hall e he hb)
      have hnex : ex j = false := by
        cases he : ex j with
        | false => rfl
        | true =>
          refine (clash rfl (waits_listed hc _ j i (fun o ho e hee hb => ?_) (hex j he))).elim
          obtain rfl : oj = o := Option.some.inj (hoj.symm.trans ho)
          exact hall e hee hb
      have hput := wpOp_putIf hoj (hfree j oj hoj hji hjun hnot) (fun cs b => hsel i oi cs b hi) (fun cs b => hsel j oj cs b hoj) hQ hy hrest
      refine wpOp_mono (fun a' w' h3 => ⟨h3.2.1, ?_⟩) hput
      refine ih (listed.setIfInBounds j true) a' w' (hc.next hj) ?_ (ready_mono hr (Ne.symm hji)) h3.1 (h3.2.1 hnex hS) ?_
      · intro k ok hk hki hun hno
        refine hfree k ok hk hki ?_ hno
        rcases Nat.decEq j k with hjk | hjk
        · rw [getD_set_ne true hjk] at hun; exact hun
        · subst hjk; exact hjun
      · rw [Array.setIfInBounds_comm _ _ hji]
        exact h3.2.2
    · subst hji
      exact hy.wpOp hi hS ⟨fun _ h => h, H⟩

/-- what yields in whatever world may be taken first, whatever is exempt -/
theorem wpAnyE_first_free {i : Nat} {oi : Oper} {v : Value} (hi : ops[i]? = some oi) (hsel : ∀ (j : Nat) (o : Oper) cs b, ops[j]? = some o → o.op ≠ .select cs b)
    (hQ : ∀ c a w, Q (.panic c) (a.put oi.dst v) w → Q (.panic c) a w) :
    ∀ (fuel : Nat) (listed : Array Bool) (a : Act) (w : World),
      (∀ j oj, ops[j]? = some oj → j ≠ i → listed.getD j true = false → (∀ e ∈ oj.after, Region.binds md e = true → e.on ≠ i) → oi.apart ops oj = true) →
      i ∈ Region.ready md ops listed → YieldsIf P ops (fun _ => True) oi v a →
      wpAnyE P md ops Q S ex fuel (listed.setIfInBounds i true) (a.put oi.dst v) w → wpAnyE P md ops Q S ex (fuel + 1) listed a w := by
  intro fuel
  induction fuel with
  | zero =>
    intro listed a w _ hr hy H
    refine ⟨fun h => (by rw [h] at hr; cases hr), fun j hj => ?_⟩
    rcases Nat.decEq j i with hji | hji
    · have := ready_mono hj hji
      rw [H.1] at this
      cases this
    · subst hji
      exact hy.wpOp hi trivial ⟨fun _ h => h, H⟩
  | succ fuel ih =>
    intro listed a w hfree hr hy H
    refine ⟨fun h => (by rw [h] at hr; cases hr), fun j hj => ?_⟩
    rcases Nat.decEq j i with hji | hji
    · have hrest := H.2 j (ready_mono hj hji)
      obtain ⟨hjun, oj, hoj, hall⟩ := mem_ready.1 hj
      have hiun := (mem_ready.1 hr).1
      have hnot : ∀ e ∈ oj.after, Region.binds md e = true → e.on ≠ i := fun e he hb heq => by
        have hl := hall e he hb
        rw [heq] at hl
        simp only [Array.getD_eq_getD_getElem?] at hl hiun
        cases hh : listed[i]? with
        | none => rw [hh] at hl; cases hl
        | some b => rw [hh] at hl hiun; simp only [Option.getD_some] at hl hiun; rw [hl] at hiun; cases hiun
      have hput := wpOp_putIf hoj (hfree j oj hoj hji hjun hnot) (fun cs b => hsel i oi cs b hi) (fun cs b => hsel j oj cs b hoj) hQ hy hrest
      refine wpOp_mono (fun a' w' h3 => ⟨h3.2.1, ?_⟩) hput
      refine ih (listed.setIfInBounds j true) a' w' ?_ (ready_mono hr (Ne.symm hji)) h3.1 ?_
      · intro k ok hk hki hun hno
        refine hfree k ok hk hki ?_ hno
        rcases Nat.decEq j k with hjk | hjk
        · rw [getD_set_ne true hjk] at hun; exact hun
        · subst hjk; exact hjun
      · rw [Array.setIfInBounds_comm _ _ hji]
        exact h3.2.2
    · subst hji
      exact hy.wpOp hi trivial ⟨fun _ h => h, H⟩

/-! the moves -/
theorem wpAnyE_take {i : Nat} {oi : Oper} {v : Value} {fuel : Nat} {listed : Array Bool} {a : Act} {w : World} {xs : List Nat} (hi : ops[i]? = some oi)
    (hs : Region.noSelect ops = true) (hf : Region.free md ops listed i = true) (hr : (Region.ready md ops listed).contains i = true) (hx : xs.all (fun j => waits md ops ops.size j i) = true)
    (hQ : ∀ c a w, Q (.panic c) (a.put oi.dst v) w → Q (.panic c) a w) (hy : YieldsIf P ops S oi v a) (hS : S w) (hc : Closed md ops listed)
    (h : Closed md ops (listed.setIfInBounds i true) → wpAnyE P md ops Q S (fun j => xs.contains j) fuel (listed.setIfInBounds i true) (a.put oi.dst v) w) : wpAnyE P md ops Q S (fun j => xs.contains j) (fuel + 1) listed a w := by
  have hr' : i ∈ Region.ready md ops listed := by simpa using hr
  refine wpAnyE_first hi (Region.noSelect_spec hs) hQ (fun j hj => ?_) fuel listed a w hc (Region.free_spec hi hf) hr' hy hS (h (hc.next hr'))
  exact List.all_eq_true.1 hx j (by simpa using hj)

theorem wpAnyE_free {i : Nat} {oi : Oper} {v : Value} {fuel : Nat} {listed : Array Bool} {a : Act} {w : World} (hi : ops[i]? = some oi)
    (hs : Region.noSelect ops = true) (hf : Region.free md ops listed i = true) (hr : (Region.ready md ops listed).contains i = true)
    (hQ : ∀ c a w, Q (.panic c) (a.put oi.dst v) w → Q (.panic c) a w) (hy : YieldsIf P ops (fun _ => True) oi v a) (hc : Closed md ops listed)
    (h : Closed md ops (listed.setIfInBounds i true) → wpAnyE P md ops Q S ex fuel (listed.setIfInBounds i true) (a.put oi.dst v) w) : wpAnyE P md ops Q S ex (fuel + 1) listed a w := by
  have hr' : i ∈ Region.ready md ops listed := by simpa using hr
  exact wpAnyE_first_free hi (Region.noSelect_spec hs) hQ fuel listed a w (Region.free_spec hi hf) hr' hy (h (hc.next hr'))

/-- in fewer: what yields under S; what yields anyway; what isn't wanted -/
theorem eY (i : Nat) {oi : Oper} {v : Value} {fuel : Nat} {listed : Array Bool} {a : Act} {w : World} {xs : List Nat} (hS : S w) (hc : Closed md ops listed)
    (h : Closed md ops (listed.setIfInBounds i true) → wpAnyE P md ops Q S (fun j => xs.contains j) fuel (listed.setIfInBounds i true) (a.put oi.dst v) w)
    (hi : ops[i]? = some oi := by rfl) (hQ : ∀ c a w, Q (.panic c) (a.put oi.dst v) w → Q (.panic c) a w := by exact fun _ _ _ h => h)
    (hw : Region.wanted oi (yielded ops a.tmps) = true := by rfl) (hy : ∀ u, S u → (execOp a.eval oi).run P u = .ok (.value v) u := by (intro u hu; (try dsimp only at hu); go_simp; try with_reducible rfl))
    (hs : Region.noSelect ops = true := by kernel_rfl) (hf : Region.free md ops listed i = true := by kernel_rfl) (hr : (Region.ready md ops listed).contains i = true := by kernel_rfl) (hx : xs.all (fun j => waits md ops ops.size j i) = true := by kernel_rfl) :
    wpAnyE P md ops Q S (fun j => xs.contains j) (fuel + 1) listed a w := wpAnyE_take hi hs hf hr hx hQ (.inl ⟨hw, hy⟩) hS hc h
theorem eX (i : Nat) {oi : Oper} {v : Value} {fuel : Nat} {listed : Array Bool} {a : Act} {w : World} (hc : Closed md ops listed)
    (h : Closed md ops (listed.setIfInBounds i true) → wpAnyE P md ops Q S ex fuel (listed.setIfInBounds i true) (a.put oi.dst v) w)
    (hi : ops[i]? = some oi := by rfl) (hQ : ∀ c a w, Q (.panic c) (a.put oi.dst v) w → Q (.panic c) a w := by exact fun _ _ _ h => h)
    (hw : Region.wanted oi (yielded ops a.tmps) = true := by rfl) (hy : ∀ u, True → (execOp a.eval oi).run P u = .ok (.value v) u := by (intro u _; go_simp; try with_reducible rfl))
    (hs : Region.noSelect ops = true := by kernel_rfl) (hf : Region.free md ops listed i = true := by kernel_rfl) (hr : (Region.ready md ops listed).contains i = true := by kernel_rfl) : wpAnyE P md ops Q S ex (fuel + 1) listed a w := wpAnyE_free hi hs hf hr hQ (.inl ⟨hw, hy⟩) hc h
theorem eN (i : Nat) {oi : Oper} {fuel : Nat} {listed : Array Bool} {a : Act} {w : World} (hc : Closed md ops listed)
    (h : Closed md ops (listed.setIfInBounds i true) → wpAnyE P md ops Q S ex fuel (listed.setIfInBounds i true) (a.put oi.dst undef) w)
    (hi : ops[i]? = some oi := by rfl) (hQ : ∀ c a w, Q (.panic c) (a.put oi.dst undef) w → Q (.panic c) a w := by exact fun _ _ _ h => h)
    (hw : Region.wanted oi (yielded ops a.tmps) = false := by rfl)
    (hs : Region.noSelect ops = true := by kernel_rfl) (hf : Region.free md ops listed i = true := by kernel_rfl) (hr : (Region.ready md ops listed).contains i = true := by kernel_rfl) : wpAnyE P md ops Q S ex (fuel + 1) listed a w := wpAnyE_free hi hs hf hr hQ (.inr ⟨hw, rfl⟩) hc h

/-- one of those that may come up -/
def AllReadyE (P : Program) (md : Region.Mode) (ops : Array Oper) (Q : Exit → Act → World → Prop) (S : World → Prop) (ex : Nat → Bool) (fuel : Nat) (listed : Array Bool) (a : Act) (w : World) (rs : List Nat) : Prop :=
  ∀ i ∈ rs, wpOp P ops Q i (fun a' w' => (ex i = false → S w → S w') ∧ wpAnyE P md ops Q S ex fuel (listed.setIfInBounds i true) a' w') a w
theorem AllReadyE.nil {fuel : Nat} {listed : Array Bool} {a : Act} {w : World} : AllReadyE P md ops Q S ex fuel listed a w [] := fun _ h => by cases h
theorem AllReadyE.cons {fuel : Nat} {listed : Array Bool} {a : Act} {w : World} {i : Nat} {o : Oper} {rs : List Nat} (ho : ops[i]? = some o)
    (h : ∀ K' : Act → World → Prop, Shut (∀ a w, (ex i = false → S w) → (S w → wpAnyE P md ops Q S ex fuel (listed.setIfInBounds i true) a w) → (ex i = true → wpAnyE P md ops Q S ex fuel (listed.setIfInBounds i true) a w) → K' a w) →
      if Region.wanted o (yielded ops a.tmps) = true then Oper.wp P o a w K' Q else K' (a.put o.dst undef) w)
    (hs : AllReadyE P md ops Q S ex fuel listed a w rs) : AllReadyE P md ops Q S ex fuel listed a w (i :: rs) := fun j hj => by
  rcases List.mem_cons.1 hj with hji | hj
  · subst hji
    refine wpOp_step ho (fun K' hK => h K' (fun a w hS hW hX => hK a w ⟨fun he _ => hS he, ?_⟩))
    cases he : ex j with
    | false => exact hW (hS he)
    | true => exact hX he
  · exact hs j hj
theorem wpAnyE_ready {rs : List Nat} {fuel : Nat} {listed : Array Bool} {a : Act} {w : World} (hr : Region.ready md ops listed = rs) (hne : rs ≠ [])
    (h : AllReadyE P md ops Q S ex fuel listed a w rs) : wpAnyE P md ops Q S ex (fuel + 1) listed a w :=
  ⟨fun h0 => absurd (hr ▸ h0) hne, hr ▸ h⟩
/-- the only one -/
theorem eA (i : Nat) {fuel : Nat} {listed : Array Bool} {a : Act} {w : World} {o : Oper}
    (h : ∀ K' : Act → World → Prop, Shut (∀ a w, (ex i = false → S w) → (S w → wpAnyE P md ops Q S ex fuel (listed.setIfInBounds i true) a w) → (ex i = true → wpAnyE P md ops Q S ex fuel (listed.setIfInBounds i true) a w) → K' a w) →
      if Region.wanted o (yielded ops a.tmps) = true then Oper.wp P o a w K' Q else K' (a.put o.dst undef) w)
    (ho : ops[i]? = some o := by rfl) (hr : Region.ready md ops listed = [i] := by kernel_rfl) : wpAnyE P md ops Q S ex (fuel + 1) listed a w :=
  wpAnyE_ready hr (List.cons_ne_nil _ _) (AllReadyE.cons ho h AllReadyE.nil)
/-- behind it -/
theorem eB {K' : Act → World → Prop} {fuel : Nat} {listed : Array Bool} {a : Act} {w : World} {i : Nat} (hK : Shut (∀ a w, (ex i = false → S w) → (S w → wpAnyE P md ops Q S ex fuel (listed.setIfInBounds i true) a w) → (ex i = true → wpAnyE P md ops Q S ex fuel (listed.setIfInBounds i true) a w) → K' a w))
    (hZ : Closed md ops listed) (hS : S w) (h : S w → Closed md ops (listed.setIfInBounds i true) → wpAnyE P md ops Q S ex fuel (listed.setIfInBounds i true) a w)
    (hr : (Region.ready md ops listed).contains i = true := by kernel_rfl) (hx : ex i = false := by kernel_rfl) : K' a w :=
  hK.out a w (fun _ => hS) (fun h' => h h' (hZ.step i hr)) (fun hX => by rw [hx] at hX; cases hX)
theorem eE {K' : Act → World → Prop} {fuel : Nat} {listed : Array Bool} {a : Act} {w : World} {i : Nat} (hK : Shut (∀ a w, (ex i = false → S w) → (S w → wpAnyE P md ops Q S ex fuel (listed.setIfInBounds i true) a w) → (ex i = true → wpAnyE P md ops Q S ex fuel (listed.setIfInBounds i true) a w) → K' a w))
    (hZ : Closed md ops listed) (h : Closed md ops (listed.setIfInBounds i true) → wpAnyE P md ops Q S ex fuel (listed.setIfInBounds i true) a w)
    (hr : (Region.ready md ops listed).contains i = true := by kernel_rfl) (hx : ex i = true := by kernel_rfl) : K' a w :=
  hK.out a w (fun hX => by rw [hx] at hX; cases hX) (fun _ => h (hZ.step i hr)) (fun _ => h (hZ.step i hr))
theorem wpAnyE_done {listed : Array Bool} {a : Act} {w : World} (hr : Region.ready md ops listed = []) (h : Q .normal a w) :
    ∀ fuel, wpAnyE P md ops Q S ex fuel listed a w
  | 0 => ⟨hr, h⟩
  | _ + 1 => ⟨fun _ => h, by rw [hr]; simp⟩
theorem wp_region_E {id : Nat} {a : Act} {w : World} (xs : List Nat) (hm : P.follows .mixedOrders = true) (hS : S w.drew)
    (h : S w.drew → Closed .any ops (Array.replicate ops.size false) → wpAnyE P .any ops Q S (fun j => xs.contains j) ops.size (Array.replicate ops.size false) a w.drew) : (Code.region id ops true).wp P Q a w :=
  wp_region_any hm (wpAny_of_E _ _ _ _ (h hS (closed_none _ _ _)))
end
end Go.Proofs.Ytpllklikjnndcaa
