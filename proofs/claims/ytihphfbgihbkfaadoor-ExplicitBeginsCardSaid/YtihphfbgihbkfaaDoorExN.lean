/- Layer 6: plain facts of levels and classes: bounds, plain ones, beginnings, isolates. -/
import Derived.Test.YtihphfbgihbkfaaDoorEpE
namespace Go.Proofs.YtihphfbgihbkfaaDoor
open Go.RowKit

theorem run_told (l : List Int) (base : Int) (k : Nat) : Told (runX l base k) (runX l base (k + 1)) (tellP (runX l base k).core (at0 l k)) := by
  rw [runX]; exact told_step (wf_run l base k) (ov_run l base k) l _
/-- what was told stays -/
theorem run_get (l : List Int) (base : Int) (k : Nat) : ∀ m, k < m → (runX l base m).levels[k]? = some (tellP (runX l base k).core (at0 l k)).1 ∧ (runX l base m).classes[k]? = some (tellP (runX l base k).core (at0 l k)).2 := by
  intro m
  induction m with
  | zero => intro h; omega
  | succ m ih =>
    intro h
    have ht := run_told l base m
    have h1 := (wf_run l base m).levels
    have h2 := (wf_run l base m).classes
    rw [ht.levels, ht.classes]
    by_cases hk : k = m
    · subst hk
      rw [List.getElem?_append_right (by omega), List.getElem?_append_right (by omega), h1, h2, Nat.sub_self]
      exact ⟨rfl, rfl⟩
    · rw [List.getElem?_append_left (by omega), List.getElem?_append_left (by omega)]
      exact ih (by omega)
theorem lvs_at (l : List Int) (base : Int) (k : Nat) (h : k < l.length) (h1 : k < (lvs l base).length) : (lvs l base)[k] = (tellP (runX l base k).core l[k]).1 := by
  have := (run_get l base k l.length h).1
  rw [at0_eq h] at this
  have h2 : (lvs l base)[k]? = some (lvs l base)[k] := List.getElem?_eq_getElem h1
  unfold lvs at h2 ⊢
  rw [this] at h2
  exact (Option.some.inj h2).symm
theorem cls_at (l : List Int) (base : Int) (k : Nat) (h : k < l.length) (h1 : k < (cls l base).length) : (cls l base)[k] = (tellP (runX l base k).core l[k]).2 := by
  have := (run_get l base k l.length h).2
  rw [at0_eq h] at this
  have h2 : (cls l base)[k]? = some (cls l base)[k] := List.getElem?_eq_getElem h1
  unfold cls at h2 ⊢
  rw [this] at h2
  exact (Option.some.inj h2).symm
theorem core_base {x : X6} {k : Nat} (hw : Wf x k) (l : List Int) (c : Int) : (stepX l x k c).base = x.base := by
  obtain ⟨e, st, hst⟩ := hw.top
  have h : (stepX l x k c).base = (stepP x.core l k c).base := by rw [← core_step hst l k c]; rfl
  have hpush : ∀ (p : P6) (d o : Int) (i : Bool), (pushP p d o i).base = p.base := by intro p d o i; unfold pushP; split <;> (try split) <;> rfl
  have hbeg : ∀ (p : P6) (d o : Int), (beginP p d o).base = p.base := by intro p d o; unfold beginP; split; · split <;> rfl
                                                                         · exact hpush _ _ _ _
  rw [h]
  show _ = x.core.base
  unfold stepP
  split
  · rfl
  · split
    · unfold embedP
      repeat' split
      all_goals first | rfl | exact hbeg _ _ _ | (unfold backP; repeat' split) <;> rfl
    · split
      · unfold isolateP
        split
        · rfl
        · exact hpush _ _ _ _
      · split
        · unfold endP; repeat' split
          all_goals rfl
        · rfl
theorem base_run (l : List Int) (base : Int) : ∀ k, (runX l base k).base = if base = 0 then 0 else 1 := by
  intro k
  induction k with
  | zero => rfl
  | succ k ih => rw [runX, core_base (wf_run l base k)]; exact ih
theorem class_facts (c : Int) : (isOut c = true → c ≠ 10 ∧ isOpens c = false ∧ c ≠ 22) ∧ (isOpens c = true → c ≠ 10 ∧ isOut c = false ∧ c ≠ 22) := by
  constructor
  · intro h
    have := (isOut_cases c).1 h
    refine ⟨by omega, ?_, by omega⟩
    cases ho : isOpens c with
    | false => rfl
    | true => have := (isOpens_cases c).1 ho; omega
  · intro h
    have := (isOpens_cases c).1 h
    refine ⟨by omega, ?_, by omega⟩
    cases ho : isOut c with
    | false => rfl
    | true => have := (isOut_cases c).1 ho; omega
theorem out_known {c : Int} (h : isOut c = false) : isOut (knownI c) = false := by
  unfold knownI; split
  · decide
  · exact h
theorem out_over {e : Ent} (ho : e.over = -1 ∨ e.over = 0 ∨ e.over = 1) {c : Int} (h : isOut c = false) : isOut (overE e c) = false := by
  unfold overE
  rcases ho with ho | ho | ho <;> rw [ho]
  · rw [if_pos rfl]; exact h
  · rw [if_neg (by decide)]; decide
  · rw [if_neg (by decide)]; decide
/-- levels are from the base to 125; what is left out stays so, and nothing else is; a paragraph's end has the base -/
theorem tell_facts {x : X6} {k : Nat} (hw : Wf x k) (ho : OvOk x) (c : Int) : x.base ≤ (tellP x.core c).1 ∧ (tellP x.core c).1 ≤ 125 ∧ isOut (tellP x.core c).2 = isOut c ∧ (c = 10 → (tellP x.core c).1 = x.base) := by
  obtain ⟨e, st, hst⟩ := hw.top
  obtain ⟨⟨e2, st2, he2⟩, _⟩ := wf_end (c := c) hw
  have hr := hw.rng e (by rw [hst]; simp)
  have hr2 : x.base ≤ e2.lev ∧ e2.lev ≤ 125 := by
    have hm : (endX0 x).base = x.base := by unfold endX0; repeat' split
                                            all_goals rfl
    have := hw.ended.rng e2 (by show e2 ∈ (endX0 x).st; rw [he2]; simp)
    exact ⟨by have h1 := this.1; show x.base ≤ e2.lev; rw [← hm]; exact h1, this.2⟩
  have hov := ho e (by rw [hst]; simp)
  have hov2 := ov_end ho e2 (by rw [he2]; simp)
  have hb := hw.base
  have hes : (endP x.core).st = e2 :: st2 := by rw [← core_end x c, endX, core_put]; exact he2
  have hcs : x.core.st = e :: st := hst
  unfold tellP
  rw [hcs]
  simp only [hes]
  have hcb : x.core.base = x.base := rfl
  rw [hcb]
  split
  · exact ⟨Int.le_refl _, by show x.base ≤ 125; omega, rfl, fun _ => rfl⟩
  · rename_i h10
    split
    · exact ⟨hr.1, hr.2, rfl, fun h => absurd h h10⟩
    · rename_i hO
      have hO : isOut c = false := by simpa using hO
      split
      · exact ⟨hr.1, hr.2, by rw [out_over hov hO, hO], fun h => absurd h h10⟩
      · split
        · exact ⟨hr2.1, hr2.2, by rw [out_over hov2 hO, hO], fun h => absurd h h10⟩
        · exact ⟨hr.1, hr.2, by rw [out_over hov (out_known hO), hO], fun h => absurd h h10⟩
/-- the stack is never higher than levels are many -/
theorem wf_len {x : X6} {k : Nat} (h : Wf x k) : x.st.length ≤ 126 := by
  have hlen : ∀ (st : List Ent) (b t : Int), st.Pairwise (fun a b => b.lev < a.lev) → (∀ e ∈ st, b ≤ e.lev ∧ e.lev ≤ t) → (st.length : Int) ≤ max (t - b + 1) 0 := by
    intro st
    induction st with
    | nil => intro b t _ _; simp; omega
    | cons e st ih =>
      intro b t hp hr
      obtain ⟨h1, h2⟩ := List.pairwise_cons.1 hp
      have h3 := hr e (by simp)
      have := ih b (e.lev - 1) h2 (fun a ha => ⟨(hr a (by simp [ha])).1, by have := h1 a ha; omega⟩)
      simp only [List.length_cons]
      omega
  have h1 := hlen x.st x.base 125 h.mono h.rng
  have hb := h.base
  omega
theorem dep_facts (l : List Int) (base : Int) : ∀ k, 1 ≤ (runX l base k).most ∧ (runX l base k).most ≤ 127 ∧ ∀ j, j ≤ k → (runX l base j).most ≤ (runX l base k).most := by
  intro k
  induction k with
  | zero =>
    refine ⟨by show 1 ≤ max 0 1; omega, by show max 0 1 ≤ 127; omega, fun j hj => ?_⟩
    obtain rfl : j = 0 := by omega
    exact Nat.le_refl _
  | succ k ih =>
    have h1 : (runX l base (k + 1)).most = max (runX l base k).most (runX l base (k + 1)).st.length := by
      rw [runX]; exact (most_step (wf_run l base k) (most_run l base k) l (at0 l k)).1
    have h2 := wf_len (wf_run l base (k + 1))
    refine ⟨by omega, by omega, fun j hj => ?_⟩
    rcases Nat.lt_or_ge j (k + 1) with hlt | hge
    · have := ih.2.2 j (by omega); omega
    · obtain rfl : j = k + 1 := by omega
      exact Nat.le_refl _

/-- neither left out nor an isolate's -/
def plainC (c : Int) : Bool := !isOut c && (!isOpens c && !(c == 22))
theorem plain_run (l : List Int) (base : Int) : ∀ k, (∀ j, j < k → plainC (at0 l j) = true) → (runX l base k).st = [⟨(runX l base k).base, -1, false⟩] := by
  intro k
  induction k with
  | zero => intro _; rfl
  | succ k ih =>
    intro h
    have hk := ih (fun j hj => h j (by omega))
    have hc := h k (by omega)
    rw [base_run, ← base_run l base k]
    rw [runX]
    have hst : (stepX l (runX l base k) k (at0 l k)).st = (stepP (runX l base k).core l k (at0 l k)).st := by rw [← core_step hk l k (at0 l k)]; rfl
    rw [hst]
    unfold plainC at hc
    simp only [Bool.and_eq_true, Bool.not_eq_true', beq_eq_false_iff_ne, ne_eq] at hc
    unfold stepP
    split
    · rfl
    · rw [if_neg (by rw [hc.1]; simp), if_neg (by rw [hc.2.1]; simp), if_neg hc.2.2]
      exact hk
theorem plain_tell {x : X6} (hst : x.st = [⟨x.base, -1, false⟩]) {c : Int} (hc : plainC c = true) : (tellP x.core c).1 = x.base ∧ ((tellP x.core c).2 = c ∨ c < 0 ∨ 22 < c) := by
  have hcs : x.core.st = [⟨x.base, -1, false⟩] := hst
  unfold plainC at hc
  simp only [Bool.and_eq_true, Bool.not_eq_true', beq_eq_false_iff_ne, ne_eq] at hc
  unfold tellP
  rw [hcs]
  simp only
  split
  · exact ⟨rfl, .inl rfl⟩
  · rw [if_neg (by rw [hc.1]; simp), if_neg (by rw [hc.2.1]; simp), if_neg hc.2.2]
    refine ⟨rfl, ?_⟩
    have he : overE ⟨x.base, -1, false⟩ (knownI c) = knownI c := by rw [overE, if_pos rfl]
    simp only [he]
    unfold knownI
    split
    · exact .inr (by assumption)
    · exact .inl rfl

/-- a direction that is not looked for is its place's alone -/
theorem isolate_take (l : List Int) (k i : Nat) (hk : k ≤ l.length) (hi : i < k) (h21 : at0 l i ≠ 21) : isolate (l.take k) i = isolate l i := by
  have ha : at0 (l.take k) i = at0 l i := by
    have h1 : i < (l.take k).length := by simp; omega
    rw [at0_eq h1, at0_eq (show i < l.length by omega), List.getElem_take]
  have hl : (l.take k).length = k := by simp; omega
  unfold isolate
  rw [if_neg (by rw [hl]; omega), if_neg (show ¬ ((i : Int) < 0 ∨ (l.length : Int) ≤ i) by omega)]
  simp only [Int.toNat_natCast]
  rw [ha]
  rw [if_neg (show ¬ at0 l i = 21 from h21), if_neg (show ¬ at0 l i = 21 from h21)]
theorem step_take (l : List Int) (x : X6) (k i : Nat) (hk : k ≤ l.length) (hi : i < k) (h21 : at0 l i ≠ 21) : stepX (l.take k) x i (at0 (l.take k) i) = stepX l x i (at0 l i) := by
  have ha : at0 (l.take k) i = at0 l i := by
    have h1 : i < (l.take k).length := by simp; omega
    rw [at0_eq h1, at0_eq (show i < l.length by omega), List.getElem_take]
  rw [ha]
  unfold stepX isolateX
  rw [isolate_take l k i hk hi h21]
theorem run_take (l : List Int) (base : Int) (k : Nat) (hk : k ≤ l.length) (h : ∀ j, j < k → at0 l j ≠ 21) : ∀ i, i ≤ k → runX (l.take k) base i = runX l base i := by
  intro i
  induction i with
  | zero => intro _; rfl
  | succ i ih =>
    intro hi
    rw [runX, runX, ih (by omega), step_take l _ k i hk (by omega) (h i (by omega))]
theorem run_prefix (l : List Int) (base : Int) (k : Nat) : ∀ m, k ≤ m → (runX l base m).levels.take k = (runX l base k).levels ∧ (runX l base m).classes.take k = (runX l base k).classes := by
  intro m
  induction m with
  | zero => intro h; obtain rfl : k = 0 := by omega
            exact ⟨rfl, rfl⟩
  | succ m ih =>
    intro h
    by_cases hk : k = m + 1
    · subst hk
      rw [List.take_of_length_le (by rw [(wf_run l base (m + 1)).levels]; exact Nat.le_refl _), List.take_of_length_le (by rw [(wf_run l base (m + 1)).classes]; exact Nat.le_refl _)]
      exact ⟨rfl, rfl⟩
    · have ht := run_told l base m
      rw [ht.levels, ht.classes, List.take_append_of_le_length (by rw [(wf_run l base m).levels]; omega), List.take_append_of_le_length (by rw [(wf_run l base m).classes]; omega)]
      exact ih (by omega)
/-- levels and classes of a beginning are the beginning's -/
theorem begin_facts (l : List Int) (base : Int) (k : Nat) (hk : k ≤ l.length) (h : ∀ j, j < k → at0 l j ≠ 21) :
    lvs (l.take k) base = (lvs l base).take k ∧ cls (l.take k) base = (cls l base).take k ∧ dep (l.take k) base ≤ dep l base := by
  have hl : (l.take k).length = k := by simp; omega
  have hr := run_take l base k hk h k (Nat.le_refl _)
  have hp := run_prefix l base k l.length hk
  unfold lvs cls dep
  rw [hl, hr, hp.1, hp.2]
  exact ⟨rfl, rfl, (dep_facts l base l.length).2.2 k hk⟩
end Go.Proofs.YtihphfbgihbkfaaDoor
