/- Layer 6: plain facts of isolates: what stands in one changes nothing behind it. -/
import Derived.Test.YtihphfbgihbkfaaDoorExN
namespace Go.Proofs.YtihphfbgihbkfaaDoor
open Go.RowKit

/-- how many more isolates begin than end -/
def weigh (c : Int) : Int := (if isOpens c then 1 else 0) - (if c = 22 then 1 else 0)
def dsum (v : List Int) : Int := (v.map weigh).sum
theorem dsum_snoc (v : List Int) (c : Int) : dsum (v ++ [c]) = dsum v + weigh c := by simp [dsum]
structure Balanced (v : List Int) : Prop where
  at' : ∀ i, i < v.length → at0 v i ≠ 10 ∧ 0 ≤ dsum (v.take (i + 1))
  all : dsum v = 0

theorem unwind_in (r : List Ent) : ∀ s : List Ent, 0 < (s.filter (·.iso)).length → ∃ t, unwind (s ++ r) = t ++ r ∧ (t.filter (·.iso)).length + 1 = (s.filter (·.iso)).length := by
  intro s
  induction s with
  | nil => intro h; simp at h
  | cons a s ih =>
    intro h
    cases ha : a.iso with
    | true => exact ⟨s, by rw [List.cons_append, unwind_hit ha], by simp [ha]⟩
    | false =>
      have hf : (a :: s).filter (·.iso) = s.filter (·.iso) := by simp [ha]
      rw [hf] at h ⊢
      obtain ⟨t, h1, h2⟩ := ih h
      exact ⟨t, by rw [List.cons_append, unwind_skip ha]; exact h1, h2⟩
theorem unwind_out (e : Ent) (he : e.iso = true) (r : List Ent) : ∀ s : List Ent, (s.filter (·.iso)).length = 0 → unwind (s ++ e :: r) = r := by
  intro s
  induction s with
  | nil => intro _; exact unwind_hit he
  | cons a s ih =>
    intro h
    cases ha : a.iso with
    | true => simp [ha] at h
    | false =>
      have hf : (a :: s).filter (·.iso) = s.filter (·.iso) := by simp [ha]
      rw [hf] at h
      rw [List.cons_append, unwind_skip ha]
      exact ih h

/-- in the isolate, d more within it -/
def Inside (b : Int) (p : P6) (d : Int) : Prop := ∃ s : List Ent, p.base = b ∧ p.st = s ++ [⟨2, -1, true⟩, ⟨b, -1, false⟩] ∧ (s.filter (·.iso)).length + 1 = p.valid ∧ ((p.isos + (s.filter (·.iso)).length : Nat) : Int) = d
theorem inside_push {b : Int} {p : P6} {d : Int} (h : Inside b p d) (k o : Int) : Inside b (pushP p k o false) d := by
  obtain ⟨s, h0, h1, h2, h3⟩ := h
  unfold pushP
  split
  · exact ⟨s, h0, h1, h2, h3⟩
  · split
    · refine ⟨⟨_, o, false⟩ :: s, h0, by show _ :: p.st = _; rw [h1]; rfl, ?_, ?_⟩
      · simpa [List.filter_cons] using h2
      · simpa [List.filter_cons] using h3
    · exact ⟨s, h0, h1, h2, h3⟩
theorem inside_begin {b : Int} {p : P6} {d : Int} (h : Inside b p d) (k o : Int) : Inside b (beginP p k o) d := by
  unfold beginP
  split
  · obtain ⟨s, h0, h1, h2, h3⟩ := h
    split <;> exact ⟨s, h0, h1, h2, h3⟩
  · exact inside_push h k o
theorem inside_back {b : Int} {p : P6} {d : Int} (h : Inside b p d) : Inside b (backP p) d := by
  obtain ⟨s, h0, h1, h2, h3⟩ := h
  unfold backP
  split
  · exact ⟨s, h0, h1, h2, h3⟩
  · split
    · exact ⟨s, h0, h1, h2, h3⟩
    · split
      · exact ⟨s, h0, h1, h2, h3⟩
      · rename_i e st hst
        split
        · rename_i hc
          cases s with
          | nil =>
            rw [h1] at hst
            injection hst with h4 _
            rw [← h4] at hc
            simp at hc
          | cons a s =>
            rw [h1] at hst
            injection hst with h4 h5
            subst h4
            refine ⟨s, h0, h5.symm, ?_, ?_⟩
            · have := h2; simp [hc.1] at this; exact this
            · have := h3; simp [hc.1] at this; simpa using this
        · exact ⟨s, h0, h1, h2, h3⟩
theorem inside_step {b : Int} {p : P6} {d : Int} (h : Inside b p d) (l : List Int) (i c : Int) (h10 : c ≠ 10) (hd : 0 ≤ d + weigh c) : Inside b (stepP p l i c) (d + weigh c) := by
  obtain ⟨f1, f2⟩ := class_facts c
  unfold stepP
  rw [if_neg h10]
  split
  · rename_i hO
    obtain ⟨_, g2, g3⟩ := f1 hO
    have hw : weigh c = 0 := by unfold weigh; rw [g2, if_neg g3]; rfl
    rw [hw, Int.add_zero]
    unfold embedP
    split
    · exact inside_begin h _ _
    · split
      · exact inside_begin h _ _
      · split
        · exact inside_begin h _ _
        · split
          · exact inside_begin h _ _
          · split
            · exact inside_back h
            · exact h
  · split
    · rename_i hP
      obtain ⟨_, _, g3⟩ := f2 hP
      have hw : weigh c = 1 := by unfold weigh; rw [hP, if_neg g3]; rfl
      rw [hw]
      obtain ⟨s, h0, h1, h2, h3⟩ := h
      unfold isolateP
      split
      · exact ⟨s, h0, h1, h2, by show ((p.isos + 1 + _ : Nat) : Int) = _; omega⟩
      · rename_i hf
        have hfit : fitP p (isolate l i) = true := by
          cases hq : fitP p (isolate l i) with
          | true => rfl
          | false => rw [hq] at hf; simp at hf
        have hne : ∃ e st, p.st = e :: st := by
          cases hs : p.st with
          | nil => rw [h1] at hs; simp at hs
          | cons e st => exact ⟨e, st, rfl⟩
        obtain ⟨e, st, hst⟩ := hne
        have hU : pushP p (isolate l i) (-1) true = { p with st := ⟨nextL e.lev (isolate l i), -1, true⟩ :: p.st } := by
          unfold fitP at hfit; unfold pushP
          rw [hst] at hfit ⊢
          simp only [decide_eq_true_eq] at hfit
          simp only
          rw [if_pos hfit]
        rw [hU]
        refine ⟨⟨nextL e.lev (isolate l i), -1, true⟩ :: s, h0, by show _ :: p.st = _; rw [h1]; rfl, ?_, ?_⟩
        · show _ = p.valid + 1
          simp; omega
        · show ((p.isos + _ : Nat) : Int) = _
          simp; omega
    · rename_i hO hP
      split
      · rename_i h22
        have hw : weigh c = -1 := by unfold weigh; rw [if_neg hP, if_pos h22]; rfl
        rw [hw] at hd ⊢
        obtain ⟨s, h0, h1, h2, h3⟩ := h
        unfold endP
        split
        · exact ⟨s, h0, h1, h2, by show ((p.isos - 1 + _ : Nat) : Int) = _; omega⟩
        · rename_i hi
          rw [if_pos (by omega)]
          obtain ⟨t, t1, t2⟩ := unwind_in [⟨2, -1, true⟩, ⟨b, -1, false⟩] s (by omega)
          refine ⟨t, h0, by show unwind p.st = _; rw [h1, t1], by show _ = p.valid - 1; omega, by show ((p.isos + _ : Nat) : Int) = _; omega⟩
      · rename_i h22
        have hw : weigh c = 0 := by unfold weigh; rw [if_neg hP, if_neg h22]; rfl
        rw [hw, Int.add_zero]
        exact h
theorem inside_end {b : Int} {p : P6} (h : Inside b p 0) : endP p = ⟨b, [⟨b, -1, false⟩], 0, 0, 0⟩ := by
  obtain ⟨s, h0, h1, h2, h3⟩ := h
  have hi : p.isos = 0 := by omega
  have hf : (s.filter (·.iso)).length = 0 := by omega
  have hv : p.valid = 1 := by omega
  unfold endP
  rw [if_neg (by omega), if_pos (by omega), h1, unwind_out _ rfl _ _ hf]
  cases p
  simp_all

/-- a list with an isolate at the beginning -/
abbrev isoL (v l : List Int) : List Int := ([19] ++ v) ++ ([22] ++ l)
theorem isoL_length (v l : List Int) : (isoL v l).length = v.length + 2 + l.length := by simp; omega
theorem isoL_in (v l : List Int) (i : Nat) (h : i < v.length) : at0 (isoL v l) (i + 1) = at0 v i := by
  simp [isoL, at0, List.getD_eq_getElem?_getD, List.getElem?_append_left h]
theorem isoL_end (v l : List Int) : at0 (isoL v l) (v.length + 1) = 22 := by
  simp [isoL, at0, List.getD_eq_getElem?_getD]
theorem isoL_behind (v l : List Int) (j : Nat) : at0 (isoL v l) (v.length + 2 + j) = at0 l j := by
  have : (isoL v l)[v.length + 2 + j]? = l[j]? := by
    have e : isoL v l = ([19] ++ v ++ [22]) ++ l := by simp [isoL]
    rw [e, List.getElem?_append_right (by simp only [List.length_append, List.length_cons, List.length_nil]; omega)]
    congr 1
    simp only [List.length_append, List.length_cons, List.length_nil]; omega
  unfold at0
  rw [List.getD_eq_getElem?_getD, this, List.getD_eq_getElem?_getD]
theorem iso_begin (n : Int) (v l : List Int) : Inside (if n = 0 then 0 else 1) (runX (isoL v l) n 1).core 0 := by
  obtain ⟨b, hb⟩ : ∃ b : Int, (if n = 0 then (0 : Int) else 1) = b := ⟨_, rfl⟩
  have hb01 : b = 0 ∨ b = 1 := by split at hb <;> omega
  rw [hb]
  have h0 : (runX (isoL v l) n 0).st = ⟨b, -1, false⟩ :: [] := by rw [runX, beginX, hb]; rfl
  have hc0 : (runX (isoL v l) n 0).core = ⟨b, [⟨b, -1, false⟩], 0, 0, 0⟩ := by rw [runX, beginX, hb]; rfl
  have ha : at0 (isoL v l) 0 = 19 := rfl
  rw [show runX (isoL v l) n 1 = stepX (isoL v l) (runX (isoL v l) n 0) 0 (at0 (isoL v l) 0) from rfl, ha]
  have := core_step h0 (isoL v l) 0 19
  rw [this, hc0]
  have hi : isolate (isoL v l) ((0 : Nat) : Int) = 0 := by
    have hlen := isoL_length v l
    unfold isolate
    rw [if_neg (by omega)]
    simp only [Int.toNat_natCast]
    rw [ha]
    rfl
  have hS : stepP (⟨b, [⟨b, -1, false⟩], 0, 0, 0⟩ : P6) (isoL v l) ((0 : Nat) : Int) 19 = ⟨b, [⟨2, -1, true⟩, ⟨b, -1, false⟩], 0, 0, 1⟩ := by
    unfold stepP
    rw [if_neg (by decide), if_neg (by decide), if_pos (by decide)]
    unfold isolateP
    rw [hi]
    rcases hb01 with rfl | rfl <;> kernel_rfl
  rw [hS]
  exact ⟨[], rfl, rfl, rfl, rfl⟩
theorem iso_within (n : Int) (v l : List Int) (hv : Balanced v) : ∀ i, i ≤ v.length → Inside (if n = 0 then 0 else 1) (runX (isoL v l) n (i + 1)).core (dsum (v.take i)) := by
  intro i
  induction i with
  | zero => intro _; simpa [dsum] using iso_begin n v l
  | succ i ih =>
    intro hi
    obtain ⟨h10, hd⟩ := hv.at' i (by omega)
    have hs : dsum (v.take (i + 1)) = dsum (v.take i) + weigh (at0 v i) := by
      rw [take_snoc v i (by omega), dsum_snoc, at0_eq (show i < v.length by omega)]
    rw [hs] at hd ⊢
    obtain ⟨e, st, hst⟩ := (wf_run (isoL v l) n (i + 1)).top
    have hr : runX (isoL v l) n (i + 1 + 1) = stepX (isoL v l) (runX (isoL v l) n (i + 1)) (i + 1) (at0 v i) := by
      rw [runX, isoL_in v l i (by omega)]
    rw [hr, core_step hst]
    exact inside_step (ih (by omega)) _ _ _ h10 hd
/-- behind the isolate's end all is as at the beginning -/
theorem iso_ended (n : Int) (v l : List Int) (hv : Balanced v) : endP (runX (isoL v l) n (v.length + 1)).core = (beginX n).core := by
  have h := iso_within n v l hv v.length (Nat.le_refl _)
  rw [List.take_length, hv.all] at h
  rw [inside_end h]
  rfl
theorem iso_tell (n : Int) (v l : List Int) (hv : Balanced v) : tellP (runX (isoL v l) n (v.length + 1)).core 22 = ((if n = 0 then 0 else 1), 22) := by
  obtain ⟨e, st, hst⟩ := (wf_run (isoL v l) n (v.length + 1)).top
  have hcs : (runX (isoL v l) n (v.length + 1)).core.st = e :: st := hst
  have he := iso_ended n v l hv
  have hes : (endP (runX (isoL v l) n (v.length + 1)).core).st = [⟨if n = 0 then 0 else 1, -1, false⟩] := by rw [he]; rfl
  unfold tellP
  rw [hcs]
  simp only [hes]
  rfl
theorem iso_core (n : Int) (v l : List Int) (hv : Balanced v) : (runX (isoL v l) n (v.length + 2)).core = (beginX n).core := by
  obtain ⟨e, st, hst⟩ := (wf_run (isoL v l) n (v.length + 1)).top
  have hr : runX (isoL v l) n (v.length + 2) = stepX (isoL v l) (runX (isoL v l) n (v.length + 1)) (v.length + 1) 22 := by
    rw [show v.length + 2 = (v.length + 1) + 1 from rfl, runX, isoL_end]
  rw [hr, core_step hst]
  exact iso_ended n v l hv
/-- a direction depends on what follows alone -/
theorem stopAt_shift (xs : List Int) : ∀ d k, stopAt xs d k = stopAt xs d 0 + k := by
  induction xs with
  | nil => intro d k; simp [stopAt]
  | cons x xs ih =>
    intro d k
    simp only [stopAt]
    have h1 := ih (d + 1) (k + 1)
    have h1' := ih (d + 1) (0 + 1)
    have h2 := ih (d - 1) (k + 1)
    have h2' := ih (d - 1) (0 + 1)
    have h3 := ih d (k + 1)
    have h3' := ih d (0 + 1)
    repeat' split
    all_goals omega
theorem isolate_shift (l l' : List Int) (i i' : Nat) (h : l.drop i = l'.drop i') (hi : i < l.length) (hi' : i' < l'.length) : isolate l i = isolate l' i' := by
  have ha : at0 l i = at0 l' i' := by
    have : (l.drop i)[0]? = (l'.drop i')[0]? := by rw [h]
    simp only [List.getElem?_drop, Nat.add_zero] at this
    simp [at0, List.getD_eq_getElem?_getD, this]
  have hd : l.drop (i + 1) = l'.drop (i' + 1) := by
    rw [← List.drop_drop, ← List.drop_drop, h]
  unfold isolate
  rw [if_neg (show ¬ ((i : Int) < 0 ∨ (l.length : Int) ≤ i) by omega), if_neg (show ¬ ((i' : Int) < 0 ∨ (l'.length : Int) ≤ i') by omega)]
  simp only [Int.toNat_natCast]
  rw [ha, hd, stopAt_shift _ 1 (i + 1), stopAt_shift _ 1 (i' + 1), Nat.add_sub_cancel, Nat.add_sub_cancel]
theorem isoL_drop (v l : List Int) (j : Nat) : (isoL v l).drop (v.length + 2 + j) = l.drop j := by
  have e : isoL v l = ([19] ++ v ++ [22]) ++ l := by simp [isoL]
  rw [e, List.drop_append, List.drop_of_length_le (by simp only [List.length_append, List.length_cons, List.length_nil]; omega), List.nil_append]
  congr 1
  simp only [List.length_append, List.length_cons, List.length_nil]; omega
theorem balanced_nil : Balanced [] := ⟨fun i h => by simp at h, rfl⟩
theorem iso_behind (n : Int) (v l : List Int) (hv : Balanced v) : ∀ j, j ≤ l.length → (runX (isoL v l) n (v.length + 2 + j)).core = (runX (isoL [] l) n (2 + j)).core := by
  intro j
  induction j with
  | zero =>
    intro _
    have h2 := iso_core n [] l balanced_nil
    exact (iso_core n v l hv).trans h2.symm
  | succ j ih =>
    intro hj
    have hc := ih (by omega)
    obtain ⟨e, st, hst⟩ := (wf_run (isoL v l) n (v.length + 2 + j)).top
    obtain ⟨e', st', hst'⟩ := (wf_run (isoL [] l) n (2 + j)).top
    have h1 : runX (isoL v l) n (v.length + 2 + (j + 1)) = stepX (isoL v l) (runX (isoL v l) n (v.length + 2 + j)) (v.length + 2 + j) (at0 l j) := by
      rw [show v.length + 2 + (j + 1) = (v.length + 2 + j) + 1 from rfl, runX, isoL_behind]
    have h2 : runX (isoL [] l) n (2 + (j + 1)) = stepX (isoL [] l) (runX (isoL [] l) n (2 + j)) (2 + j) (at0 l j) := by
      have := isoL_behind [] l j
      simp only [List.length_nil, Nat.zero_add] at this
      rw [show 2 + (j + 1) = (2 + j) + 1 from rfl, runX, this]
    rw [h1, h2, core_step hst, core_step hst', hc]
    have hl1 := isoL_length v l
    have hl2 := isoL_length [] l
    have hi : isolate (isoL v l) ((v.length + 2 + j : Nat) : Int) = isolate (isoL [] l) ((2 + j : Nat) : Int) := by
      refine isolate_shift _ _ _ _ ?_ (by omega) (by simp at hl2 ⊢; omega)
      have := isoL_drop [] l j
      simp only [List.length_nil, Nat.zero_add] at this
      rw [isoL_drop, this]
    unfold stepP isolateP
    rw [hi]
theorem iso_facts (n : Int) (v l : List Int) (hv : Balanced v) :
    (lvs (isoL v l) n).drop (v.length + 1) = (lvs (isoL [] l) n).drop 1 ∧ (cls (isoL v l) n).drop (v.length + 1) = (cls (isoL [] l) n).drop 1 := by
  have hl1 := isoL_length v l
  have hl2 := isoL_length [] l
  simp only [List.length_nil, Nat.zero_add] at hl2
  have key : ∀ j, j < l.length + 1 → tellP (runX (isoL v l) n (v.length + 1 + j)).core (at0 (isoL v l) (v.length + 1 + j)) = tellP (runX (isoL [] l) n (1 + j)).core (at0 (isoL [] l) (1 + j)) := by
    intro j hj
    cases j with
    | zero =>
      have h2 := iso_tell n [] l balanced_nil
      have h3 := isoL_end [] l
      rw [Nat.add_zero, Nat.add_zero, isoL_end, iso_tell n v l hv]
      exact h2.symm
    | succ j =>
      have h1 := isoL_behind v l j
      have h2 := isoL_behind [] l j
      simp only [List.length_nil, Nat.zero_add] at h2
      have h3 := iso_behind n v l hv j (by omega)
      rw [show v.length + 1 + (j + 1) = v.length + 2 + j by omega, show 1 + (j + 1) = 2 + j by omega, h1, h2, h3]
  have g1 : (lvs (isoL v l) n).length = v.length + 2 + l.length := by rw [lvs_length]; exact hl1
  have g2 : (lvs (isoL [] l) n).length = 2 + l.length := by rw [lvs_length]; exact hl2
  have g3 : (cls (isoL v l) n).length = v.length + 2 + l.length := by rw [cls_length]; exact hl1
  have g4 : (cls (isoL [] l) n).length = 2 + l.length := by rw [cls_length]; exact hl2
  constructor
  · refine List.ext_getElem (by rw [List.length_drop, List.length_drop, g1, g2]; omega) (fun j h1 h2 => ?_)
    have hj : j < l.length + 1 := by rw [List.length_drop, g2] at h2; omega
    rw [List.getElem_drop, List.getElem_drop, lvs_at _ _ _ (by omega), lvs_at _ _ _ (by omega)]
    have := key j hj
    rw [at0_eq (show v.length + 1 + j < (isoL v l).length by omega), at0_eq (show 1 + j < (isoL [] l).length by omega)] at this
    exact congrArg Prod.fst this
  · refine List.ext_getElem (by rw [List.length_drop, List.length_drop, g3, g4]; omega) (fun j h1 h2 => ?_)
    have hj : j < l.length + 1 := by rw [List.length_drop, g4] at h2; omega
    rw [List.getElem_drop, List.getElem_drop, cls_at _ _ _ (by omega), cls_at _ _ _ (by omega)]
    have := key j hj
    rw [at0_eq (show v.length + 1 + j < (isoL v l).length by omega), at0_eq (show 1 + j < (isoL [] l).length by omega)] at this
    exact congrArg Prod.snd this
end Go.Proofs.YtihphfbgihbkfaaDoor
