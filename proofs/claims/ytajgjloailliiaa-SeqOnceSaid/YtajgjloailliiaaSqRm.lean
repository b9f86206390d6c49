/- Layers 6 and 8: an isolate's beginning and its end have one level. -/
import Derived.Test.YtajgjloailliiaaExOm
import Derived.Test.YtajgjloailliiaaSqPm
import Derived.Test.YtajgjloailliiaaSqQ
namespace Go.Proofs.Ytajgjloailliiaa
open Go.RowKit

/-- a look for the end that is still under way, or ended, stays behind -/
theorem lk_stays (l : List Int) (p i : Nat) (hp : p < i) (r : Option Nat) (h : lk l p i = .done r) : ∀ m, i + m ≤ l.length → lk l p (i + m) = .done r := by
  intro m
  induction m with
  | zero => intro _; exact h
  | succ m ih =>
    intro hm
    rw [show i + (m + 1) = i + m + 1 by omega, lk_next l p (i + m) (by omega) (by omega), ih (by omega)]
theorem lk_later (l : List Int) (p i : Nat) (hp : p < i) (d : Nat) (h : lk l p i = .run d) : ∀ m, i + m ≤ l.length → (∃ d', lk l p (i + m) = .run d') ∨ lk l p (i + m) = .done none ∨ ∃ e, i ≤ e ∧ lk l p (i + m) = .done (some e) := by
  intro m
  induction m with
  | zero => intro _; exact .inl ⟨d, h⟩
  | succ m ih =>
    intro hm
    rw [show i + (m + 1) = i + m + 1 by omega, lk_next l p (i + m) (by omega) (by omega)]
    rcases ih (by omega) with ⟨d', h1⟩ | h1 | ⟨e, h2, h1⟩
    · rw [h1]
      simp only [lookStep]
      split
      · exact .inr (.inl rfl)
      · split
        · exact .inl ⟨_, rfl⟩
        · split
          · split
            · exact .inr (.inr ⟨i + m, by omega, rfl⟩)
            · exact .inl ⟨_, rfl⟩
          · exact .inl ⟨_, rfl⟩
    · rw [h1]; exact .inr (.inl rfl)
    · rw [h1]; exact .inr (.inr ⟨e, h2, rfl⟩)

/-- in an isolate that was opened, d more within it -/
def InV (t0 : List Ent) (p : P6) (d : Int) : Prop := ∃ (s : List Ent) (I : Ent), p.st = s ++ I :: t0 ∧ I.iso = true ∧ (s.filter (·.iso)).length + 1 ≤ p.valid ∧ ((p.isos + (s.filter (·.iso)).length : Nat) : Int) = d
theorem inV_push {t0 : List Ent} {p : P6} {d : Int} (h : InV t0 p d) (k o : Int) : InV t0 (pushP p k o false) d := by
  obtain ⟨s, I, h1, hI, h2, h3⟩ := h
  unfold pushP
  split
  · exact ⟨s, I, h1, hI, h2, h3⟩
  · split
    · refine ⟨⟨_, o, false⟩ :: s, I, by show _ :: p.st = _; rw [h1]; rfl, hI, ?_, ?_⟩
      · simpa [List.filter_cons] using h2
      · simpa [List.filter_cons] using h3
    · exact ⟨s, I, h1, hI, h2, h3⟩
theorem inV_begin {t0 : List Ent} {p : P6} {d : Int} (h : InV t0 p d) (k o : Int) : InV t0 (beginP p k o) d := by
  unfold beginP
  split
  · obtain ⟨s, I, h1, hI, h2, h3⟩ := h
    split <;> exact ⟨s, I, h1, hI, h2, h3⟩
  · exact inV_push h k o
theorem inV_back {t0 : List Ent} {p : P6} {d : Int} (h : InV t0 p d) : InV t0 (backP p) d := by
  obtain ⟨s, I, h1, hI, h2, h3⟩ := h
  unfold backP
  split
  · exact ⟨s, I, h1, hI, h2, h3⟩
  · split
    · exact ⟨s, I, h1, hI, h2, h3⟩
    · split
      · exact ⟨s, I, h1, hI, h2, h3⟩
      · rename_i e st hst
        split
        · rename_i hc
          cases s with
          | nil =>
            rw [h1] at hst
            injection hst with h4 _
            rw [← h4, hI] at hc
            simp at hc
          | cons a s =>
            rw [h1] at hst
            injection hst with h4 h5
            subst h4
            refine ⟨s, I, h5.symm, hI, ?_, ?_⟩
            · have := h2; simp [hc.1] at this; simpa using this
            · have := h3; simp [hc.1] at this; simpa using this
        · exact ⟨s, I, h1, hI, h2, h3⟩
theorem inV_step {t0 : List Ent} {p : P6} {d : Int} (h : InV t0 p d) (l : List Int) (i c : Int) (h10 : c ≠ 10) (hd : 0 ≤ d + weigh c) : InV t0 (stepP p l i c) (d + weigh c) := by
  obtain ⟨f1, f2⟩ := class_facts c
  unfold stepP
  rw [if_neg h10]
  split
  · rename_i hO
    obtain ⟨_, g2, g3⟩ := f1 hO
    have hw : weigh c = 0 := by unfold weigh; rw [g2, if_neg g3]; rfl
    rw [hw, Int.add_zero]
    unfold embedP
    split
    · exact inV_begin h _ _
    · split
      · exact inV_begin h _ _
      · split
        · exact inV_begin h _ _
        · split
          · exact inV_begin h _ _
          · split
            · exact inV_back h
            · exact h
  · split
    · rename_i hP
      obtain ⟨_, _, g3⟩ := f2 hP
      have hw : weigh c = 1 := by unfold weigh; rw [hP, if_neg g3]; rfl
      rw [hw]
      obtain ⟨s, I, h1, hI, h2, h3⟩ := h
      unfold isolateP
      split
      · exact ⟨s, I, h1, hI, h2, by show ((p.isos + 1 + _ : Nat) : Int) = _; omega⟩
      · rename_i hf
        have hfit : fitP p (isolate l i) = true := by
          cases hq : fitP p (isolate l i) with
          | true => rfl
          | false => rw [hq] at hf; simp at hf
        have hne : ∃ e st, p.st = e :: st := by
          cases hs : p.st with
          | nil => rw [h1] at hs; simp at hs
          | cons e st => exact ⟨e, st, rfl⟩
        obtain ⟨e, st, hst⟩ := hne
        have hU : pushP p (isolate l i) (-1) true = { p with st := ⟨nextL e.lev (isolate l i), -1, true⟩ :: p.st } := by
          unfold fitP at hfit; unfold pushP
          rw [hst] at hfit ⊢
          simp only [decide_eq_true_eq] at hfit
          simp only
          rw [if_pos hfit]
        rw [hU]
        refine ⟨⟨nextL e.lev (isolate l i), -1, true⟩ :: s, I, by show _ :: p.st = _; rw [h1]; rfl, hI, ?_, ?_⟩
        · show _ ≤ p.valid + 1
          simp; omega
        · show ((p.isos + _ : Nat) : Int) = _
          simp; omega
    · rename_i hO hP
      split
      · rename_i h22
        have hw : weigh c = -1 := by unfold weigh; rw [if_neg hP, if_pos h22]; rfl
        rw [hw] at hd ⊢
        obtain ⟨s, I, h1, hI, h2, h3⟩ := h
        unfold endP
        split
        · exact ⟨s, I, h1, hI, h2, by show ((p.isos - 1 + _ : Nat) : Int) = _; omega⟩
        · rename_i hi
          rw [if_pos (by omega)]
          obtain ⟨t, t1, t2⟩ := unwind_in (I :: t0) s (by omega)
          refine ⟨t, I, by show unwind p.st = _; rw [h1, t1], hI, by show _ ≤ p.valid - 1; omega, by show ((p.isos + _ : Nat) : Int) = _; omega⟩
      · rename_i h22
        have hw : weigh c = 0 := by unfold weigh; rw [if_neg hP, if_neg h22]; rfl
        rw [hw, Int.add_zero]
        exact h
theorem inV_end {t0 : List Ent} {p : P6} (h : InV t0 p 0) : (endP p).st = t0 := by
  obtain ⟨s, I, h1, hI, h2, h3⟩ := h
  have hi : p.isos = 0 := by omega
  have hf : (s.filter (·.iso)).length = 0 := by omega
  unfold endP
  rw [if_neg (by omega), if_pos (by omega)]
  show unwind p.st = t0
  rw [h1, unwind_out _ hI _ _ hf]

/-- in an isolate for which there was no room, d more within it -/
def InO (t0 : List Ent) (n0 : Nat) (p : P6) (d : Int) : Prop := p.st = t0 ∧ (p.isos : Int) = n0 + 1 + d
theorem inO_step {t0 : List Ent} {n0 : Nat} {p : P6} {d : Int} (h : InO t0 n0 p d) (l : List Int) (i c : Int) (h10 : c ≠ 10) (h0 : 0 ≤ d) : InO t0 n0 (stepP p l i c) (d + weigh c) := by
  obtain ⟨f1, f2⟩ := class_facts c
  obtain ⟨h1, h2⟩ := h
  have hpos : 0 < p.isos := by omega
  have hov : overP p = true := by simp [overP, hpos]
  have hb : ∀ k o, beginP p k o = p := fun k o => by
    unfold beginP
    rw [hov, Bool.true_or, if_pos rfl, if_neg (by omega)]
  unfold stepP
  rw [if_neg h10]
  split
  · rename_i hO
    obtain ⟨_, g2, g3⟩ := f1 hO
    have hw : weigh c = 0 := by unfold weigh; rw [g2, if_neg g3]; rfl
    rw [hw, Int.add_zero]
    have hk : backP p = p := by unfold backP; rw [if_pos hpos]
    have he : embedP p c = p := by unfold embedP; simp only [hb, hk]; (repeat' split) <;> rfl
    rw [he]; exact ⟨h1, h2⟩
  · split
    · rename_i hP
      obtain ⟨_, _, g3⟩ := f2 hP
      have hw : weigh c = 1 := by unfold weigh; rw [hP, if_neg g3]; rfl
      rw [hw]
      unfold isolateP
      rw [hov, Bool.true_or, if_pos rfl]
      exact ⟨h1, by show ((p.isos + 1 : Nat) : Int) = _; omega⟩
    · rename_i hO hP
      split
      · rename_i h22
        have hw : weigh c = -1 := by unfold weigh; rw [if_neg hP, if_pos h22]; rfl
        rw [hw]
        unfold endP
        rw [if_pos hpos]
        exact ⟨h1, by show ((p.isos - 1 : Nat) : Int) = _; omega⟩
      · rename_i h22
        have hw : weigh c = 0 := by unfold weigh; rw [if_neg hP, if_neg h22]; rfl
        rw [hw, Int.add_zero]
        exact ⟨h1, h2⟩
theorem inO_end {t0 : List Ent} {n0 : Nat} {p : P6} (h : InO t0 n0 p 0) : (endP p).st = t0 := by
  obtain ⟨h1, h2⟩ := h
  unfold endP
  rw [if_pos (by omega)]
  exact h1

/-- in an isolate that began over the stack t0 -/
def InI (t0 : List Ent) (p : P6) (d : Int) : Prop := 0 ≤ d ∧ (InV t0 p d ∨ ∃ n0, InO t0 n0 p d)
theorem inI_step {t0 : List Ent} {p : P6} {d : Int} (h : InI t0 p d) (l : List Int) (i c : Int) (h10 : c ≠ 10) (hd : 0 ≤ d + weigh c) : InI t0 (stepP p l i c) (d + weigh c) := by
  obtain ⟨h0, h | ⟨n0, h⟩⟩ := h
  · exact ⟨hd, .inl (inV_step h l i c h10 hd)⟩
  · exact ⟨hd, .inr ⟨n0, inO_step h l i c h10 h0⟩⟩
theorem inI_end {t0 : List Ent} {p : P6} (h : InI t0 p 0) : (endP p).st = t0 := by
  obtain ⟨_, h | ⟨n0, h⟩⟩ := h
  · exact inV_end h
  · exact inO_end h
theorem inI_begin (p : P6) (e : Ent) (st : List Ent) (hst : p.st = e :: st) (l : List Int) (i c : Int) (hP : isOpens c = true) : InI p.st (stepP p l i c) 0 := by
  obtain ⟨f1, f2⟩ := class_facts c
  obtain ⟨g1, g2, g3⟩ := f2 hP
  unfold stepP
  rw [if_neg g1, g2, hP]
  simp only [Bool.false_eq_true, if_false, if_true]
  unfold isolateP
  split
  · exact ⟨by omega, .inr ⟨p.isos, rfl, by show ((p.isos + 1 : Nat) : Int) = _; omega⟩⟩
  · rename_i hf
    have hfit : fitP p (isolate l i) = true := by
      cases hq : fitP p (isolate l i) with
      | true => rfl
      | false => rw [hq] at hf; simp at hf
    have hov : p.isos = 0 := by
      have : overP p = false := by
        cases hq : overP p with
        | false => rfl
        | true => rw [hq] at hf; simp at hf
      simp [overP] at this; omega
    have hU : pushP p (isolate l i) (-1) true = { p with st := ⟨nextL e.lev (isolate l i), -1, true⟩ :: p.st } := by
      unfold fitP at hfit; unfold pushP
      rw [hst] at hfit ⊢
      simp only [decide_eq_true_eq] at hfit
      simp only
      rw [if_pos hfit]
    rw [hU]
    refine ⟨by omega, .inl ⟨[], ⟨nextL e.lev (isolate l i), -1, true⟩, rfl, rfl, ?_, ?_⟩⟩
    · show _ ≤ p.valid + 1
      simp
    · show ((p.isos + _ : Nat) : Int) = _
      simp [hov]

theorem core_run (l : List Int) (base : Int) (k : Nat) : (runX l base (k + 1)).core = stepP (runX l base k).core l k (at0 l k) := by
  obtain ⟨e, st, hst⟩ := (wf_run l base k).top
  rw [runX, core_step hst]
/-- within an isolate, by the look for its end -/
theorem in_look (l : List Int) (base : Int) {p q : Nat} (hq : q < l.length) (ho : isOpens (at0 l p) = true) (hm : Mate l (mrun l l.length).1 (mf l) l.length p q) :
    ∀ m, p + 1 + m ≤ q → ∃ d : Nat, lk l p (p + 1 + m) = .run (d + 1) ∧ InI (runX l base p).core.st (runX l base (p + 1 + m)).core d := by
  have hend : (lk l p l.length).int = (q : Int) := by
    have h1 := hm.fa
    have h2 := mf_end l p (by have := hm.lt; omega) ho
    rw [lk_end, ← h2]; exact h1
  intro m
  induction m with
  | zero =>
    intro _
    obtain ⟨e, st, hst⟩ := (wf_run l base p).top
    refine ⟨0, by rw [Nat.add_zero]; exact lk_begin l p, ?_⟩
    rw [Nat.add_zero, core_run]
    exact inI_begin (runX l base p).core e st hst l p (at0 l p) ho
  | succ m ih =>
    intro hmq
    obtain ⟨d, h1, h2⟩ := ih (by omega)
    obtain ⟨w1, _⟩ := hm.within (p + 1 + m) (by omega) (by omega)
    have hnx := lk_next l p (p + 1 + m) (by omega) (by omega)
    rw [h1] at hnx
    simp only [lookStep, w1, if_false] at hnx
    rw [show p + 1 + (m + 1) = p + 1 + m + 1 by omega, core_run]
    obtain ⟨f1, f2⟩ := class_facts (at0 l (p + 1 + m))
    cases hP : isOpens (at0 l (p + 1 + m)) with
    | true =>
      obtain ⟨_, _, g3⟩ := f2 hP
      have hw : weigh (at0 l (p + 1 + m)) = 1 := by unfold weigh; rw [hP, if_neg g3]; rfl
      rw [hP, if_pos rfl] at hnx
      have h3 := inI_step h2 l (p + 1 + m : Nat) (at0 l (p + 1 + m)) w1 (by omega)
      rw [hw] at h3
      exact ⟨d + 1, hnx, h3⟩
    | false =>
      rw [hP] at hnx
      simp only [Bool.false_eq_true, if_false] at hnx
      by_cases h22 : at0 l (p + 1 + m) = 22
      · rw [if_pos h22] at hnx
        have hw : weigh (at0 l (p + 1 + m)) = -1 := by unfold weigh; rw [hP, if_pos h22]; rfl
        by_cases hd : d + 1 ≤ 1
        · rw [if_pos hd] at hnx
          have h4 := lk_stays l p (p + 1 + m + 1) (by omega) _ hnx (l.length - (p + 1 + m + 1)) (by omega)
          rw [show p + 1 + m + 1 + (l.length - (p + 1 + m + 1)) = l.length by omega] at h4
          rw [h4] at hend
          have : ((p + 1 + m : Nat) : Int) = (q : Int) := hend
          omega
        · rw [if_neg hd] at hnx
          have h3 := inI_step h2 l (p + 1 + m : Nat) (at0 l (p + 1 + m)) w1 (by omega)
          rw [hw] at h3
          refine ⟨d - 1, by rw [hnx]; congr 1; omega, ?_⟩
          rw [show ((d - 1 : Nat) : Int) = (d : Int) + -1 by omega]
          exact h3
      · rw [if_neg h22] at hnx
        have hw : weigh (at0 l (p + 1 + m)) = 0 := by unfold weigh; rw [hP, if_neg h22]; rfl
        have h3 := inI_step h2 l (p + 1 + m : Nat) (at0 l (p + 1 + m)) w1 (by omega)
        rw [hw, Int.add_zero] at h3
        exact ⟨d, hnx, h3⟩
/-- an isolate's beginning and its end have one level -/
theorem mates_level (l : List Int) (base : Int) {p q : Nat} (hq : q < l.length) (ho : isOpens (at0 l p) = true) (hm : Mate l (mrun l l.length).1 (mf l) l.length p q) : at0 (lvs l base) p = at0 (lvs l base) q := by
  have hlt := hm.lt
  have hend : (lk l p l.length).int = (q : Int) := by
    have h1 := hm.fa
    have h2 := mf_end l p (by omega) ho
    rw [lk_end, ← h2]; exact h1
  obtain ⟨d, h1, h2⟩ := in_look l base hq ho hm (q - (p + 1)) (by omega)
  rw [show p + 1 + (q - (p + 1)) = q by omega] at h1 h2
  have hd : d = 0 := by
    apply Classical.byContradiction
    intro hd
    have hnx := lk_next l p q (by omega) hq
    rw [h1, hm.is] at hnx
    simp only [lookStep, opens22] at hnx
    simp only [Bool.false_eq_true, if_false, if_true, show ¬ (22 : Int) = 10 by decide, show ¬ d + 1 ≤ 1 by omega] at hnx
    rcases lk_later l p (q + 1) (by omega) _ hnx (l.length - (q + 1)) (by omega) with ⟨d', h4⟩ | h4 | ⟨e, h5, h4⟩
    · rw [show q + 1 + (l.length - (q + 1)) = l.length by omega] at h4
      rw [h4] at hend
      have : (-1 : Int) = (q : Int) := hend
      omega
    · rw [show q + 1 + (l.length - (q + 1)) = l.length by omega] at h4
      rw [h4] at hend
      have : (-1 : Int) = (q : Int) := hend
      omega
    · rw [show q + 1 + (l.length - (q + 1)) = l.length by omega] at h4
      rw [h4] at hend
      have : (e : Int) = (q : Int) := hend
      omega
  subst hd
  have he := inI_end (by exact h2 : InI (runX l base p).core.st (runX l base q).core 0)
  have hlen := lvs_length l base
  obtain ⟨e, st, hst⟩ := (wf_run l base p).top
  obtain ⟨e', st', hst'⟩ := (wf_run l base q).top
  have hcp : (runX l base p).core.st = e :: st := hst
  have hcq : (runX l base q).core.st = e' :: st' := hst'
  rw [hcp] at he
  obtain ⟨f1, f2⟩ := class_facts (at0 l p)
  obtain ⟨g1, g2, _⟩ := f2 ho
  rw [at0_eq (by omega : p < (lvs l base).length), at0_eq (by omega : q < (lvs l base).length), lvs_at l base p (by omega) (by omega), lvs_at l base q hq (by omega)]
  have hp1 : (tellP (runX l base p).core l[p]).1 = e.lev := by
    rw [← at0_eq (by omega : p < l.length)]
    unfold tellP
    rw [hcp]
    simp only [g1, g2, ho, Bool.false_eq_true, if_false, if_true]
  have hq1 : (tellP (runX l base q).core l[q]).1 = e.lev := by
    rw [← at0_eq hq, hm.is]
    unfold tellP
    rw [hcq]
    simp only [he, show ¬ (22 : Int) = 10 by decide, show isOut 22 = false by decide, opens22, Bool.false_eq_true, if_false, if_true]
  rw [hp1, hq1]
end Go.Proofs.Ytajgjloailliiaa

/- Layer 8: what SeqOnce asks, plainly. -/
namespace Go.Proofs.Ytajgjloailliiaa
open Go.RowKit

section
variable {cl lv : List Int} {L : List (List Int)} {u : Nat → Nat}
theorem run_sorted (h : Split cl lv (seenI cl) (seenQ cl).length L u) {j : Nat} (hj : j < L.length) : L[j].Pairwise (· < ·) ∧ ∀ x ∈ L[j], headI L[j] ≤ x ∧ x ≤ lastI L[j] := by
  obtain ⟨ha, e1⟩ := h.head hj
  obtain ⟨hb, e2⟩ := h.last hj
  have hl := h.len j hj
  refine ⟨List.pairwise_iff_getElem.2 fun i k hi hk hik => ?_, fun x hx => ?_⟩
  · rw [h.elem hj hi, h.elem hj hk]
    have := seenQ_sorted cl (i := u j + i) (j := u j + k) (by omega) (h.inS hj hk)
    omega
  · obtain ⟨t, ht, rfl⟩ := List.mem_iff_getElem.1 hx
    rw [e1, e2, h.elem hj ht]
    have hin := h.inS hj ht
    constructor
    · rcases Nat.eq_zero_or_pos t with h0 | h0
      · subst h0; simp
      · have := seenQ_sorted cl (i := u j) (j := u j + t) (by omega) hin; omega
    · rcases Nat.lt_or_ge (u j + t) (u (j + 1) - 1) with hh | hh
      · have := seenQ_sorted cl hh hb; omega
      · have he : u j + t = u (j + 1) - 1 := by omega
        simp only [he]; omega
/-- a chain rises, from its first run's first place on, and is of one level -/
theorem chain_ok (h : Split cl lv (seenI cl) (seenQ cl).length L u) (hO : Onward cl (mt cl) L) (hM : ∀ p q : Nat, q < cl.length → isOpens (at0 cl p) = true → Mate cl (mrun cl cl.length).1 (mf cl) cl.length p q → at0 lv p = at0 lv q) :
    ∀ d k, (hk : k < L.length) → L.length - k ≤ d → (chainI cl (mt cl) L k).Pairwise (· < ·) ∧ ∀ x ∈ chainI cl (mt cl) L k, headI L[k] ≤ x ∧ at0 lv x.toNat = at0 lv (headI L[k]).toNat := by
  intro d
  induction d with
  | zero => intro k hk hd; omega
  | succ d ih =>
    intro k hk hd
    have hg : L.getD k [] = L[k] := by simp [hk]
    obtain ⟨s1, s2⟩ := run_sorted h hk
    obtain ⟨ha, e1⟩ := h.head hk
    obtain ⟨hb, e2⟩ := h.last hk
    have hl := h.len k hk
    have own : ∀ x ∈ L[k], at0 lv x.toNat = at0 lv (headI L[k]).toNat := fun x hx => by
      obtain ⟨t, ht, rfl⟩ := List.mem_iff_getElem.1 hx
      rw [e1, h.elem hk ht, Int.toNat_natCast, Int.toNat_natCast]
      exact run_level h hk t (by omega) (h.inS hk ht) ha
    rcases chainI_step hO hk with ⟨_, e⟩ | ⟨k', hn, hlt, hkl, e⟩
    · rw [e, hg]
      exact ⟨s1, fun x hx => ⟨(s2 x hx).1, own x hx⟩⟩
    · rw [e, hg]
      obtain ⟨i1, i2⟩ := ih k' hkl (by omega)
      rcases next_goes h hk with e3 | ⟨k2, p, q, e3, g⟩
      · rw [e3] at hn; omega
      obtain rfl : k2 = k' := by omega
      have hlast : lastI L[k] = (p : Int) := by rw [← hg]; exact g.last
      have hhead : headI L[k2] = (q : Int) := by have := g.head; rwa [show L.getD k2 [] = L[k2] by simp [hkl]] at this
      have hpq := g.mate.lt
      have hlastmem : lastI L[k] ∈ L[k] := by
        rw [e2]
        have ht : L[k].length - 1 < L[k].length := by have := h.pos k hk; omega
        have h3 := h.elem hk ht
        have he : u k + (L[k].length - 1) = u (k + 1) - 1 := by omega
        simp only [he] at h3
        rw [← h3]; exact List.getElem_mem ht
      have hlv : at0 lv p = at0 lv (headI L[k]).toNat := by
        have := own _ hlastmem
        rwa [hlast, Int.toNat_natCast] at this
      have hqb : q < cl.length := g.mate.bi
      refine ⟨List.pairwise_append.2 ⟨s1, i1, fun x hx y hy => ?_⟩, fun x hx => ?_⟩
      · have h4 := (s2 x hx).2
        have h5 := (i2 y hy).1
        rw [hlast] at h4
        rw [hhead] at h5
        omega
      · rcases List.mem_append.1 hx with hx | hx
        · exact ⟨(s2 x hx).1, own x hx⟩
        · obtain ⟨h5, h6⟩ := i2 x hx
          refine ⟨?_, ?_⟩
          · have h7 := (s2 _ hlastmem).1
            rw [hlast] at h7
            rw [hhead] at h5
            omega
          · rw [h6, hhead, Int.toNat_natCast, ← hM p q hqb g.op g.mate, hlv]
end
theorem seenI_nodup (cl : List Int) : (seenI cl).Nodup := by
  rw [seenI_eq]
  exact List.Pairwise.map _ (fun a b (hab : a ≠ b) => by omega) (List.Pairwise.filter _ List.nodup_range)
theorem seen_count (l : List Int) : ∀ k, k ≤ l.length → (seenN l k).length = ((l.take k).filter fun c => !isOut c).length := by
  intro k
  induction k with
  | zero => intro _; simp [seenN]
  | succ k ih =>
    intro hk
    rw [seenN_succ l k (by omega), List.take_succ_eq_append_getElem (by omega), List.filter_append]
    cases ho : isOut l[k] with
    | true => rw [if_pos rfl, ih (by omega)]; simp [ho]
    | false => rw [if_neg (by simp), List.length_append, ih (by omega)]; simp [ho]
theorem ahead_first {cl : List Int} (lv : List Int) (base : Int) : ∀ k, k ≤ (seenQ cl).length → aheadN lv (seenI cl) base 0 k = base := by
  intro k
  induction k with
  | zero => intro _; rfl
  | succ k ih =>
    intro hk
    rw [aheadN, ih (by omega)]
    split
    · rename_i hc
      simp only [Bool.and_eq_true, beq_iff_eq, decide_eq_true_eq] at hc
      obtain ⟨c1, c2⟩ := hc
      rw [seenI_getD, show (seenQ cl).getD k 0 = (seenQ cl)[k] by simp [show k < (seenQ cl).length by omega]] at c1
      have := seenQ_sorted cl c2 (by omega)
      omega
    · rfl

/-- what holds of the sequences of classes and their own levels -/
structure OnceOk (l lv xc : List Int) (n : Int) (S : List Sq) : Prop where
  right : rightI (S.map (·.pl)) l.length = true
  ne : ∀ s ∈ S, s.pl ≠ []
  heads : ∀ i (h : i + 1 < S.length), headI S[i].pl < headI S[i + 1].pl
  places : ∀ s ∈ S, ∀ x ∈ s.pl, ∃ q : Nat, x = (q : Int) ∧ q < l.length ∧ at0 lv q = s.lev ∧ isOut (at0 xc q) = false
  sos : ∀ (h : 0 < S.length), headI S[0].pl = 0 → S[0].sos = dirL (max S[0].lev n)
  sum : (S.map fun s => s.pl.length).sum = (l.filter fun c => !isOut c).length
theorem once_ok (l : List Int) (n : Int) : OnceOk l (lvs l n) (xcls l n) n (seqsI l (lvs l n) n) := by
  have he : l.length = (lvs l n).length := (lvs_length l n).symm
  obtain ⟨u, hu⟩ := split_I he
  have hO := onward_I l (lvs l n)
  have hW := within_I l (lvs l n)
  have hP := seqs_perm he n
  obtain ⟨L, hL⟩ : ∃ L, listsI l (lvs l n) = L := ⟨_, rfl⟩
  have hsq : seqsI l (lvs l n) n = (startsN l (mt l) L L.length).map fun i => sqOf l (lvs l n) n (chainI l (mt l) L i) := by rw [seqsI, seqsN_eq, hL]
  rw [hL] at hu hO hW
  have hC := fun k (hk : k < L.length) => chain_ok hu hO (fun p q hq ho hm => mates_level l n hq ho hm) (L.length - k) k hk (Nat.le_refl _)
  have hmem : ∀ s ∈ seqsI l (lvs l n) n, ∃ k, ∃ hk : k < L.length, s = sqOf l (lvs l n) n (chainI l (mt l) L k) := fun s hs => by
    rw [hsq] at hs
    obtain ⟨k, hk, rfl⟩ := List.mem_map.1 hs
    exact ⟨k, (starts_mem.1 hk).1, rfl⟩
  have hhd : ∀ k (hk : k < L.length), headI (chainI l (mt l) L k) = headI L[k] := fun k hk => (chainI_ne hO hW hk).2
  refine ⟨?_, ?_, ?_, ?_, ?_, ?_⟩
  · unfold rightI
    rw [decide_eq_true_eq]
    refine ⟨fun r hr => ?_, hP.symm.nodup (seenI_nodup l), fun x hx => ?_⟩
    · obtain ⟨s, hs, rfl⟩ := List.mem_map.1 hr
      obtain ⟨k, hk, rfl⟩ := hmem s hs
      exact (hC k hk).1
    · have hx2 := hP.mem_iff.1 hx
      rw [seenI_eq] at hx2
      obtain ⟨q, hq, rfl⟩ := List.mem_map.1 hx2
      have := (seenQ_mem l q).1 hq
      omega
  · intro s hs
    obtain ⟨k, hk, rfl⟩ := hmem s hs
    exact (chainI_ne hO hW hk).1
  · intro i hi
    have hs : (startsN l (mt l) L L.length).Pairwise (· < ·) := List.Pairwise.filter _ List.pairwise_lt_range
    have hlen : (seqsI l (lvs l n) n).length = (startsN l (mt l) L L.length).length := by rw [hsq, List.length_map]
    have hlt := List.pairwise_iff_getElem.1 hs i (i + 1) (by omega) (by omega) (by omega)
    have h1 := (starts_mem.1 (List.getElem_mem (show i < (startsN l (mt l) L L.length).length by omega))).1
    have h2 := (starts_mem.1 (List.getElem_mem (show i + 1 < (startsN l (mt l) L L.length).length by omega))).1
    simp only [hsq, List.getElem_map]
    show headI (chainI l (mt l) L _) < headI (chainI l (mt l) L _)
    rw [hhd _ h1, hhd _ h2]
    obtain ⟨x1, e1⟩ := hu.head h1
    obtain ⟨x2, e2⟩ := hu.head h2
    rw [e1, e2]
    have := seenQ_sorted l (hu.lt hlt (by omega)) x2
    omega
  · intro s hs x hx
    obtain ⟨k, hk, rfl⟩ := hmem s hs
    obtain ⟨q, rfl, hq⟩ := chainI_in hO hW (L.length - k) k hk (Nat.le_refl _) x hx
    refine ⟨q, rfl, hq, ?_, ?_⟩
    · have := ((hC k hk).2 _ hx).2
      rw [Int.toNat_natCast] at this
      rw [this]
      show at0 (lvs l n) (headI L[k]).toNat = (lvs l n).getD (headI (chainI l (mt l) L k)).toNat 0
      rw [hhd k hk]
    · have hin : (q : Int) ∈ ((seqsI l (lvs l n) n).map (·.pl)).flatten := List.mem_flatten.2 ⟨_, List.mem_map.2 ⟨_, hs, rfl⟩, hx⟩
      have h2 := hP.mem_iff.1 hin
      rw [seenI_eq] at h2
      obtain ⟨q', hq', e⟩ := List.mem_map.1 h2
      obtain rfl : q' = q := by omega
      have h3 := ((seenQ_mem l q').1 hq').2
      have hxl := xcls_length l n
      rw [at0_eq (by omega : q' < (xcls l n).length), xcls_at l n q' hq (by omega)]
      have h4 := (tell_facts (wf_run l n q') (ov_run l n q') l[q']).2.2.1
      rw [h4, ← at0_eq hq]; exact h3
  · intro h h0
    obtain ⟨k, hk, e⟩ := hmem _ (List.getElem_mem h)
    rw [e] at h0 ⊢
    have h1 : headI (chainI l (mt l) L k) = 0 := h0
    show dirL (max _ (aheadN (lvs l n) (seenI l) n (headI (chainI l (mt l) L k)) (seenI l).length)) = _
    have h3 := ahead_first (cl := l) (lvs l n) n (seenQ l).length (Nat.le_refl _)
    rw [seenI_length]
    simp only [sqOf, h1, h3]
  · have h1 := hP.length_eq
    rw [List.length_flatten, List.map_map] at h1
    have h2 := seen_count l l.length (Nat.le_refl _)
    rw [List.take_length] at h2
    rw [← h2]
    exact h1
end Go.Proofs.Ytajgjloailliiaa
