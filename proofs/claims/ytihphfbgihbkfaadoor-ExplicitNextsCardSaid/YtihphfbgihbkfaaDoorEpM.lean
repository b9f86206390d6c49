/- Layer 6: the program's step and the document's are one. -/
import Derived.Test.YtihphfbgihbkfaaDoorEpD
import Derived.Test.YtihphfbgihbkfaaDoorExI
namespace Go.Proofs.YtihphfbgihbkfaaDoor
open Go.RowKit

def X6.core (x : X6) : P6 := ⟨x.base, x.st, x.isos, x.embeds, x.valid⟩
/-- an override is none, L or R -/
def OvOk (x : X6) : Prop := ∀ e ∈ x.st, e.over = -1 ∨ e.over = 0 ∨ e.over = 1
theorem overE_eq {e : Ent} (h : e.over = -1 ∨ e.over = 0 ∨ e.over = 1) (c : Int) : (if 0 ≤ e.over then e.over else c) = overE e c := by
  unfold overE
  rcases h with h | h | h <;> rw [h] <;> simp
theorem isOut_cases (c : Int) : isOut c = true ↔ c = 14 ∨ c = 15 ∨ c = 16 ∨ c = 17 ∨ c = 18 ∨ c = 9 := by simp [isOut]
theorem isOpens_cases (c : Int) : isOpens c = true ↔ c = 19 ∨ c = 20 ∨ c = 21 := by simp [isOpens]

theorem core_push (x : X6) (n o : Int) (i : Bool) : (pushX x ⟨n, o, i⟩).core = { x.core with st := ⟨n, o, i⟩ :: x.core.st } := rfl
theorem core_put (x : X6) (c : Int) : (putX x c).core = x.core := by unfold putX; split <;> rfl
theorem fits_core (x : X6) (n : Int) : fitsX x n = (decide (n ≤ 125) && !overP x.core) := by
  unfold fitsX overP X6.core
  cases h1 : x.isos <;> cases h2 : x.embeds <;> simp <;> omega
/-- a beginning of an embedding is one -/
theorem core_embed {x : X6} {e : Ent} {st : List Ent} (hst : x.st = e :: st) (c : Int) :
    (embedX x c).core = beginP x.core (dirOf c) (overOf c) := by
  have hcs : x.core.st = e :: st := hst
  have hF : fitP x.core (dirOf c) = decide (nextL e.lev (dirOf c) ≤ 125) := by unfold fitP; rw [hcs]
  have hU : pushP x.core (dirOf c) (overOf c) false = if nextL e.lev (dirOf c) ≤ 125 then { x.core with st := ⟨nextL e.lev (dirOf c), overOf c, false⟩ :: x.core.st } else x.core := by unfold pushP; rw [hcs]
  unfold embedX beginP
  split
  · rename_i h; rw [hst] at h; cases h
  · rename_i e' st' h
    rw [hst] at h
    injection h with h1 h2
    subst h1
    simp only
    rw [fits_core, hF, hU]
    have hc : ({ x with levels := x.levels ++ [e.lev], classes := x.classes ++ [c] } : X6).core = x.core := rfl
    rw [hc]
    cases hO : overP x.core with
    | true =>
      simp only [Bool.not_true, Bool.and_false, Bool.true_or, if_true]
      rw [if_neg (by simp)]
      by_cases h0 : x.isos = 0
      · rw [if_pos h0, if_pos (show x.core.isos = 0 from h0)]; rfl
      · rw [if_neg h0, if_neg (show ¬ x.core.isos = 0 from h0)]; rfl
    | false =>
      have hi : x.isos = 0 := by unfold overP X6.core at hO; simp at hO; omega
      by_cases hn : nextL e.lev (dirOf c) ≤ 125
      · rw [if_pos (by simp [hn]), if_neg (by simp [hn]), if_pos hn]; rfl
      · rw [if_neg (show ¬ (decide (nextL e.lev (dirOf c) ≤ 125) && !false) = true by simp [hn]), if_pos (show (false || !decide (nextL e.lev (dirOf c) ≤ 125)) = true by simp [hn]), if_pos hi, if_pos (show x.core.isos = 0 from hi)]; rfl
theorem core_isolate {x : X6} {e : Ent} {st : List Ent} (hst : x.st = e :: st) (l : List Int) (i c : Int) :
    (isolateX x l i c).core = isolateP x.core l i := by
  have hcs : x.core.st = e :: st := hst
  have hF : fitP x.core (isolate l i) = decide (nextL e.lev (isolate l i) ≤ 125) := by unfold fitP; rw [hcs]
  have hU : pushP x.core (isolate l i) (-1) true = if nextL e.lev (isolate l i) ≤ 125 then { x.core with st := ⟨nextL e.lev (isolate l i), -1, true⟩ :: x.core.st } else x.core := by unfold pushP; rw [hcs]
  have hp := core_put x c
  obtain ⟨p1, p2, p3, p4⟩ := putX_st x c
  unfold isolateX isolateP
  split
  · rename_i h; rw [hst] at h; cases h
  · rename_i e' st' h
    rw [hst] at h
    injection h with h1 h2
    subst h1
    rw [fits_core, hp, hF, hU]
    cases hO : overP x.core with
    | true =>
      simp only [Bool.not_true, Bool.and_false, Bool.true_or, if_true]
      rw [if_neg (by simp)]
      show P6.mk _ _ _ _ _ = P6.mk _ _ _ _ _
      rw [p1, p2, p3, p4]
      have : (putX x c).base = x.base := congrArg P6.base hp
      rw [this]; rfl
    | false =>
      by_cases hn : nextL e.lev (isolate l i) ≤ 125
      · rw [if_pos (by simp [hn]), if_neg (by simp [hn]), if_pos hn]
        show P6.mk _ _ _ _ _ = P6.mk _ _ _ _ _
        have : (putX x c).base = x.base := congrArg P6.base hp
        show P6.mk (putX x c).base (_ :: (putX x c).st) (putX x c).isos (putX x c).embeds ((putX x c).valid + 1) = _
        rw [p1, p2, p3, p4, this]; rfl
      · rw [if_neg (by simp [hn]), if_pos (by simp [hn])]
        show P6.mk (putX x c).base (putX x c).st ((putX x c).isos + 1) (putX x c).embeds (putX x c).valid = _
        have : (putX x c).base = x.base := congrArg P6.base hp
        rw [p1, p2, p3, p4, this]; rfl
theorem core_end (x : X6) (c : Int) : (endX x c).core = endP x.core := by
  rw [endX, core_put]
  unfold endX0 endP
  by_cases h : 0 < x.isos
  · rw [if_pos h, if_pos (show 0 < x.core.isos from h)]; rfl
  · rw [if_neg h, if_neg (show ¬ 0 < x.core.isos from h)]
    by_cases h2 : 0 < x.valid
    · rw [if_pos h2, if_pos (show 0 < x.core.valid from h2)]; rfl
    · rw [if_neg h2, if_neg (show ¬ 0 < x.core.valid from h2)]
theorem core_back {x : X6} {e : Ent} {st : List Ent} (hst : x.st = e :: st) : (backX x).core = backP x.core := by
  have hB : backP x.core = if 0 < x.isos then x.core else if 0 < x.embeds then { x.core with embeds := x.embeds - 1 } else if e.iso = false ∧ 1 ≤ st.length then { x.core with st := st } else x.core := by
    have hcs : x.core.st = e :: st := hst
    unfold backP
    by_cases h : 0 < x.core.isos
    · rw [if_pos h, if_pos (show 0 < x.isos from h)]
    · rw [if_neg h, if_neg (show ¬ 0 < x.isos from h)]
      by_cases h2 : 0 < x.core.embeds
      · rw [if_pos h2, if_pos (show 0 < x.embeds from h2)]; rfl
      · rw [if_neg h2, if_neg (show ¬ 0 < x.embeds from h2), hcs]
  rw [hB]
  unfold backX
  split
  · rename_i h; rw [hst] at h; cases h
  · rename_i e' st' h
    rw [hst] at h
    injection h with h1 h2
    subst h1
    subst h2
    simp only
    by_cases h : 0 < x.isos
    · rw [if_pos h, if_pos h]; rfl
    · rw [if_neg h, if_neg h]
      by_cases h2 : 0 < x.embeds
      · rw [if_pos h2, if_pos h2]; rfl
      · rw [if_neg h2, if_neg h2]
        by_cases h3 : e.iso = false ∧ 1 ≤ st.length
        · rw [if_pos h3, if_pos h3]; rfl
        · rw [if_neg h3, if_neg h3]; rfl
theorem core_step {x : X6} {e : Ent} {st : List Ent} (hst : x.st = e :: st) (l : List Int) (i : Nat) (c : Int) : (stepX l x i c).core = stepP x.core l i c := by
  unfold stepX stepP
  by_cases h1 : c = 16 ∨ c = 14 ∨ c = 17 ∨ c = 15
  · have hO : isOut c = true := (isOut_cases c).2 (by omega)
    rw [if_pos h1, if_neg (by omega), if_pos hO, core_embed hst]
    unfold embedP
    rcases h1 with h | h | h | h <;> subst h <;> simp [dirOf, overOf]
  · rw [if_neg h1]
    by_cases h2 : isOpens c = true
    · have h2' := (isOpens_cases c).1 h2
      have hO : ¬ isOut c = true := fun h => by have := (isOut_cases c).1 h; omega
      rw [if_pos h2, if_neg (by omega), if_neg hO, if_pos h2, core_isolate hst]
    · have h2' : ¬ (c = 19 ∨ c = 20 ∨ c = 21) := fun h => h2 ((isOpens_cases c).2 h)
      rw [if_neg h2]
      by_cases h3 : c = 22
      · have hO : ¬ isOut c = true := fun h => by have := (isOut_cases c).1 h; omega
        rw [if_pos h3, if_neg (by omega), if_neg hO, if_neg h2, if_pos h3, core_end]
      · rw [if_neg h3]
        by_cases h4 : c = 18
        · have hO : isOut c = true := (isOut_cases c).2 (by omega)
          rw [if_pos h4, if_neg (by omega), if_pos hO, core_back hst]
          subst h4; simp [embedP]
        · rw [if_neg h4]
          by_cases h5 : c = 9
          · have hO : isOut c = true := (isOut_cases c).2 (by omega)
            rw [if_pos h5, if_neg (by omega), if_pos hO, hst]
            subst h5; simp [embedP, tellX]; rfl
          · rw [if_neg h5]
            by_cases h6 : c = 10
            · rw [if_pos h6, if_pos h6]; rfl
            · have hO : ¬ isOut c = true := fun h => by have := (isOut_cases c).1 h; omega
              rw [if_neg h6, if_neg h6, if_neg hO, if_neg h2, if_neg h3]
              split <;> exact core_put _ _

/-- what a place is told, at the end of what was told -/
structure Told (x y : X6) (r : Int × Int) : Prop where
  levels : y.levels = x.levels ++ [r.1]
  classes : y.classes = x.classes ++ [r.2]
theorem told_put {x : X6} {e : Ent} {st : List Ent} (hst : x.st = e :: st) (ho : OvOk x) (c : Int) : Told x (putX x c) (e.lev, overE e c) := by
  have he := ho e (by rw [hst]; simp)
  unfold putX
  split
  · rename_i h; rw [hst] at h; cases h
  · rename_i e' st' h
    rw [hst] at h
    injection h with h1 _
    subst h1
    exact ⟨rfl, by rw [overE_eq he]⟩
theorem ov_end {x : X6} (ho : OvOk x) : OvOk (endX0 x) := by
  have hsub : ∀ st : List Ent, ∀ e ∈ unwind st, e ∈ st := fun st e he => (List.dropWhile_sublist (l := st) (p := fun e => !e.iso)).subset (List.mem_of_mem_tail he)
  unfold endX0
  split
  · exact ho
  · split
    · exact fun e he => ho e (hsub _ e he)
    · exact ho
theorem told_step {x : X6} {k : Nat} (hw : Wf x k) (ho : OvOk x) (l : List Int) (c : Int) : Told x (stepX l x k c) (tellP x.core c) := by
  obtain ⟨e, st, hst⟩ := hw.top
  obtain ⟨⟨e2, st2, he2⟩, _⟩ := wf_end (c := c) hw
  have hT : tellP x.core c = if c = 10 then (x.base, c) else if isOut c then (e.lev, c) else if isOpens c then (e.lev, overE e c)
    else if c = 22 then (e2.lev, overE e2 c) else (e.lev, overE e (knownI c)) := by
    have hcs : x.core.st = e :: st := hst
    have hes : (endP x.core).st = e2 :: st2 := by rw [← core_end x c, endX, core_put]; exact he2
    unfold tellP
    rw [hcs]
    simp only [hes]
    rfl
  rw [hT]
  unfold stepX
  by_cases h1 : c = 16 ∨ c = 14 ∨ c = 17 ∨ c = 15
  · have hO : isOut c = true := (isOut_cases c).2 (by omega)
    rw [if_pos h1, if_neg (by omega), if_pos hO]
    unfold embedX
    split
    · rename_i h; rw [hst] at h; cases h
    · rename_i e' st' h
      rw [hst] at h
      injection h with h3 _
      subst h3
      simp only
      split
      · exact ⟨rfl, rfl⟩
      · split <;> exact ⟨rfl, rfl⟩
  · rw [if_neg h1]
    by_cases h2 : isOpens c = true
    · have h2' := (isOpens_cases c).1 h2
      have hO : ¬ isOut c = true := fun h => by have := (isOut_cases c).1 h; omega
      rw [if_pos h2, if_neg (by omega), if_neg hO, if_pos h2]
      have ht := told_put hst ho c
      unfold isolateX
      split
      · rename_i h; rw [hst] at h; cases h
      · split <;> exact ⟨ht.levels, ht.classes⟩
    · have h2' : ¬ (c = 19 ∨ c = 20 ∨ c = 21) := fun h => h2 ((isOpens_cases c).2 h)
      rw [if_neg h2]
      by_cases h3 : c = 22
      · have hO : ¬ isOut c = true := fun h => by have := (isOut_cases c).1 h; omega
        rw [if_pos h3, if_neg (by omega), if_neg hO, if_neg h2, if_pos h3, endX]
        have ht := told_put he2 (ov_end ho) c
        have hl : (endX0 x).levels = x.levels ∧ (endX0 x).classes = x.classes := by unfold endX0; split <;> (try split) <;> exact ⟨rfl, rfl⟩
        exact ⟨by rw [ht.levels, hl.1], by rw [ht.classes, hl.2]⟩
      · rw [if_neg h3]
        by_cases h4 : c = 18
        · have hO : isOut c = true := (isOut_cases c).2 (by omega)
          rw [if_pos h4, if_neg (by omega), if_pos hO]
          unfold backX
          split
          · rename_i h; rw [hst] at h; cases h
          · rename_i e' st' h
            rw [hst] at h
            injection h with h3 _
            subst h3
            subst h4
            simp only
            split
            · exact ⟨rfl, rfl⟩
            · split
              · exact ⟨rfl, rfl⟩
              · split <;> exact ⟨rfl, rfl⟩
        · rw [if_neg h4]
          by_cases h5 : c = 9
          · have hO : isOut c = true := (isOut_cases c).2 (by omega)
            rw [if_pos h5, if_neg (by omega), if_pos hO, hst]
            exact ⟨rfl, rfl⟩
          · rw [if_neg h5]
            by_cases h6 : c = 10
            · rw [if_pos h6, if_pos h6]; exact ⟨rfl, rfl⟩
            · have hO : ¬ isOut c = true := fun h => by have := (isOut_cases c).1 h; omega
              rw [if_neg h6, if_neg h6, if_neg hO, if_neg h2, if_neg h3]
              unfold knownI
              split
              · exact told_put hst ho 0
              · exact told_put hst ho c
theorem ov_step {x : X6} {k : Nat} (hw : Wf x k) (ho : OvOk x) (l : List Int) (c : Int) : OvOk (stepX l x k c) := by
  obtain ⟨e, st, hst⟩ := hw.top
  have hcore : (stepX l x k c).st = (stepP x.core l k c).st := by rw [← core_step hst l k c]; rfl
  have hpush : ∀ (p : P6) (d o : Int) (i : Bool), (∀ e ∈ p.st, e.over = -1 ∨ e.over = 0 ∨ e.over = 1) → (o = -1 ∨ o = 0 ∨ o = 1) → ∀ e ∈ (pushP p d o i).st, e.over = -1 ∨ e.over = 0 ∨ e.over = 1 := by
    intro p d o i hp hov e he
    unfold pushP at he
    split at he
    · exact hp e he
    · split at he
      · rcases List.mem_cons.1 he with rfl | he
        · exact hov
        · exact hp e he
      · exact hp e he
  have hbeg : ∀ (p : P6) (d o : Int), (∀ e ∈ p.st, e.over = -1 ∨ e.over = 0 ∨ e.over = 1) → (o = -1 ∨ o = 0 ∨ o = 1) → ∀ e ∈ (beginP p d o).st, e.over = -1 ∨ e.over = 0 ∨ e.over = 1 := by
    intro p d o hp hov e he
    unfold beginP at he
    split at he
    · split at he <;> exact hp e he
    · exact hpush p d o false hp hov e he
  have hc : ∀ e ∈ x.core.st, e.over = -1 ∨ e.over = 0 ∨ e.over = 1 := ho
  have hend : ∀ e ∈ (endP x.core).st, e.over = -1 ∨ e.over = 0 ∨ e.over = 1 := by
    rw [← core_end x c, endX, core_put]; exact ov_end ho
  intro a ha
  rw [hcore] at ha
  unfold stepP at ha
  split at ha
  · have : a = ⟨x.core.base, -1, false⟩ := by simpa [resetP] using ha
    rw [this]; exact .inl rfl
  · split at ha
    · unfold embedP at ha
      split at ha
      · exact hbeg _ _ _ hc (by decide) a ha
      · split at ha
        · exact hbeg _ _ _ hc (by decide) a ha
        · split at ha
          · exact hbeg _ _ _ hc (by decide) a ha
          · split at ha
            · exact hbeg _ _ _ hc (by decide) a ha
            · split at ha
              · unfold backP at ha
                split at ha
                · exact hc a ha
                · split at ha
                  · exact hc a ha
                  · split at ha
                    · exact hc a ha
                    · rename_i e' st' h
                      split at ha
                      · exact hc a (by rw [h]; exact List.mem_cons_of_mem _ ha)
                      · exact hc a ha
              · exact hc a ha
    · split at ha
      · unfold isolateP at ha
        split at ha
        · exact hc a ha
        · exact hpush _ _ _ _ hc (by decide) a ha
      · split at ha
        · exact hend a ha
        · exact hc a ha
theorem ov_run (l : List Int) (base : Int) : ∀ k, OvOk (runX l base k) := by
  intro k
  induction k with
  | zero =>
    intro e he
    have : e = ⟨if base = 0 then 0 else 1, -1, false⟩ := by simpa [runX, beginX, startX] using he
    rw [this]; exact .inl rfl
  | succ k ih => exact ov_step (wf_run l base k) ih l _

/-- the greatest height is that of the heights behind each place -/
def MostOk (x : X6) : Prop := x.st.length ≤ x.most
theorem most_step {x : X6} {k : Nat} (hw : Wf x k) (hm : MostOk x) (l : List Int) (c : Int) : (stepX l x k c).most = max x.most (stepX l x k c).st.length ∧ MostOk (stepX l x k c) := by
  obtain ⟨e, st, hst⟩ := hw.top
  unfold MostOk at *
  have key : ∀ y : X6, (y.most = x.most ∧ y.st.length ≤ x.st.length) ∨ (y.most = max x.most y.st.length) → y.most = max x.most y.st.length ∧ y.st.length ≤ y.most := by
    intro y h
    rcases h with ⟨h1, h2⟩ | h
    · constructor <;> omega
    · constructor <;> omega
  have hput : ∀ c, (putX x c).most = x.most ∧ (putX x c).st.length ≤ x.st.length := fun c => by
    unfold putX; split <;> exact ⟨rfl, Nat.le_refl _⟩
  apply key
  unfold stepX
  split
  · unfold embedX
    split
    · exact .inl ⟨rfl, Nat.le_refl _⟩
    · simp only
      split
      · exact .inr rfl
      · split <;> exact .inl ⟨rfl, Nat.le_refl _⟩
  · split
    · unfold isolateX
      split
      · exact .inl ⟨rfl, Nat.le_refl _⟩
      · split
        · refine .inr ?_
          show max (putX x c).most ((putX x c).st.length + 1) = max x.most ((putX x c).st.length + 1)
          rw [(hput c).1]
        · exact .inl (hput c)
    · split
      · refine .inl ?_
        have h0 : (endX x c).st.length ≤ x.st.length := by
          have : (endX x c).st = (endP x.core).st := by rw [← core_end x c]; rfl
          rw [this]; exact endP_len x.core
        refine ⟨?_, h0⟩
        unfold endX putX endX0
        split <;> (repeat' split) <;> rfl
      · split
        · unfold backX
          split
          · exact .inl ⟨rfl, Nat.le_refl _⟩
          · rename_i e' st' h
            simp only
            split
            · exact .inl ⟨rfl, Nat.le_refl _⟩
            · split
              · exact .inl ⟨rfl, Nat.le_refl _⟩
              · split
                · refine .inl ⟨rfl, ?_⟩
                  rw [h]; simp
                · exact .inl ⟨rfl, Nat.le_refl _⟩
        · split
          · split <;> exact .inl ⟨rfl, Nat.le_refl _⟩
          · split
            · exact .inr rfl
            · split
              · exact .inl (hput 0)
              · exact .inl (hput c)
theorem most_run (l : List Int) (base : Int) : ∀ k, MostOk (runX l base k) := by
  intro k
  induction k with
  | zero => show 1 ≤ max 0 1; omega
  | succ k ih => exact (most_step (wf_run l base k) ih l _).2
end Go.Proofs.YtihphfbgihbkfaaDoor
