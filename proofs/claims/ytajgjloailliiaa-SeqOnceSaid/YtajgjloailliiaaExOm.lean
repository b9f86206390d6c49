/- Layer 6: the program's reset, beginEmbed, endEmbed, embed, endIsolate, isolate. -/
import Derived.Test.YtajgjloailliiaaEpA
import Derived.Test.YtajgjloailliiaaExG
import Derived.Test.YtajgjloailliiaaBsD
import Derived.Test.YtajgjloailliiaaExE
import Derived.Test.YtajgjloailliiaaExI
import Derived.Test.YtajgjloailliiaaCells
namespace Go.Proofs.Ytajgjloailliiaa
open Go.RowKit

def resetP (p : P6) : P6 := { p with st := [⟨p.base, -1, false⟩], isos := 0, embeds := 0, valid := 0 }
/-- a beginning of an embedding, or an override -/
def beginP (p : P6) (d o : Int) : P6 := if (overP p || !fitP p d) = true then (if p.isos = 0 then { p with embeds := p.embeds + 1 } else p) else pushP p d o false
/-- an embedding ends -/
def backP (p : P6) : P6 := if 0 < p.isos then p else if 0 < p.embeds then { p with embeds := p.embeds - 1 } else match p.st with
  | [] => p
  | e :: st => if e.iso = false ∧ 1 ≤ st.length then { p with st := st } else p
end Go.Proofs.Ytajgjloailliiaa

/- Layer 6: the program's over, known, embed, isolate, endIsolate. -/
namespace Go.Proofs.Ytajgjloailliiaa
open Go.RowKit

/-- a class as an entry's override has it -/
def overE (e : Ent) (k : Int) : Int := if e.over = -1 then k else e.over
/-- what isn't a class counts as L -/
def knownI (k : Int) : Int := if k < 0 ∨ 22 < k then 0 else k
/-- what is left out -/
def embedP (p : P6) (k : Int) : P6 := if k = 16 then beginP p 1 (-1) else if k = 14 then beginP p 0 (-1) else if k = 17 then beginP p 1 1 else if k = 15 then beginP p 0 0 else if k = 18 then backP p else p
/-- a beginning of an isolate -/
def isolateP (p : P6) (l : List Int) (i : Int) : P6 := if (overP p || !fitP p (isolate l i)) = true then { p with isos := p.isos + 1 } else { pushP p (isolate l i) (-1) true with valid := p.valid + 1 }
/-- an isolate's end -/
def endP (p : P6) : P6 := if 0 < p.isos then { p with isos := p.isos - 1 } else if 0 < p.valid then { p with embeds := 0, st := unwind p.st, valid := p.valid - 1 } else p
end Go.Proofs.Ytajgjloailliiaa

/- Layer 6: the program's step. -/
namespace Go.Proofs.Ytajgjloailliiaa
open Go.RowKit

def stepP (p : P6) (l : List Int) (i k : Int) : P6 := if k = 10 then resetP p else if isOut k then embedP p k else if isOpens k then isolateP p l i else if k = 22 then endP p else p
def tellP (p : P6) (k : Int) : Int × Int := match p.st with
  | [] => (0, 0)
  | e :: _ => if k = 10 then (p.base, k) else if isOut k then (e.lev, k) else if isOpens k then (e.lev, overE e k)
    else if k = 22 then (match (endP p).st with | [] => (0, 0) | e2 :: _ => (e2.lev, overE e2 k)) else (e.lev, overE e (knownI k))
theorem ret_2 {a : Int × Int} {x y : Int} (h : a = (x, y)) : Ending.returned (.tuple #[.int .i64 x, .int .i64 y]) = .returned (.tuple #[.int .i64 a.1, .int .i64 a.2]) := by rw [h]

theorem unwind_le (st : List Ent) : (unwind st).length ≤ st.length := by
  unfold unwind
  rw [List.length_tail]
  have := (List.dropWhile_sublist (l := st) (p := fun e => !e.iso)).length_le
  omega
theorem endP_len (p : P6) : (endP p).st.length ≤ p.st.length := by
  unfold endP
  split
  · exact Nat.le_refl _
  · split
    · exact unwind_le _
    · exact Nat.le_refl _
/-- the cells of an entry that was laid aside -/
abbrev asideAt (w : World) (a : Nat) (e : Ent) : Prop := w.cell? ⟨a, 0, none⟩ = some (.int .i64 e.lev) ∧ w.cell? ⟨a, 1, none⟩ = some (.int .i64 e.over) ∧ w.cell? ⟨a, 2, none⟩ = some (.bool e.iso)
theorem LitAt.aside {w : World} {a : Nat} {e : Ent} (h : LitAt w a e.cells) : asideAt w a e := ⟨h.cells 0 _ rfl, h.cells 1 _ rfl, h.cells 2 _ rfl⟩

end Go.Proofs.Ytajgjloailliiaa

/- Layer 6: the program's step and the document's are one. -/
namespace Go.Proofs.Ytajgjloailliiaa
open Go.RowKit

def X6.core (x : X6) : P6 := ⟨x.base, x.st, x.isos, x.embeds, x.valid⟩
/-- an override is none, L or R -/
def OvOk (x : X6) : Prop := ∀ e ∈ x.st, e.over = -1 ∨ e.over = 0 ∨ e.over = 1
theorem overE_eq {e : Ent} (h : e.over = -1 ∨ e.over = 0 ∨ e.over = 1) (c : Int) : (if 0 ≤ e.over then e.over else c) = overE e c := by
  unfold overE
  rcases h with h | h | h <;> rw [h] <;> simp
theorem isOut_cases (c : Int) : isOut c = true ↔ c = 14 ∨ c = 15 ∨ c = 16 ∨ c = 17 ∨ c = 18 ∨ c = 9 := by simp [isOut]
theorem isOpens_cases (c : Int) : isOpens c = true ↔ c = 19 ∨ c = 20 ∨ c = 21 := by simp [isOpens]

theorem core_push (x : X6) (n o : Int) (i : Bool) : (pushX x ⟨n, o, i⟩).core = { x.core with st := ⟨n, o, i⟩ :: x.core.st } := rfl
theorem core_put (x : X6) (c : Int) : (putX x c).core = x.core := by unfold putX; split <;> rfl
theorem fits_core (x : X6) (n : Int) : fitsX x n = (decide (n ≤ 125) && !overP x.core) := by
  unfold fitsX overP X6.core
  cases h1 : x.isos <;> cases h2 : x.embeds <;> simp <;> omega
/-- a beginning of an embedding is one -/
theorem core_embed {x : X6} {e : Ent} {st : List Ent} (hst : x.st = e :: st) (c : Int) :
    (embedX x c).core = beginP x.core (dirOf c) (overOf c) := by
  have hcs : x.core.st = e :: st := hst
  have hF : fitP x.core (dirOf c) = decide (nextL e.lev (dirOf c) ≤ 125) := by unfold fitP; rw [hcs]
  have hU : pushP x.core (dirOf c) (overOf c) false = if nextL e.lev (dirOf c) ≤ 125 then { x.core with st := ⟨nextL e.lev (dirOf c), overOf c, false⟩ :: x.core.st } else x.core := by unfold pushP; rw [hcs]
  unfold embedX beginP
  split
  · rename_i h; rw [hst] at h; cases h
  · rename_i e' st' h
    rw [hst] at h
    injection h with h1 h2
    subst h1
    simp only
    rw [fits_core, hF, hU]
    have hc : ({ x with levels := x.levels ++ [e.lev], classes := x.classes ++ [c] } : X6).core = x.core := rfl
    rw [hc]
    cases hO : overP x.core with
    | true =>
      simp only [Bool.not_true, Bool.and_false, Bool.true_or, if_true]
      rw [if_neg (by simp)]
      by_cases h0 : x.isos = 0
      · rw [if_pos h0, if_pos (show x.core.isos = 0 from h0)]; rfl
      · rw [if_neg h0, if_neg (show ¬ x.core.isos = 0 from h0)]; rfl
    | false =>
      have hi : x.isos = 0 := by unfold overP X6.core at hO; simp at hO; omega
      by_cases hn : nextL e.lev (dirOf c) ≤ 125
      · rw [if_pos (by simp [hn]), if_neg (by simp [hn]), if_pos hn]; rfl
      · rw [if_neg (show ¬ (decide (nextL e.lev (dirOf c) ≤ 125) && !false) = true by simp [hn]), if_pos (show (false || !decide (nextL e.lev (dirOf c) ≤ 125)) = true by simp [hn]), if_pos hi, if_pos (show x.core.isos = 0 from hi)]; rfl
theorem core_isolate {x : X6} {e : Ent} {st : List Ent} (hst : x.st = e :: st) (l : List Int) (i c : Int) :
    (isolateX x l i c).core = isolateP x.core l i := by
  have hcs : x.core.st = e :: st := hst
  have hF : fitP x.core (isolate l i) = decide (nextL e.lev (isolate l i) ≤ 125) := by unfold fitP; rw [hcs]
  have hU : pushP x.core (isolate l i) (-1) true = if nextL e.lev (isolate l i) ≤ 125 then { x.core with st := ⟨nextL e.lev (isolate l i), -1, true⟩ :: x.core.st } else x.core := by unfold pushP; rw [hcs]
  have hp := core_put x c
  obtain ⟨p1, p2, p3, p4⟩ := putX_st x c
  unfold isolateX isolateP
  split
  · rename_i h; rw [hst] at h; cases h
  · rename_i e' st' h
    rw [hst] at h
    injection h with h1 h2
    subst h1
    rw [fits_core, hp, hF, hU]
    cases hO : overP x.core with
    | true =>
      simp only [Bool.not_true, Bool.and_false, Bool.true_or, if_true]
      rw [if_neg (by simp)]
      show P6.mk _ _ _ _ _ = P6.mk _ _ _ _ _
      rw [p1, p2, p3, p4]
      have : (putX x c).base = x.base := congrArg P6.base hp
      rw [this]; rfl
    | false =>
      by_cases hn : nextL e.lev (isolate l i) ≤ 125
      · rw [if_pos (by simp [hn]), if_neg (by simp [hn]), if_pos hn]
        show P6.mk _ _ _ _ _ = P6.mk _ _ _ _ _
        have : (putX x c).base = x.base := congrArg P6.base hp
        show P6.mk (putX x c).base (_ :: (putX x c).st) (putX x c).isos (putX x c).embeds ((putX x c).valid + 1) = _
        rw [p1, p2, p3, p4, this]; rfl
      · rw [if_neg (by simp [hn]), if_pos (by simp [hn])]
        show P6.mk (putX x c).base (putX x c).st ((putX x c).isos + 1) (putX x c).embeds (putX x c).valid = _
        have : (putX x c).base = x.base := congrArg P6.base hp
        rw [p1, p2, p3, p4, this]; rfl
theorem core_end (x : X6) (c : Int) : (endX x c).core = endP x.core := by
  rw [endX, core_put]
  unfold endX0 endP
  by_cases h : 0 < x.isos
  · rw [if_pos h, if_pos (show 0 < x.core.isos from h)]; rfl
  · rw [if_neg h, if_neg (show ¬ 0 < x.core.isos from h)]
    by_cases h2 : 0 < x.valid
    · rw [if_pos h2, if_pos (show 0 < x.core.valid from h2)]; rfl
    · rw [if_neg h2, if_neg (show ¬ 0 < x.core.valid from h2)]
theorem core_back {x : X6} {e : Ent} {st : List Ent} (hst : x.st = e :: st) : (backX x).core = backP x.core := by
  have hB : backP x.core = if 0 < x.isos then x.core else if 0 < x.embeds then { x.core with embeds := x.embeds - 1 } else if e.iso = false ∧ 1 ≤ st.length then { x.core with st := st } else x.core := by
    have hcs : x.core.st = e :: st := hst
    unfold backP
    by_cases h : 0 < x.core.isos
    · rw [if_pos h, if_pos (show 0 < x.isos from h)]
    · rw [if_neg h, if_neg (show ¬ 0 < x.isos from h)]
      by_cases h2 : 0 < x.core.embeds
      · rw [if_pos h2, if_pos (show 0 < x.embeds from h2)]; rfl
      · rw [if_neg h2, if_neg (show ¬ 0 < x.embeds from h2), hcs]
  rw [hB]
  unfold backX
  split
  · rename_i h; rw [hst] at h; cases h
  · rename_i e' st' h
    rw [hst] at h
    injection h with h1 h2
    subst h1
    subst h2
    simp only
    by_cases h : 0 < x.isos
    · rw [if_pos h, if_pos h]; rfl
    · rw [if_neg h, if_neg h]
      by_cases h2 : 0 < x.embeds
      · rw [if_pos h2, if_pos h2]; rfl
      · rw [if_neg h2, if_neg h2]
        by_cases h3 : e.iso = false ∧ 1 ≤ st.length
        · rw [if_pos h3, if_pos h3]; rfl
        · rw [if_neg h3, if_neg h3]; rfl
theorem core_step {x : X6} {e : Ent} {st : List Ent} (hst : x.st = e :: st) (l : List Int) (i : Nat) (c : Int) : (stepX l x i c).core = stepP x.core l i c := by
  unfold stepX stepP
  by_cases h1 : c = 16 ∨ c = 14 ∨ c = 17 ∨ c = 15
  · have hO : isOut c = true := (isOut_cases c).2 (by omega)
    rw [if_pos h1, if_neg (by omega), if_pos hO, core_embed hst]
    unfold embedP
    rcases h1 with h | h | h | h <;> subst h <;> simp [dirOf, overOf]
  · rw [if_neg h1]
    by_cases h2 : isOpens c = true
    · have h2' := (isOpens_cases c).1 h2
      have hO : ¬ isOut c = true := fun h => by have := (isOut_cases c).1 h; omega
      rw [if_pos h2, if_neg (by omega), if_neg hO, if_pos h2, core_isolate hst]
    · have h2' : ¬ (c = 19 ∨ c = 20 ∨ c = 21) := fun h => h2 ((isOpens_cases c).2 h)
      rw [if_neg h2]
      by_cases h3 : c = 22
      · have hO : ¬ isOut c = true := fun h => by have := (isOut_cases c).1 h; omega
        rw [if_pos h3, if_neg (by omega), if_neg hO, if_neg h2, if_pos h3, core_end]
      · rw [if_neg h3]
        by_cases h4 : c = 18
        · have hO : isOut c = true := (isOut_cases c).2 (by omega)
          rw [if_pos h4, if_neg (by omega), if_pos hO, core_back hst]
          subst h4; simp [embedP]
        · rw [if_neg h4]
          by_cases h5 : c = 9
          · have hO : isOut c = true := (isOut_cases c).2 (by omega)
            rw [if_pos h5, if_neg (by omega), if_pos hO, hst]
            subst h5; simp [embedP, tellX]; rfl
          · rw [if_neg h5]
            by_cases h6 : c = 10
            · rw [if_pos h6, if_pos h6]; rfl
            · have hO : ¬ isOut c = true := fun h => by have := (isOut_cases c).1 h; omega
              rw [if_neg h6, if_neg h6, if_neg hO, if_neg h2, if_neg h3]
              split <;> exact core_put _ _

/-- what a place is told, at the end of what was told -/
structure Told (x y : X6) (r : Int × Int) : Prop where
  levels : y.levels = x.levels ++ [r.1]
  classes : y.classes = x.classes ++ [r.2]
theorem told_put {x : X6} {e : Ent} {st : List Ent} (hst : x.st = e :: st) (ho : OvOk x) (c : Int) : Told x (putX x c) (e.lev, overE e c) := by
  have he := ho e (by rw [hst]; simp)
  unfold putX
  split
  · rename_i h; rw [hst] at h; cases h
  · rename_i e' st' h
    rw [hst] at h
    injection h with h1 _
    subst h1
    exact ⟨rfl, by rw [overE_eq he]⟩
theorem ov_end {x : X6} (ho : OvOk x) : OvOk (endX0 x) := by
  have hsub : ∀ st : List Ent, ∀ e ∈ unwind st, e ∈ st := fun st e he => (List.dropWhile_sublist (l := st) (p := fun e => !e.iso)).subset (List.mem_of_mem_tail he)
  unfold endX0
  split
  · exact ho
  · split
    · exact fun e he => ho e (hsub _ e he)
    · exact ho
theorem told_step {x : X6} {k : Nat} (hw : Wf x k) (ho : OvOk x) (l : List Int) (c : Int) : Told x (stepX l x k c) (tellP x.core c) := by
  obtain ⟨e, st, hst⟩ := hw.top
  obtain ⟨⟨e2, st2, he2⟩, _⟩ := wf_end (c := c) hw
  have hT : tellP x.core c = if c = 10 then (x.base, c) else if isOut c then (e.lev, c) else if isOpens c then (e.lev, overE e c)
    else if c = 22 then (e2.lev, overE e2 c) else (e.lev, overE e (knownI c)) := by
    have hcs : x.core.st = e :: st := hst
    have hes : (endP x.core).st = e2 :: st2 := by rw [← core_end x c, endX, core_put]; exact he2
    unfold tellP
    rw [hcs]
    simp only [hes]
    rfl
  rw [hT]
  unfold stepX
  by_cases h1 : c = 16 ∨ c = 14 ∨ c = 17 ∨ c = 15
  · have hO : isOut c = true := (isOut_cases c).2 (by omega)
    rw [if_pos h1, if_neg (by omega), if_pos hO]
    unfold embedX
    split
    · rename_i h; rw [hst] at h; cases h
    · rename_i e' st' h
      rw [hst] at h
      injection h with h3 _
      subst h3
      simp only
      split
      · exact ⟨rfl, rfl⟩
      · split <;> exact ⟨rfl, rfl⟩
  · rw [if_neg h1]
    by_cases h2 : isOpens c = true
    · have h2' := (isOpens_cases c).1 h2
      have hO : ¬ isOut c = true := fun h => by have := (isOut_cases c).1 h; omega
      rw [if_pos h2, if_neg (by omega), if_neg hO, if_pos h2]
      have ht := told_put hst ho c
      unfold isolateX
      split
      · rename_i h; rw [hst] at h; cases h
      · split <;> exact ⟨ht.levels, ht.classes⟩
    · have h2' : ¬ (c = 19 ∨ c = 20 ∨ c = 21) := fun h => h2 ((isOpens_cases c).2 h)
      rw [if_neg h2]
      by_cases h3 : c = 22
      · have hO : ¬ isOut c = true := fun h => by have := (isOut_cases c).1 h; omega
        rw [if_pos h3, if_neg (by omega), if_neg hO, if_neg h2, if_pos h3, endX]
        have ht := told_put he2 (ov_end ho) c
        have hl : (endX0 x).levels = x.levels ∧ (endX0 x).classes = x.classes := by unfold endX0; split <;> (try split) <;> exact ⟨rfl, rfl⟩
        exact ⟨by rw [ht.levels, hl.1], by rw [ht.classes, hl.2]⟩
      · rw [if_neg h3]
        by_cases h4 : c = 18
        · have hO : isOut c = true := (isOut_cases c).2 (by omega)
          rw [if_pos h4, if_neg (by omega), if_pos hO]
          unfold backX
          split
          · rename_i h; rw [hst] at h; cases h
          · rename_i e' st' h
            rw [hst] at h
            injection h with h3 _
            subst h3
            subst h4
            simp only
            split
            · exact ⟨rfl, rfl⟩
            · split
              · exact ⟨rfl, rfl⟩
              · split <;> exact ⟨rfl, rfl⟩
        · rw [if_neg h4]
          by_cases h5 : c = 9
          · have hO : isOut c = true := (isOut_cases c).2 (by omega)
            rw [if_pos h5, if_neg (by omega), if_pos hO, hst]
            exact ⟨rfl, rfl⟩
          · rw [if_neg h5]
            by_cases h6 : c = 10
            · rw [if_pos h6, if_pos h6]; exact ⟨rfl, rfl⟩
            · have hO : ¬ isOut c = true := fun h => by have := (isOut_cases c).1 h; omega
              rw [if_neg h6, if_neg h6, if_neg hO, if_neg h2, if_neg h3]
              unfold knownI
              split
              · exact told_put hst ho 0
              · exact told_put hst ho c
theorem ov_step {x : X6} {k : Nat} (hw : Wf x k) (ho : OvOk x) (l : List Int) (c : Int) : OvOk (stepX l x k c) := by
  obtain ⟨e, st, hst⟩ := hw.top
  have hcore : (stepX l x k c).st = (stepP x.core l k c).st := by rw [← core_step hst l k c]; rfl
  have hpush : ∀ (p : P6) (d o : Int) (i : Bool), (∀ e ∈ p.st, e.over = -1 ∨ e.over = 0 ∨ e.over = 1) → (o = -1 ∨ o = 0 ∨ o = 1) → ∀ e ∈ (pushP p d o i).st, e.over = -1 ∨ e.over = 0 ∨ e.over = 1 := by
    intro p d o i hp hov e he
    unfold pushP at he
    split at he
    · exact hp e he
    · split at he
      · rcases List.mem_cons.1 he with rfl | he
        · exact hov
        · exact hp e he
      · exact hp e he
  have hbeg : ∀ (p : P6) (d o : Int), (∀ e ∈ p.st, e.over = -1 ∨ e.over = 0 ∨ e.over = 1) → (o = -1 ∨ o = 0 ∨ o = 1) → ∀ e ∈ (beginP p d o).st, e.over = -1 ∨ e.over = 0 ∨ e.over = 1 := by
    intro p d o hp hov e he
    unfold beginP at he
    split at he
    · split at he <;> exact hp e he
    · exact hpush p d o false hp hov e he
  have hc : ∀ e ∈ x.core.st, e.over = -1 ∨ e.over = 0 ∨ e.over = 1 := ho
  have hend : ∀ e ∈ (endP x.core).st, e.over = -1 ∨ e.over = 0 ∨ e.over = 1 := by
    rw [← core_end x c, endX, core_put]; exact ov_end ho
  intro a ha
  rw [hcore] at ha
  unfold stepP at ha
  split at ha
  · have : a = ⟨x.core.base, -1, false⟩ := by simpa [resetP] using ha
    rw [this]; exact .inl rfl
  · split at ha
    · unfold embedP at ha
      split at ha
      · exact hbeg _ _ _ hc (by decide) a ha
      · split at ha
        · exact hbeg _ _ _ hc (by decide) a ha
        · split at ha
          · exact hbeg _ _ _ hc (by decide) a ha
          · split at ha
            · exact hbeg _ _ _ hc (by decide) a ha
            · split at ha
              · unfold backP at ha
                split at ha
                · exact hc a ha
                · split at ha
                  · exact hc a ha
                  · split at ha
                    · exact hc a ha
                    · rename_i e' st' h
                      split at ha
                      · exact hc a (by rw [h]; exact List.mem_cons_of_mem _ ha)
                      · exact hc a ha
              · exact hc a ha
    · split at ha
      · unfold isolateP at ha
        split at ha
        · exact hc a ha
        · exact hpush _ _ _ _ hc (by decide) a ha
      · split at ha
        · exact hend a ha
        · exact hc a ha
theorem ov_run (l : List Int) (base : Int) : ∀ k, OvOk (runX l base k) := by
  intro k
  induction k with
  | zero =>
    intro e he
    have : e = ⟨if base = 0 then 0 else 1, -1, false⟩ := by simpa [runX, beginX, startX] using he
    rw [this]; exact .inl rfl
  | succ k ih => exact ov_step (wf_run l base k) ih l _

/-- the greatest height is that of the heights behind each place -/
def MostOk (x : X6) : Prop := x.st.length ≤ x.most
theorem most_step {x : X6} {k : Nat} (hw : Wf x k) (hm : MostOk x) (l : List Int) (c : Int) : (stepX l x k c).most = max x.most (stepX l x k c).st.length ∧ MostOk (stepX l x k c) := by
  obtain ⟨e, st, hst⟩ := hw.top
  unfold MostOk at *
  have key : ∀ y : X6, (y.most = x.most ∧ y.st.length ≤ x.st.length) ∨ (y.most = max x.most y.st.length) → y.most = max x.most y.st.length ∧ y.st.length ≤ y.most := by
    intro y h
    rcases h with ⟨h1, h2⟩ | h
    · constructor <;> omega
    · constructor <;> omega
  have hput : ∀ c, (putX x c).most = x.most ∧ (putX x c).st.length ≤ x.st.length := fun c => by
    unfold putX; split <;> exact ⟨rfl, Nat.le_refl _⟩
  apply key
  unfold stepX
  split
  · unfold embedX
    split
    · exact .inl ⟨rfl, Nat.le_refl _⟩
    · simp only
      split
      · exact .inr rfl
      · split <;> exact .inl ⟨rfl, Nat.le_refl _⟩
  · split
    · unfold isolateX
      split
      · exact .inl ⟨rfl, Nat.le_refl _⟩
      · split
        · refine .inr ?_
          show max (putX x c).most ((putX x c).st.length + 1) = max x.most ((putX x c).st.length + 1)
          rw [(hput c).1]
        · exact .inl (hput c)
    · split
      · refine .inl ?_
        have h0 : (endX x c).st.length ≤ x.st.length := by
          have : (endX x c).st = (endP x.core).st := by rw [← core_end x c]; rfl
          rw [this]; exact endP_len x.core
        refine ⟨?_, h0⟩
        unfold endX putX endX0
        split <;> (repeat' split) <;> rfl
      · split
        · unfold backX
          split
          · exact .inl ⟨rfl, Nat.le_refl _⟩
          · rename_i e' st' h
            simp only
            split
            · exact .inl ⟨rfl, Nat.le_refl _⟩
            · split
              · exact .inl ⟨rfl, Nat.le_refl _⟩
              · split
                · refine .inl ⟨rfl, ?_⟩
                  rw [h]; simp
                · exact .inl ⟨rfl, Nat.le_refl _⟩
        · split
          · split <;> exact .inl ⟨rfl, Nat.le_refl _⟩
          · split
            · exact .inr rfl
            · split
              · exact .inl (hput 0)
              · exact .inl (hput c)
theorem most_run (l : List Int) (base : Int) : ∀ k, MostOk (runX l base k) := by
  intro k
  induction k with
  | zero => show 1 ≤ max 0 1; omega
  | succ k ih => exact (most_step (wf_run l base k) ih l _).2
end Go.Proofs.Ytajgjloailliiaa

/- Layer 6: Of and Depth, the program's and the document's. -/
namespace Go.Proofs.Ytajgjloailliiaa
open Go.RowKit

/-- the levels, the classes, the greatest height -/
def lvs (l : List Int) (base : Int) : List Int := (runX l base l.length).levels
def xcls (l : List Int) (base : Int) : List Int := (runX l base l.length).classes
def dep (l : List Int) (base : Int) : Nat := (runX l base l.length).most
theorem lvs_length (l : List Int) (base : Int) : (lvs l base).length = l.length := (wf_run l base l.length).levels
theorem xcls_length (l : List Int) (base : Int) : (xcls l base).length = l.length := (wf_run l base l.length).classes
/-- two rows of its own -/
def RowedII (w : World) (xs ys : List Int) (ed : Ending) (w' : World) : Prop :=
  ∃ v1 v2, ed = .returned (.tuple #[v1, v2]) ∧ Own w' w.heap.size 3 v1 (ints .i64 xs) ∧ Own w' w.heap.size 3 v2 (ints .i64 ys) ∧ Below w.heap.size w w'

theorem Own.ofN' {w : World} {B n : Nat} {e : TypeId} {v : Value} {xs : List Value} (h : OwnN w B e 1 v n xs) : Own w B e v xs := Own.ofN h
set_option maxHeartbeats 2000000 in
theorem rxof_any (A : Option Addr) (l : List Int) (cap : Nat) (base : Int) (w : World) (h : Lies w w.heap.size A (ints .i64 l)) (hl : l.length ≤ 1000000) :
    Calls Try.prog 15 #[.slice A l.length cap, .int .i64 base] w fun ed w' => RowedII w (lvs l base) (xcls l base) ed w' := by
  have HC := Lib.hid (went_loop A l cap base w h hl)
  go_enter Try.func15, Try.ntmps15
  go_wp2_with fail
  refine HC.out.mono ?_
  rintro ed w1 ⟨rfl, ⟨sv, lv, cv, x1⟩, b1⟩
  have X1 := Lib.hid x1
  have B1 := Lib.hid b1
  have h6 := x1.field 6 (by omega)
  have h7 := x1.field 7 (by omega)
  simp only [X6.cells, List.getElem?_cons_succ, List.getElem?_cons_zero] at h6 h7
  obtain ⟨Al, cl, rfl, _, _, _⟩ := x1.levels.form
  obtain ⟨Ac, cc, rfl, _, _, _⟩ := x1.classes.form
  clear x1 b1 h
  go_wp2
  go_region
  go_wp2
  go_ret2
  exact ⟨_, _, rfl, Own.ofN' (X1.out.levels.same rfl), Own.ofN' (X1.out.classes.same rfl), below_drawn B1.out 1⟩

/-- a row below stays -/
theorem Row.stay {w w' : World} {B C : Nat} {e : TypeId} {g c : Nat} {xs : List Value} (h : Row w B e g c xs) (hb : Below C w w') (hg : g < C) : Row w' B e g c xs := by
  unfold Row Own at *
  refine ⟨h.1, ?_⟩
  rcases h.2 with h2 | ⟨g', cap, cur, hv, hbg, hh, r⟩
  · exact .inl h2
  · refine .inr ⟨g', cap, cur, hv, hbg, ?_, r⟩
    injection hv with h1 _ _
    injection h1 with h1
    injection h1 with h1 _ _
    subst h1
    rw [hb.block g hg]; exact hh
theorem small_core {x : X6} {k : Nat} (h : Wf x k) (hk : k ≤ 1000000) : x.core.Small := by
  have := wf_small h hk
  exact ⟨this.st, this.isos, this.embeds, this.valid⟩
theorem ends_core {x : X6} {k : Nat} (h : Wf x k) : ∃ e2 st2, (endP x.core).st = e2 :: st2 := by
  obtain ⟨⟨e2, st2, he⟩, _⟩ := wf_end (c := 0) h
  exact ⟨e2, st2, by rw [← core_end x 0, endX, core_put]; exact he⟩

section
variable {P : Program} {ops : Array Oper} {o : Oper} {a : Act} {K : Act → World → Prop} {Q : Exit → Act → World → Prop} {E : Prop}
/-- at a step of a region: make([]T, n) -/
theorem step_make {t e : TypeId} {z : Value} {bytes : Nat} (T : SliceOf P t e z bytes) (w0 W : World) (B : Nat) (x y : Operand) (kl kc : IntKind) (n : Nat)
    (hgd : o.guard = none) (ho : o.op = .makeSlice t x y) (hx : a.eval x = .int kl (n : Int)) (hy : a.eval y = .int kc (n : Int)) (hz : z.cells = #[z]) (hb : Below B w0 W) (hB : B ≤ W.heap.size) (hn : bytes * n ≤ 281474976710656) (hm : n ≤ maxLen)
    (h : ∀ w', Row w' B e W.heap.size n (List.replicate n z) → Below B w0 w' → W.grownBy w' none → K (a.put o.dst (.slice (some ⟨W.heap.size, 0, none⟩) n n)) w') :
    if Region.wanted o (yielded ops a.tmps) = true then Oper.wp P o a W K Q else E := by
  have hw : Region.wanted o (yielded ops a.tmps) = true := by simp [Region.wanted, hgd]
  rw [if_pos hw]
  obtain ⟨i, hi, hz0, hz1, hz2⟩ := info_parts T.elem
  obtain ⟨w', hrun, r1, r2⟩ := run_make_full (P := P) W B t e i z 1 T.slice hi hz0 hz1 kl kc n (by rw [hz2]; exact hn) hm hB
  unfold Oper.wp
  simp [execOp, ho, hx, hy, hrun, Result.andThen]
  refine h w' ?_ (hb.grown r2 hB (fun k hk => by cases hk)) r2
  rw [hz, Nat.mul_one, toList_madeCells_one] at r1
  unfold Row Own
  simpa using r1
end

end Go.Proofs.Ytajgjloailliiaa

/- Layer 6: plain facts of levels and classes: bounds, plain ones, beginnings, isolates. -/
namespace Go.Proofs.Ytajgjloailliiaa
open Go.RowKit

theorem run_told (l : List Int) (base : Int) (k : Nat) : Told (runX l base k) (runX l base (k + 1)) (tellP (runX l base k).core (at0 l k)) := by
  rw [runX]; exact told_step (wf_run l base k) (ov_run l base k) l _
/-- what was told stays -/
theorem run_get (l : List Int) (base : Int) (k : Nat) : ∀ m, k < m → (runX l base m).levels[k]? = some (tellP (runX l base k).core (at0 l k)).1 ∧ (runX l base m).classes[k]? = some (tellP (runX l base k).core (at0 l k)).2 := by
  intro m
  induction m with
  | zero => intro h; omega
  | succ m ih =>
    intro h
    have ht := run_told l base m
    have h1 := (wf_run l base m).levels
    have h2 := (wf_run l base m).classes
    rw [ht.levels, ht.classes]
    by_cases hk : k = m
    · subst hk
      rw [List.getElem?_append_right (by omega), List.getElem?_append_right (by omega), h1, h2, Nat.sub_self]
      exact ⟨rfl, rfl⟩
    · rw [List.getElem?_append_left (by omega), List.getElem?_append_left (by omega)]
      exact ih (by omega)
theorem lvs_at (l : List Int) (base : Int) (k : Nat) (h : k < l.length) (h1 : k < (lvs l base).length) : (lvs l base)[k] = (tellP (runX l base k).core l[k]).1 := by
  have := (run_get l base k l.length h).1
  rw [at0_eq h] at this
  have h2 : (lvs l base)[k]? = some (lvs l base)[k] := List.getElem?_eq_getElem h1
  unfold lvs at h2 ⊢
  rw [this] at h2
  exact (Option.some.inj h2).symm
theorem xcls_at (l : List Int) (base : Int) (k : Nat) (h : k < l.length) (h1 : k < (xcls l base).length) : (xcls l base)[k] = (tellP (runX l base k).core l[k]).2 := by
  have := (run_get l base k l.length h).2
  rw [at0_eq h] at this
  have h2 : (xcls l base)[k]? = some (xcls l base)[k] := List.getElem?_eq_getElem h1
  unfold xcls at h2 ⊢
  rw [this] at h2
  exact (Option.some.inj h2).symm
theorem core_base {x : X6} {k : Nat} (hw : Wf x k) (l : List Int) (c : Int) : (stepX l x k c).base = x.base := by
  obtain ⟨e, st, hst⟩ := hw.top
  have h : (stepX l x k c).base = (stepP x.core l k c).base := by rw [← core_step hst l k c]; rfl
  have hpush : ∀ (p : P6) (d o : Int) (i : Bool), (pushP p d o i).base = p.base := by intro p d o i; unfold pushP; split <;> (try split) <;> rfl
  have hbeg : ∀ (p : P6) (d o : Int), (beginP p d o).base = p.base := by intro p d o; unfold beginP; split; · split <;> rfl
                                                                         · exact hpush _ _ _ _
  rw [h]
  show _ = x.core.base
  unfold stepP
  split
  · rfl
  · split
    · unfold embedP
      repeat' split
      all_goals first | rfl | exact hbeg _ _ _ | (unfold backP; repeat' split) <;> rfl
    · split
      · unfold isolateP
        split
        · rfl
        · exact hpush _ _ _ _
      · split
        · unfold endP; repeat' split
          all_goals rfl
        · rfl
theorem base_run (l : List Int) (base : Int) : ∀ k, (runX l base k).base = if base = 0 then 0 else 1 := by
  intro k
  induction k with
  | zero => rfl
  | succ k ih => rw [runX, core_base (wf_run l base k)]; exact ih
theorem class_facts (c : Int) : (isOut c = true → c ≠ 10 ∧ isOpens c = false ∧ c ≠ 22) ∧ (isOpens c = true → c ≠ 10 ∧ isOut c = false ∧ c ≠ 22) := by
  constructor
  · intro h
    have := (isOut_cases c).1 h
    refine ⟨by omega, ?_, by omega⟩
    cases ho : isOpens c with
    | false => rfl
    | true => have := (isOpens_cases c).1 ho; omega
  · intro h
    have := (isOpens_cases c).1 h
    refine ⟨by omega, ?_, by omega⟩
    cases ho : isOut c with
    | false => rfl
    | true => have := (isOut_cases c).1 ho; omega
theorem out_known {c : Int} (h : isOut c = false) : isOut (knownI c) = false := by
  unfold knownI; split
  · decide
  · exact h
theorem out_over {e : Ent} (ho : e.over = -1 ∨ e.over = 0 ∨ e.over = 1) {c : Int} (h : isOut c = false) : isOut (overE e c) = false := by
  unfold overE
  rcases ho with ho | ho | ho <;> rw [ho]
  · rw [if_pos rfl]; exact h
  · rw [if_neg (by decide)]; decide
  · rw [if_neg (by decide)]; decide
/-- levels are from the base to 125; what is left out stays so, and nothing else is; a paragraph's end has the base -/
theorem tell_facts {x : X6} {k : Nat} (hw : Wf x k) (ho : OvOk x) (c : Int) : x.base ≤ (tellP x.core c).1 ∧ (tellP x.core c).1 ≤ 125 ∧ isOut (tellP x.core c).2 = isOut c ∧ (c = 10 → (tellP x.core c).1 = x.base) := by
  obtain ⟨e, st, hst⟩ := hw.top
  obtain ⟨⟨e2, st2, he2⟩, _⟩ := wf_end (c := c) hw
  have hr := hw.rng e (by rw [hst]; simp)
  have hr2 : x.base ≤ e2.lev ∧ e2.lev ≤ 125 := by
    have hm : (endX0 x).base = x.base := by unfold endX0; repeat' split
                                            all_goals rfl
    have := hw.ended.rng e2 (by show e2 ∈ (endX0 x).st; rw [he2]; simp)
    exact ⟨by have h1 := this.1; show x.base ≤ e2.lev; rw [← hm]; exact h1, this.2⟩
  have hov := ho e (by rw [hst]; simp)
  have hov2 := ov_end ho e2 (by rw [he2]; simp)
  have hb := hw.base
  have hes : (endP x.core).st = e2 :: st2 := by rw [← core_end x c, endX, core_put]; exact he2
  have hcs : x.core.st = e :: st := hst
  unfold tellP
  rw [hcs]
  simp only [hes]
  have hcb : x.core.base = x.base := rfl
  rw [hcb]
  split
  · exact ⟨Int.le_refl _, by show x.base ≤ 125; omega, rfl, fun _ => rfl⟩
  · rename_i h10
    split
    · exact ⟨hr.1, hr.2, rfl, fun h => absurd h h10⟩
    · rename_i hO
      have hO : isOut c = false := by simpa using hO
      split
      · exact ⟨hr.1, hr.2, by rw [out_over hov hO, hO], fun h => absurd h h10⟩
      · split
        · exact ⟨hr2.1, hr2.2, by rw [out_over hov2 hO, hO], fun h => absurd h h10⟩
        · exact ⟨hr.1, hr.2, by rw [out_over hov (out_known hO), hO], fun h => absurd h h10⟩
/-- the stack is never higher than levels are many -/
theorem wf_len {x : X6} {k : Nat} (h : Wf x k) : x.st.length ≤ 126 := by
  have hlen : ∀ (st : List Ent) (b t : Int), st.Pairwise (fun a b => b.lev < a.lev) → (∀ e ∈ st, b ≤ e.lev ∧ e.lev ≤ t) → (st.length : Int) ≤ max (t - b + 1) 0 := by
    intro st
    induction st with
    | nil => intro b t _ _; simp; omega
    | cons e st ih =>
      intro b t hp hr
      obtain ⟨h1, h2⟩ := List.pairwise_cons.1 hp
      have h3 := hr e (by simp)
      have := ih b (e.lev - 1) h2 (fun a ha => ⟨(hr a (by simp [ha])).1, by have := h1 a ha; omega⟩)
      simp only [List.length_cons]
      omega
  have h1 := hlen x.st x.base 125 h.mono h.rng
  have hb := h.base
  omega
theorem dep_facts (l : List Int) (base : Int) : ∀ k, 1 ≤ (runX l base k).most ∧ (runX l base k).most ≤ 127 ∧ ∀ j, j ≤ k → (runX l base j).most ≤ (runX l base k).most := by
  intro k
  induction k with
  | zero =>
    refine ⟨by show 1 ≤ max 0 1; omega, by show max 0 1 ≤ 127; omega, fun j hj => ?_⟩
    obtain rfl : j = 0 := by omega
    exact Nat.le_refl _
  | succ k ih =>
    have h1 : (runX l base (k + 1)).most = max (runX l base k).most (runX l base (k + 1)).st.length := by
      rw [runX]; exact (most_step (wf_run l base k) (most_run l base k) l (at0 l k)).1
    have h2 := wf_len (wf_run l base (k + 1))
    refine ⟨by omega, by omega, fun j hj => ?_⟩
    rcases Nat.lt_or_ge j (k + 1) with hlt | hge
    · have := ih.2.2 j (by omega); omega
    · obtain rfl : j = k + 1 := by omega
      exact Nat.le_refl _

/-- neither left out nor an isolate's -/
def plainC (c : Int) : Bool := !isOut c && (!isOpens c && !(c == 22))
theorem plain_run (l : List Int) (base : Int) : ∀ k, (∀ j, j < k → plainC (at0 l j) = true) → (runX l base k).st = [⟨(runX l base k).base, -1, false⟩] := by
  intro k
  induction k with
  | zero => intro _; rfl
  | succ k ih =>
    intro h
    have hk := ih (fun j hj => h j (by omega))
    have hc := h k (by omega)
    rw [base_run, ← base_run l base k]
    rw [runX]
    have hst : (stepX l (runX l base k) k (at0 l k)).st = (stepP (runX l base k).core l k (at0 l k)).st := by rw [← core_step hk l k (at0 l k)]; rfl
    rw [hst]
    unfold plainC at hc
    simp only [Bool.and_eq_true, Bool.not_eq_true', beq_eq_false_iff_ne, ne_eq] at hc
    unfold stepP
    split
    · rfl
    · rw [if_neg (by rw [hc.1]; simp), if_neg (by rw [hc.2.1]; simp), if_neg hc.2.2]
      exact hk
theorem plain_tell {x : X6} (hst : x.st = [⟨x.base, -1, false⟩]) {c : Int} (hc : plainC c = true) : (tellP x.core c).1 = x.base ∧ ((tellP x.core c).2 = c ∨ c < 0 ∨ 22 < c) := by
  have hcs : x.core.st = [⟨x.base, -1, false⟩] := hst
  unfold plainC at hc
  simp only [Bool.and_eq_true, Bool.not_eq_true', beq_eq_false_iff_ne, ne_eq] at hc
  unfold tellP
  rw [hcs]
  simp only
  split
  · exact ⟨rfl, .inl rfl⟩
  · rw [if_neg (by rw [hc.1]; simp), if_neg (by rw [hc.2.1]; simp), if_neg hc.2.2]
    refine ⟨rfl, ?_⟩
    have he : overE ⟨x.base, -1, false⟩ (knownI c) = knownI c := by rw [overE, if_pos rfl]
    simp only [he]
    unfold knownI
    split
    · exact .inr (by assumption)
    · exact .inl rfl

/-- a direction that is not looked for is its place's alone -/
theorem isolate_take (l : List Int) (k i : Nat) (hk : k ≤ l.length) (hi : i < k) (h21 : at0 l i ≠ 21) : isolate (l.take k) i = isolate l i := by
  have ha : at0 (l.take k) i = at0 l i := by
    have h1 : i < (l.take k).length := by simp; omega
    rw [at0_eq h1, at0_eq (show i < l.length by omega), List.getElem_take]
  have hl : (l.take k).length = k := by simp; omega
  unfold isolate
  rw [if_neg (by rw [hl]; omega), if_neg (show ¬ ((i : Int) < 0 ∨ (l.length : Int) ≤ i) by omega)]
  simp only [Int.toNat_natCast]
  rw [ha]
  rw [if_neg (show ¬ at0 l i = 21 from h21), if_neg (show ¬ at0 l i = 21 from h21)]
theorem step_take (l : List Int) (x : X6) (k i : Nat) (hk : k ≤ l.length) (hi : i < k) (h21 : at0 l i ≠ 21) : stepX (l.take k) x i (at0 (l.take k) i) = stepX l x i (at0 l i) := by
  have ha : at0 (l.take k) i = at0 l i := by
    have h1 : i < (l.take k).length := by simp; omega
    rw [at0_eq h1, at0_eq (show i < l.length by omega), List.getElem_take]
  rw [ha]
  unfold stepX isolateX
  rw [isolate_take l k i hk hi h21]
theorem run_take (l : List Int) (base : Int) (k : Nat) (hk : k ≤ l.length) (h : ∀ j, j < k → at0 l j ≠ 21) : ∀ i, i ≤ k → runX (l.take k) base i = runX l base i := by
  intro i
  induction i with
  | zero => intro _; rfl
  | succ i ih =>
    intro hi
    rw [runX, runX, ih (by omega), step_take l _ k i hk (by omega) (h i (by omega))]
theorem run_prefix (l : List Int) (base : Int) (k : Nat) : ∀ m, k ≤ m → (runX l base m).levels.take k = (runX l base k).levels ∧ (runX l base m).classes.take k = (runX l base k).classes := by
  intro m
  induction m with
  | zero => intro h; obtain rfl : k = 0 := by omega
            exact ⟨rfl, rfl⟩
  | succ m ih =>
    intro h
    by_cases hk : k = m + 1
    · subst hk
      rw [List.take_of_length_le (by rw [(wf_run l base (m + 1)).levels]; exact Nat.le_refl _), List.take_of_length_le (by rw [(wf_run l base (m + 1)).classes]; exact Nat.le_refl _)]
      exact ⟨rfl, rfl⟩
    · have ht := run_told l base m
      rw [ht.levels, ht.classes, List.take_append_of_le_length (by rw [(wf_run l base m).levels]; omega), List.take_append_of_le_length (by rw [(wf_run l base m).classes]; omega)]
      exact ih (by omega)
/-- levels and classes of a beginning are the beginning's -/
theorem begin_facts (l : List Int) (base : Int) (k : Nat) (hk : k ≤ l.length) (h : ∀ j, j < k → at0 l j ≠ 21) :
    lvs (l.take k) base = (lvs l base).take k ∧ xcls (l.take k) base = (xcls l base).take k ∧ dep (l.take k) base ≤ dep l base := by
  have hl : (l.take k).length = k := by simp; omega
  have hr := run_take l base k hk h k (Nat.le_refl _)
  have hp := run_prefix l base k l.length hk
  unfold lvs xcls dep
  rw [hl, hr, hp.1, hp.2]
  exact ⟨rfl, rfl, (dep_facts l base l.length).2.2 k hk⟩
end Go.Proofs.Ytajgjloailliiaa

/- Layer 6: plain facts of isolates: what stands in one changes nothing behind it. -/
namespace Go.Proofs.Ytajgjloailliiaa
open Go.RowKit

/-- how many more isolates begin than end -/
def weigh (c : Int) : Int := (if isOpens c then 1 else 0) - (if c = 22 then 1 else 0)
def dsum (v : List Int) : Int := (v.map weigh).sum
theorem dsum_snoc (v : List Int) (c : Int) : dsum (v ++ [c]) = dsum v + weigh c := by simp [dsum]
structure Balanced (v : List Int) : Prop where
  at' : ∀ i, i < v.length → at0 v i ≠ 10 ∧ 0 ≤ dsum (v.take (i + 1))
  all : dsum v = 0

theorem unwind_in (r : List Ent) : ∀ s : List Ent, 0 < (s.filter (·.iso)).length → ∃ t, unwind (s ++ r) = t ++ r ∧ (t.filter (·.iso)).length + 1 = (s.filter (·.iso)).length := by
  intro s
  induction s with
  | nil => intro h; simp at h
  | cons a s ih =>
    intro h
    cases ha : a.iso with
    | true => exact ⟨s, by rw [List.cons_append, unwind_hit ha], by simp [ha]⟩
    | false =>
      have hf : (a :: s).filter (·.iso) = s.filter (·.iso) := by simp [ha]
      rw [hf] at h ⊢
      obtain ⟨t, h1, h2⟩ := ih h
      exact ⟨t, by rw [List.cons_append, unwind_skip ha]; exact h1, h2⟩
theorem unwind_out (e : Ent) (he : e.iso = true) (r : List Ent) : ∀ s : List Ent, (s.filter (·.iso)).length = 0 → unwind (s ++ e :: r) = r := by
  intro s
  induction s with
  | nil => intro _; exact unwind_hit he
  | cons a s ih =>
    intro h
    cases ha : a.iso with
    | true => simp [ha] at h
    | false =>
      have hf : (a :: s).filter (·.iso) = s.filter (·.iso) := by simp [ha]
      rw [hf] at h
      rw [List.cons_append, unwind_skip ha]
      exact ih h

/-- in the isolate, d more within it -/
def Inside (b : Int) (p : P6) (d : Int) : Prop := ∃ s : List Ent, p.base = b ∧ p.st = s ++ [⟨2, -1, true⟩, ⟨b, -1, false⟩] ∧ (s.filter (·.iso)).length + 1 = p.valid ∧ ((p.isos + (s.filter (·.iso)).length : Nat) : Int) = d
theorem inside_push {b : Int} {p : P6} {d : Int} (h : Inside b p d) (k o : Int) : Inside b (pushP p k o false) d := by
  obtain ⟨s, h0, h1, h2, h3⟩ := h
  unfold pushP
  split
  · exact ⟨s, h0, h1, h2, h3⟩
  · split
    · refine ⟨⟨_, o, false⟩ :: s, h0, by show _ :: p.st = _; rw [h1]; rfl, ?_, ?_⟩
      · simpa [List.filter_cons] using h2
      · simpa [List.filter_cons] using h3
    · exact ⟨s, h0, h1, h2, h3⟩
theorem inside_begin {b : Int} {p : P6} {d : Int} (h : Inside b p d) (k o : Int) : Inside b (beginP p k o) d := by
  unfold beginP
  split
  · obtain ⟨s, h0, h1, h2, h3⟩ := h
    split <;> exact ⟨s, h0, h1, h2, h3⟩
  · exact inside_push h k o
theorem inside_back {b : Int} {p : P6} {d : Int} (h : Inside b p d) : Inside b (backP p) d := by
  obtain ⟨s, h0, h1, h2, h3⟩ := h
  unfold backP
  split
  · exact ⟨s, h0, h1, h2, h3⟩
  · split
    · exact ⟨s, h0, h1, h2, h3⟩
    · split
      · exact ⟨s, h0, h1, h2, h3⟩
      · rename_i e st hst
        split
        · rename_i hc
          cases s with
          | nil =>
            rw [h1] at hst
            injection hst with h4 _
            rw [← h4] at hc
            simp at hc
          | cons a s =>
            rw [h1] at hst
            injection hst with h4 h5
            subst h4
            refine ⟨s, h0, h5.symm, ?_, ?_⟩
            · have := h2; simp [hc.1] at this; exact this
            · have := h3; simp [hc.1] at this; simpa using this
        · exact ⟨s, h0, h1, h2, h3⟩
theorem inside_step {b : Int} {p : P6} {d : Int} (h : Inside b p d) (l : List Int) (i c : Int) (h10 : c ≠ 10) (hd : 0 ≤ d + weigh c) : Inside b (stepP p l i c) (d + weigh c) := by
  obtain ⟨f1, f2⟩ := class_facts c
  unfold stepP
  rw [if_neg h10]
  split
  · rename_i hO
    obtain ⟨_, g2, g3⟩ := f1 hO
    have hw : weigh c = 0 := by unfold weigh; rw [g2, if_neg g3]; rfl
    rw [hw, Int.add_zero]
    unfold embedP
    split
    · exact inside_begin h _ _
    · split
      · exact inside_begin h _ _
      · split
        · exact inside_begin h _ _
        · split
          · exact inside_begin h _ _
          · split
            · exact inside_back h
            · exact h
  · split
    · rename_i hP
      obtain ⟨_, _, g3⟩ := f2 hP
      have hw : weigh c = 1 := by unfold weigh; rw [hP, if_neg g3]; rfl
      rw [hw]
      obtain ⟨s, h0, h1, h2, h3⟩ := h
      unfold isolateP
      split
      · exact ⟨s, h0, h1, h2, by show ((p.isos + 1 + _ : Nat) : Int) = _; omega⟩
      · rename_i hf
        have hfit : fitP p (isolate l i) = true := by
          cases hq : fitP p (isolate l i) with
          | true => rfl
          | false => rw [hq] at hf; simp at hf
        have hne : ∃ e st, p.st = e :: st := by
          cases hs : p.st with
          | nil => rw [h1] at hs; simp at hs
          | cons e st => exact ⟨e, st, rfl⟩
        obtain ⟨e, st, hst⟩ := hne
        have hU : pushP p (isolate l i) (-1) true = { p with st := ⟨nextL e.lev (isolate l i), -1, true⟩ :: p.st } := by
          unfold fitP at hfit; unfold pushP
          rw [hst] at hfit ⊢
          simp only [decide_eq_true_eq] at hfit
          simp only
          rw [if_pos hfit]
        rw [hU]
        refine ⟨⟨nextL e.lev (isolate l i), -1, true⟩ :: s, h0, by show _ :: p.st = _; rw [h1]; rfl, ?_, ?_⟩
        · show _ = p.valid + 1
          simp; omega
        · show ((p.isos + _ : Nat) : Int) = _
          simp; omega
    · rename_i hO hP
      split
      · rename_i h22
        have hw : weigh c = -1 := by unfold weigh; rw [if_neg hP, if_pos h22]; rfl
        rw [hw] at hd ⊢
        obtain ⟨s, h0, h1, h2, h3⟩ := h
        unfold endP
        split
        · exact ⟨s, h0, h1, h2, by show ((p.isos - 1 + _ : Nat) : Int) = _; omega⟩
        · rename_i hi
          rw [if_pos (by omega)]
          obtain ⟨t, t1, t2⟩ := unwind_in [⟨2, -1, true⟩, ⟨b, -1, false⟩] s (by omega)
          refine ⟨t, h0, by show unwind p.st = _; rw [h1, t1], by show _ = p.valid - 1; omega, by show ((p.isos + _ : Nat) : Int) = _; omega⟩
      · rename_i h22
        have hw : weigh c = 0 := by unfold weigh; rw [if_neg hP, if_neg h22]; rfl
        rw [hw, Int.add_zero]
        exact h
theorem inside_end {b : Int} {p : P6} (h : Inside b p 0) : endP p = ⟨b, [⟨b, -1, false⟩], 0, 0, 0⟩ := by
  obtain ⟨s, h0, h1, h2, h3⟩ := h
  have hi : p.isos = 0 := by omega
  have hf : (s.filter (·.iso)).length = 0 := by omega
  have hv : p.valid = 1 := by omega
  unfold endP
  rw [if_neg (by omega), if_pos (by omega), h1, unwind_out _ rfl _ _ hf]
  cases p
  simp_all

/-- a list with an isolate at the beginning -/
abbrev isoL (v l : List Int) : List Int := ([19] ++ v) ++ ([22] ++ l)
theorem isoL_length (v l : List Int) : (isoL v l).length = v.length + 2 + l.length := by simp; omega
theorem isoL_in (v l : List Int) (i : Nat) (h : i < v.length) : at0 (isoL v l) (i + 1) = at0 v i := by
  simp [isoL, at0, List.getD_eq_getElem?_getD, List.getElem?_append_left h]
theorem isoL_end (v l : List Int) : at0 (isoL v l) (v.length + 1) = 22 := by
  simp [isoL, at0, List.getD_eq_getElem?_getD]
theorem isoL_behind (v l : List Int) (j : Nat) : at0 (isoL v l) (v.length + 2 + j) = at0 l j := by
  have : (isoL v l)[v.length + 2 + j]? = l[j]? := by
    have e : isoL v l = ([19] ++ v ++ [22]) ++ l := by simp [isoL]
    rw [e, List.getElem?_append_right (by simp only [List.length_append, List.length_cons, List.length_nil]; omega)]
    congr 1
    simp only [List.length_append, List.length_cons, List.length_nil]; omega
  unfold at0
  rw [List.getD_eq_getElem?_getD, this, List.getD_eq_getElem?_getD]
theorem iso_begin (n : Int) (v l : List Int) : Inside (if n = 0 then 0 else 1) (runX (isoL v l) n 1).core 0 := by
  obtain ⟨b, hb⟩ : ∃ b : Int, (if n = 0 then (0 : Int) else 1) = b := ⟨_, rfl⟩
  have hb01 : b = 0 ∨ b = 1 := by split at hb <;> omega
  rw [hb]
  have h0 : (runX (isoL v l) n 0).st = ⟨b, -1, false⟩ :: [] := by rw [runX, beginX, hb]; rfl
  have hc0 : (runX (isoL v l) n 0).core = ⟨b, [⟨b, -1, false⟩], 0, 0, 0⟩ := by rw [runX, beginX, hb]; rfl
  have ha : at0 (isoL v l) 0 = 19 := rfl
  rw [show runX (isoL v l) n 1 = stepX (isoL v l) (runX (isoL v l) n 0) 0 (at0 (isoL v l) 0) from rfl, ha]
  have := core_step h0 (isoL v l) 0 19
  rw [this, hc0]
  have hi : isolate (isoL v l) ((0 : Nat) : Int) = 0 := by
    have hlen := isoL_length v l
    unfold isolate
    rw [if_neg (by omega)]
    simp only [Int.toNat_natCast]
    rw [ha]
    rfl
  have hS : stepP (⟨b, [⟨b, -1, false⟩], 0, 0, 0⟩ : P6) (isoL v l) ((0 : Nat) : Int) 19 = ⟨b, [⟨2, -1, true⟩, ⟨b, -1, false⟩], 0, 0, 1⟩ := by
    unfold stepP
    rw [if_neg (by decide), if_neg (by decide), if_pos (by decide)]
    unfold isolateP
    rw [hi]
    rcases hb01 with rfl | rfl <;> kernel_rfl
  rw [hS]
  exact ⟨[], rfl, rfl, rfl, rfl⟩
theorem iso_within (n : Int) (v l : List Int) (hv : Balanced v) : ∀ i, i ≤ v.length → Inside (if n = 0 then 0 else 1) (runX (isoL v l) n (i + 1)).core (dsum (v.take i)) := by
  intro i
  induction i with
  | zero => intro _; simpa [dsum] using iso_begin n v l
  | succ i ih =>
    intro hi
    obtain ⟨h10, hd⟩ := hv.at' i (by omega)
    have hs : dsum (v.take (i + 1)) = dsum (v.take i) + weigh (at0 v i) := by
      rw [take_snoc v i (by omega), dsum_snoc, at0_eq (show i < v.length by omega)]
    rw [hs] at hd ⊢
    obtain ⟨e, st, hst⟩ := (wf_run (isoL v l) n (i + 1)).top
    have hr : runX (isoL v l) n (i + 1 + 1) = stepX (isoL v l) (runX (isoL v l) n (i + 1)) (i + 1) (at0 v i) := by
      rw [runX, isoL_in v l i (by omega)]
    rw [hr, core_step hst]
    exact inside_step (ih (by omega)) _ _ _ h10 hd
/-- behind the isolate's end all is as at the beginning -/
theorem iso_ended (n : Int) (v l : List Int) (hv : Balanced v) : endP (runX (isoL v l) n (v.length + 1)).core = (beginX n).core := by
  have h := iso_within n v l hv v.length (Nat.le_refl _)
  rw [List.take_length, hv.all] at h
  rw [inside_end h]
  rfl
theorem iso_tell (n : Int) (v l : List Int) (hv : Balanced v) : tellP (runX (isoL v l) n (v.length + 1)).core 22 = ((if n = 0 then 0 else 1), 22) := by
  obtain ⟨e, st, hst⟩ := (wf_run (isoL v l) n (v.length + 1)).top
  have hcs : (runX (isoL v l) n (v.length + 1)).core.st = e :: st := hst
  have he := iso_ended n v l hv
  have hes : (endP (runX (isoL v l) n (v.length + 1)).core).st = [⟨if n = 0 then 0 else 1, -1, false⟩] := by rw [he]; rfl
  unfold tellP
  rw [hcs]
  simp only [hes]
  rfl
theorem iso_core (n : Int) (v l : List Int) (hv : Balanced v) : (runX (isoL v l) n (v.length + 2)).core = (beginX n).core := by
  obtain ⟨e, st, hst⟩ := (wf_run (isoL v l) n (v.length + 1)).top
  have hr : runX (isoL v l) n (v.length + 2) = stepX (isoL v l) (runX (isoL v l) n (v.length + 1)) (v.length + 1) 22 := by
    rw [show v.length + 2 = (v.length + 1) + 1 from rfl, runX, isoL_end]
  rw [hr, core_step hst]
  exact iso_ended n v l hv
/-- a direction depends on what follows alone -/
theorem stopAt_shift (xs : List Int) : ∀ d k, stopAt xs d k = stopAt xs d 0 + k := by
  induction xs with
  | nil => intro d k; simp [stopAt]
  | cons x xs ih =>
    intro d k
    simp only [stopAt]
    have h1 := ih (d + 1) (k + 1)
    have h1' := ih (d + 1) (0 + 1)
    have h2 := ih (d - 1) (k + 1)
    have h2' := ih (d - 1) (0 + 1)
    have h3 := ih d (k + 1)
    have h3' := ih d (0 + 1)
    repeat' split
    all_goals omega
theorem isolate_shift (l l' : List Int) (i i' : Nat) (h : l.drop i = l'.drop i') (hi : i < l.length) (hi' : i' < l'.length) : isolate l i = isolate l' i' := by
  have ha : at0 l i = at0 l' i' := by
    have : (l.drop i)[0]? = (l'.drop i')[0]? := by rw [h]
    simp only [List.getElem?_drop, Nat.add_zero] at this
    simp [at0, List.getD_eq_getElem?_getD, this]
  have hd : l.drop (i + 1) = l'.drop (i' + 1) := by
    rw [← List.drop_drop, ← List.drop_drop, h]
  unfold isolate
  rw [if_neg (show ¬ ((i : Int) < 0 ∨ (l.length : Int) ≤ i) by omega), if_neg (show ¬ ((i' : Int) < 0 ∨ (l'.length : Int) ≤ i') by omega)]
  simp only [Int.toNat_natCast]
  rw [ha, hd, stopAt_shift _ 1 (i + 1), stopAt_shift _ 1 (i' + 1), Nat.add_sub_cancel, Nat.add_sub_cancel]
theorem isoL_drop (v l : List Int) (j : Nat) : (isoL v l).drop (v.length + 2 + j) = l.drop j := by
  have e : isoL v l = ([19] ++ v ++ [22]) ++ l := by simp [isoL]
  rw [e, List.drop_append, List.drop_of_length_le (by simp only [List.length_append, List.length_cons, List.length_nil]; omega), List.nil_append]
  congr 1
  simp only [List.length_append, List.length_cons, List.length_nil]; omega
theorem balanced_nil : Balanced [] := ⟨fun i h => by simp at h, rfl⟩
theorem iso_behind (n : Int) (v l : List Int) (hv : Balanced v) : ∀ j, j ≤ l.length → (runX (isoL v l) n (v.length + 2 + j)).core = (runX (isoL [] l) n (2 + j)).core := by
  intro j
  induction j with
  | zero =>
    intro _
    have h2 := iso_core n [] l balanced_nil
    exact (iso_core n v l hv).trans h2.symm
  | succ j ih =>
    intro hj
    have hc := ih (by omega)
    obtain ⟨e, st, hst⟩ := (wf_run (isoL v l) n (v.length + 2 + j)).top
    obtain ⟨e', st', hst'⟩ := (wf_run (isoL [] l) n (2 + j)).top
    have h1 : runX (isoL v l) n (v.length + 2 + (j + 1)) = stepX (isoL v l) (runX (isoL v l) n (v.length + 2 + j)) (v.length + 2 + j) (at0 l j) := by
      rw [show v.length + 2 + (j + 1) = (v.length + 2 + j) + 1 from rfl, runX, isoL_behind]
    have h2 : runX (isoL [] l) n (2 + (j + 1)) = stepX (isoL [] l) (runX (isoL [] l) n (2 + j)) (2 + j) (at0 l j) := by
      have := isoL_behind [] l j
      simp only [List.length_nil, Nat.zero_add] at this
      rw [show 2 + (j + 1) = (2 + j) + 1 from rfl, runX, this]
    rw [h1, h2, core_step hst, core_step hst', hc]
    have hl1 := isoL_length v l
    have hl2 := isoL_length [] l
    have hi : isolate (isoL v l) ((v.length + 2 + j : Nat) : Int) = isolate (isoL [] l) ((2 + j : Nat) : Int) := by
      refine isolate_shift _ _ _ _ ?_ (by omega) (by simp at hl2 ⊢; omega)
      have := isoL_drop [] l j
      simp only [List.length_nil, Nat.zero_add] at this
      rw [isoL_drop, this]
    unfold stepP isolateP
    rw [hi]
theorem iso_facts (n : Int) (v l : List Int) (hv : Balanced v) :
    (lvs (isoL v l) n).drop (v.length + 1) = (lvs (isoL [] l) n).drop 1 ∧ (xcls (isoL v l) n).drop (v.length + 1) = (xcls (isoL [] l) n).drop 1 := by
  have hl1 := isoL_length v l
  have hl2 := isoL_length [] l
  simp only [List.length_nil, Nat.zero_add] at hl2
  have key : ∀ j, j < l.length + 1 → tellP (runX (isoL v l) n (v.length + 1 + j)).core (at0 (isoL v l) (v.length + 1 + j)) = tellP (runX (isoL [] l) n (1 + j)).core (at0 (isoL [] l) (1 + j)) := by
    intro j hj
    cases j with
    | zero =>
      have h2 := iso_tell n [] l balanced_nil
      have h3 := isoL_end [] l
      rw [Nat.add_zero, Nat.add_zero, isoL_end, iso_tell n v l hv]
      exact h2.symm
    | succ j =>
      have h1 := isoL_behind v l j
      have h2 := isoL_behind [] l j
      simp only [List.length_nil, Nat.zero_add] at h2
      have h3 := iso_behind n v l hv j (by omega)
      rw [show v.length + 1 + (j + 1) = v.length + 2 + j by omega, show 1 + (j + 1) = 2 + j by omega, h1, h2, h3]
  have g1 : (lvs (isoL v l) n).length = v.length + 2 + l.length := by rw [lvs_length]; exact hl1
  have g2 : (lvs (isoL [] l) n).length = 2 + l.length := by rw [lvs_length]; exact hl2
  have g3 : (xcls (isoL v l) n).length = v.length + 2 + l.length := by rw [xcls_length]; exact hl1
  have g4 : (xcls (isoL [] l) n).length = 2 + l.length := by rw [xcls_length]; exact hl2
  constructor
  · refine List.ext_getElem (by rw [List.length_drop, List.length_drop, g1, g2]; omega) (fun j h1 h2 => ?_)
    have hj : j < l.length + 1 := by rw [List.length_drop, g2] at h2; omega
    rw [List.getElem_drop, List.getElem_drop, lvs_at _ _ _ (by omega), lvs_at _ _ _ (by omega)]
    have := key j hj
    rw [at0_eq (show v.length + 1 + j < (isoL v l).length by omega), at0_eq (show 1 + j < (isoL [] l).length by omega)] at this
    exact congrArg Prod.fst this
  · refine List.ext_getElem (by rw [List.length_drop, List.length_drop, g3, g4]; omega) (fun j h1 h2 => ?_)
    have hj : j < l.length + 1 := by rw [List.length_drop, g4] at h2; omega
    rw [List.getElem_drop, List.getElem_drop, xcls_at _ _ _ (by omega), xcls_at _ _ _ (by omega)]
    have := key j hj
    rw [at0_eq (show v.length + 1 + j < (isoL v l).length by omega), at0_eq (show 1 + j < (isoL [] l).length by omega)] at this
    exact congrArg Prod.snd this
end Go.Proofs.Ytajgjloailliiaa
