/- Shared texts, shaken for one claim. -/
import Derived.Laws.Slices
import Derived.Test.YtcbaahlahohfmaaGreatDoorZA1
import Derived.Test.YtcbaahlahohfmaaGreatDoorZA6
import Derived.Test.YtcbaahlahohfmaaGreatDoorZA7
import Derived.Test.YtcbaahlahohfmaaGreatDoorZA10
import Derived.Test.YtcbaahlahohfmaaGreatDoorZA12
namespace Go.Proofs.YtcbaahlahohfmaaGreatDoor
open Go.RowKit
def X6.core (x : X6) : P6 := ⟨x.base, x.st, x.isos, x.embeds, x.valid⟩
def OvOk (x : X6) : Prop := ∀ e ∈ x.st, e.over = -1 ∨ e.over = 0 ∨ e.over = 1
theorem overE_eq {e : Ent} (h : e.over = -1 ∨ e.over = 0 ∨ e.over = 1) (c : Int) : (if 0 ≤ e.over then e.over else c) = overE e c := by
 unfold overE
 rcases h with h | h | h <;> rw [h] <;> simp
theorem isOut_cases (c : Int) : isOut c = true ↔ c = 14 ∨ c = 15 ∨ c = 16 ∨ c = 17 ∨ c = 18 ∨ c = 9 := by simp [isOut]
theorem isOpens_cases (c : Int) : isOpens c = true ↔ c = 19 ∨ c = 20 ∨ c = 21 := by simp [isOpens]
theorem core_put (x : X6) (c : Int) : (putX x c).core = x.core := by unfold putX; split <;> rfl
theorem fits_core (x : X6) (n : Int) : fitsX x n = (decide (n ≤ 125) && !overP x.core) := by
 unfold fitsX overP X6.core
 cases h1 : x.isos <;> cases h2 : x.embeds <;> simp <;> omega
theorem core_embed {x : X6} {e : Ent} {st : List Ent} (hst : x.st = e :: st) (c : Int) :
 (embedX x c).core = beginP x.core (dirOf c) (overOf c) := by
 have hcs : x.core.st = e :: st := hst
 have hF : fitP x.core (dirOf c) = decide (nextL e.lev (dirOf c) ≤ 125) := by unfold fitP; rw [hcs]
 have hU : pushP x.core (dirOf c) (overOf c) false = if nextL e.lev (dirOf c) ≤ 125 then { x.core with st := ⟨nextL e.lev (dirOf c), overOf c, false⟩ :: x.core.st } else x.core := by unfold pushP; rw [hcs]
 unfold embedX beginP
 split
 ·rename_i h; rw [hst] at h; cases h
 ·rename_i e' st' h
  rw [hst] at h
  injection h with h1 h2
  subst h1
  simp only
  rw [fits_core, hF, hU]
  have hc : ({ x with levels := x.levels ++ [e.lev], classes := x.classes ++ [c] } : X6).core = x.core := rfl
  rw [hc]
  cases hO : overP x.core with
  | true =>
   simp only [Bool.not_true, Bool.and_false, Bool.true_or, if_true]
   rw [if_neg (by simp)]
   by_cases h0 : x.isos = 0
   ·rw [if_pos h0, if_pos (show x.core.isos = 0 from h0)]; rfl
   ·rw [if_neg h0, if_neg (show ¬ x.core.isos = 0 from h0)]; rfl
  | false =>
   have hi : x.isos = 0 := by unfold overP X6.core at hO; simp at hO; omega
   by_cases hn : nextL e.lev (dirOf c) ≤ 125
   ·rw [if_pos (by simp [hn]), if_neg (by simp [hn]), if_pos hn]; rfl
   ·rw [if_neg (show ¬ (decide (nextL e.lev (dirOf c) ≤ 125) && !false) = true by simp [hn]), if_pos (show (false || !decide (nextL e.lev (dirOf c) ≤ 125)) = true by simp [hn]), if_pos hi, if_pos (show x.core.isos = 0 from hi)]; rfl
theorem core_isolate {x : X6} {e : Ent} {st : List Ent} (hst : x.st = e :: st) (l : List Int) (i c : Int) :
 (isolateX x l i c).core = isolateP x.core l i := by
 have hcs : x.core.st = e :: st := hst
 have hF : fitP x.core (isolate l i) = decide (nextL e.lev (isolate l i) ≤ 125) := by unfold fitP; rw [hcs]
 have hU : pushP x.core (isolate l i) (-1) true = if nextL e.lev (isolate l i) ≤ 125 then { x.core with st := ⟨nextL e.lev (isolate l i), -1, true⟩ :: x.core.st } else x.core := by unfold pushP; rw [hcs]
 have hp := core_put x c
 obtain ⟨p1, p2, p3, p4⟩ := putX_st x c
 unfold isolateX isolateP
 split
 ·rename_i h; rw [hst] at h; cases h
 ·rename_i e' st' h
  rw [hst] at h
  injection h with h1 h2
  subst h1
  rw [fits_core, hp, hF, hU]
  cases hO : overP x.core with
  | true =>
   simp only [Bool.not_true, Bool.and_false, Bool.true_or, if_true]
   rw [if_neg (by simp)]
   show P6.mk _ _ _ _ _ = P6.mk _ _ _ _ _
   rw [p1, p2, p3, p4]
   have : (putX x c).base = x.base := congrArg P6.base hp
   rw [this]; rfl
  | false =>
   by_cases hn : nextL e.lev (isolate l i) ≤ 125
   ·rw [if_pos (by simp [hn]), if_neg (by simp [hn]), if_pos hn]
    show P6.mk _ _ _ _ _ = P6.mk _ _ _ _ _
    have : (putX x c).base = x.base := congrArg P6.base hp
    show P6.mk (putX x c).base (_ :: (putX x c).st) (putX x c).isos (putX x c).embeds ((putX x c).valid + 1) = _
    rw [p1, p2, p3, p4, this]; rfl
   ·rw [if_neg (by simp [hn]), if_pos (by simp [hn])]
    show P6.mk (putX x c).base (putX x c).st ((putX x c).isos + 1) (putX x c).embeds (putX x c).valid = _
    have : (putX x c).base = x.base := congrArg P6.base hp
    rw [p1, p2, p3, p4, this]; rfl
theorem core_end (x : X6) (c : Int) : (endX x c).core = endP x.core := by
 rw [endX, core_put]
 unfold endX0 endP
 by_cases h : 0 < x.isos
 ·rw [if_pos h, if_pos (show 0 < x.core.isos from h)]; rfl
 ·rw [if_neg h, if_neg (show ¬ 0 < x.core.isos from h)]
  by_cases h2 : 0 < x.valid
  ·rw [if_pos h2, if_pos (show 0 < x.core.valid from h2)]; rfl
  ·rw [if_neg h2, if_neg (show ¬ 0 < x.core.valid from h2)]
theorem core_back {x : X6} {e : Ent} {st : List Ent} (hst : x.st = e :: st) : (backX x).core = backP x.core := by
 have hB : backP x.core = if 0 < x.isos then x.core else if 0 < x.embeds then { x.core with embeds := x.embeds - 1 } else if e.iso = false ∧ 1 ≤ st.length then { x.core with st := st } else x.core := by
  have hcs : x.core.st = e :: st := hst
  unfold backP
  by_cases h : 0 < x.core.isos
  ·rw [if_pos h, if_pos (show 0 < x.isos from h)]
  ·rw [if_neg h, if_neg (show ¬ 0 < x.isos from h)]
   by_cases h2 : 0 < x.core.embeds
   ·rw [if_pos h2, if_pos (show 0 < x.embeds from h2)]; rfl
   ·rw [if_neg h2, if_neg (show ¬ 0 < x.embeds from h2), hcs]
 rw [hB]
 unfold backX
 split
 ·rename_i h; rw [hst] at h; cases h
 ·rename_i e' st' h
  rw [hst] at h
  injection h with h1 h2
  subst h1
  subst h2
  simp only
  by_cases h : 0 < x.isos
  ·rw [if_pos h, if_pos h]; rfl
  ·rw [if_neg h, if_neg h]
   by_cases h2 : 0 < x.embeds
   ·rw [if_pos h2, if_pos h2]; rfl
   ·rw [if_neg h2, if_neg h2]
    by_cases h3 : e.iso = false ∧ 1 ≤ st.length
    ·rw [if_pos h3, if_pos h3]; rfl
    ·rw [if_neg h3, if_neg h3]; rfl
theorem core_step {x : X6} {e : Ent} {st : List Ent} (hst : x.st = e :: st) (l : List Int) (i : Nat) (c : Int) : (stepX l x i c).core = stepP x.core l i c := by
 unfold stepX stepP
 by_cases h1 : c = 16 ∨ c = 14 ∨ c = 17 ∨ c = 15
 ·have hO : isOut c = true := (isOut_cases c).2 (by omega)
  rw [if_pos h1, if_neg (by omega), if_pos hO, core_embed hst]
  unfold embedP
  rcases h1 with h | h | h | h <;> subst h <;> simp [dirOf, overOf]
 ·rw [if_neg h1]
  by_cases h2 : isOpens c = true
  ·have h2' := (isOpens_cases c).1 h2
   have hO : ¬ isOut c = true := fun h => by have := (isOut_cases c).1 h; omega
   rw [if_pos h2, if_neg (by omega), if_neg hO, if_pos h2, core_isolate hst]
  ·have h2' : ¬ (c = 19 ∨ c = 20 ∨ c = 21) := fun h => h2 ((isOpens_cases c).2 h)
   rw [if_neg h2]
   by_cases h3 : c = 22
   ·have hO : ¬ isOut c = true := fun h => by have := (isOut_cases c).1 h; omega
    rw [if_pos h3, if_neg (by omega), if_neg hO, if_neg h2, if_pos h3, core_end]
   ·rw [if_neg h3]
    by_cases h4 : c = 18
    ·have hO : isOut c = true := (isOut_cases c).2 (by omega)
     rw [if_pos h4, if_neg (by omega), if_pos hO, core_back hst]
     subst h4; simp [embedP]
    ·rw [if_neg h4]
     by_cases h5 : c = 9
     ·have hO : isOut c = true := (isOut_cases c).2 (by omega)
      rw [if_pos h5, if_neg (by omega), if_pos hO, hst]
      subst h5; simp [embedP, tellX]; rfl
     ·rw [if_neg h5]
      by_cases h6 : c = 10
      ·rw [if_pos h6, if_pos h6]; rfl
      ·have hO : ¬ isOut c = true := fun h => by have := (isOut_cases c).1 h; omega
       rw [if_neg h6, if_neg h6, if_neg hO, if_neg h2, if_neg h3]
       split <;> exact core_put _ _
structure Told (x y : X6) (r : Int × Int) : Prop where
 levels : y.levels = x.levels ++ [r.1]
 classes : y.classes = x.classes ++ [r.2]
theorem told_put {x : X6} {e : Ent} {st : List Ent} (hst : x.st = e :: st) (ho : OvOk x) (c : Int) : Told x (putX x c) (e.lev, overE e c) := by
 have he := ho e (by rw [hst]; simp)
 unfold putX
 split
 ·rename_i h; rw [hst] at h; cases h
 ·rename_i e' st' h
  rw [hst] at h
  injection h with h1 _
  subst h1
  exact ⟨rfl, by rw [overE_eq he]⟩
theorem ov_end {x : X6} (ho : OvOk x) : OvOk (endX0 x) := by
 have hsub : ∀ st : List Ent, ∀ e ∈ unwind st, e ∈ st := fun st e he => (List.dropWhile_sublist (l := st) (p := fun e => !e.iso)).subset (List.mem_of_mem_tail he)
 unfold endX0
 split
 ·exact ho
 ·split
  ·exact fun e he => ho e (hsub _ e he)
  ·exact ho
theorem told_step {x : X6} {k : Nat} (hw : Wf x k) (ho : OvOk x) (l : List Int) (c : Int) : Told x (stepX l x k c) (tellP x.core c) := by
 obtain ⟨e, st, hst⟩ := hw.top
 obtain ⟨⟨e2, st2, he2⟩, _⟩ := wf_end (c := c) hw
 have hT : tellP x.core c = if c = 10 then (x.base, c) else if isOut c then (e.lev, c) else if isOpens c then (e.lev, overE e c)
  else if c = 22 then (e2.lev, overE e2 c) else (e.lev, overE e (knownI c)) := by
  have hcs : x.core.st = e :: st := hst
  have hes : (endP x.core).st = e2 :: st2 := by rw [← core_end x c, endX, core_put]; exact he2
  unfold tellP
  rw [hcs]
  simp only [hes]
  rfl
 rw [hT]
 unfold stepX
 by_cases h1 : c = 16 ∨ c = 14 ∨ c = 17 ∨ c = 15
 ·have hO : isOut c = true := (isOut_cases c).2 (by omega)
  rw [if_pos h1, if_neg (by omega), if_pos hO]
  unfold embedX
  split
  ·rename_i h; rw [hst] at h; cases h
  ·rename_i e' st' h
   rw [hst] at h
   injection h with h3 _
   subst h3
   simp only
   split
   ·exact ⟨rfl, rfl⟩
   ·split <;> exact ⟨rfl, rfl⟩
 ·rw [if_neg h1]
  by_cases h2 : isOpens c = true
  ·have h2' := (isOpens_cases c).1 h2
   have hO : ¬ isOut c = true := fun h => by have := (isOut_cases c).1 h; omega
   rw [if_pos h2, if_neg (by omega), if_neg hO, if_pos h2]
   have ht := told_put hst ho c
   unfold isolateX
   split
   ·rename_i h; rw [hst] at h; cases h
   ·split <;> exact ⟨ht.levels, ht.classes⟩
  ·have h2' : ¬ (c = 19 ∨ c = 20 ∨ c = 21) := fun h => h2 ((isOpens_cases c).2 h)
   rw [if_neg h2]
   by_cases h3 : c = 22
   ·have hO : ¬ isOut c = true := fun h => by have := (isOut_cases c).1 h; omega
    rw [if_pos h3, if_neg (by omega), if_neg hO, if_neg h2, if_pos h3, endX]
    have ht := told_put he2 (ov_end ho) c
    have hl : (endX0 x).levels = x.levels ∧ (endX0 x).classes = x.classes := by unfold endX0; split <;> (try split) <;> exact ⟨rfl, rfl⟩
    exact ⟨by rw [ht.levels, hl.1], by rw [ht.classes, hl.2]⟩
   ·rw [if_neg h3]
    by_cases h4 : c = 18
    ·have hO : isOut c = true := (isOut_cases c).2 (by omega)
     rw [if_pos h4, if_neg (by omega), if_pos hO]
     unfold backX
     split
     ·rename_i h; rw [hst] at h; cases h
     ·rename_i e' st' h
      rw [hst] at h
      injection h with h3 _
      subst h3
      subst h4
      simp only
      split
      ·exact ⟨rfl, rfl⟩
      ·split
       ·exact ⟨rfl, rfl⟩
       ·split <;> exact ⟨rfl, rfl⟩
    ·rw [if_neg h4]
     by_cases h5 : c = 9
     ·have hO : isOut c = true := (isOut_cases c).2 (by omega)
      rw [if_pos h5, if_neg (by omega), if_pos hO, hst]
      exact ⟨rfl, rfl⟩
     ·rw [if_neg h5]
      by_cases h6 : c = 10
      ·rw [if_pos h6, if_pos h6]; exact ⟨rfl, rfl⟩
      ·have hO : ¬ isOut c = true := fun h => by have := (isOut_cases c).1 h; omega
       rw [if_neg h6, if_neg h6, if_neg hO, if_neg h2, if_neg h3]
       unfold knownI
       split
       ·exact told_put hst ho 0
       ·exact told_put hst ho c
theorem ov_step {x : X6} {k : Nat} (hw : Wf x k) (ho : OvOk x) (l : List Int) (c : Int) : OvOk (stepX l x k c) := by
 obtain ⟨e, st, hst⟩ := hw.top
 have hcore : (stepX l x k c).st = (stepP x.core l k c).st := by rw [← core_step hst l k c]; rfl
 have hpush : ∀ (p : P6) (d o : Int) (i : Bool), (∀ e ∈ p.st, e.over = -1 ∨ e.over = 0 ∨ e.over = 1) → (o = -1 ∨ o = 0 ∨ o = 1) → ∀ e ∈ (pushP p d o i).st, e.over = -1 ∨ e.over = 0 ∨ e.over = 1 := by
  intro p d o i hp hov e he
  unfold pushP at he
  split at he
  ·exact hp e he
  ·split at he
   ·rcases List.mem_cons.1 he with rfl | he
    ·exact hov
    ·exact hp e he
   ·exact hp e he
 have hbeg : ∀ (p : P6) (d o : Int), (∀ e ∈ p.st, e.over = -1 ∨ e.over = 0 ∨ e.over = 1) → (o = -1 ∨ o = 0 ∨ o = 1) → ∀ e ∈ (beginP p d o).st, e.over = -1 ∨ e.over = 0 ∨ e.over = 1 := by
  intro p d o hp hov e he
  unfold beginP at he
  split at he
  ·split at he <;> exact hp e he
  ·exact hpush p d o false hp hov e he
 have hc : ∀ e ∈ x.core.st, e.over = -1 ∨ e.over = 0 ∨ e.over = 1 := ho
 have hend : ∀ e ∈ (endP x.core).st, e.over = -1 ∨ e.over = 0 ∨ e.over = 1 := by
  rw [← core_end x c, endX, core_put]; exact ov_end ho
 intro a ha
 rw [hcore] at ha
 unfold stepP at ha
 split at ha
 ·have : a = ⟨x.core.base, -1, false⟩ := by simpa [resetP] using ha
  rw [this]; exact .inl rfl
 ·split at ha
  ·unfold embedP at ha
   split at ha
   ·exact hbeg _ _ _ hc (by decide) a ha
   ·split at ha
    ·exact hbeg _ _ _ hc (by decide) a ha
    ·split at ha
     ·exact hbeg _ _ _ hc (by decide) a ha
     ·split at ha
      ·exact hbeg _ _ _ hc (by decide) a ha
      ·split at ha
       ·unfold backP at ha
        split at ha
        ·exact hc a ha
        ·split at ha
         ·exact hc a ha
         ·split at ha
          ·exact hc a ha
          ·rename_i e' st' h
           split at ha
           ·exact hc a (by rw [h]; exact List.mem_cons_of_mem _ ha)
           ·exact hc a ha
       ·exact hc a ha
  ·split at ha
   ·unfold isolateP at ha
    split at ha
    ·exact hc a ha
    ·exact hpush _ _ _ _ hc (by decide) a ha
   ·split at ha
    ·exact hend a ha
    ·exact hc a ha
theorem ov_run (l : List Int) (base : Int) : ∀ k, OvOk (runX l base k) := by
 intro k
 induction k with
 | zero =>
  intro e he
  have : e = ⟨if base = 0 then 0 else 1, -1, false⟩ := by simpa [runX, beginX, startX] using he
  rw [this]; exact .inl rfl
 | succ k ih => exact ov_step (wf_run l base k) ih l _
end Go.Proofs.YtcbaahlahohfmaaGreatDoor
namespace Go.Proofs.YtcbaahlahohfmaaGreatDoor
open Go.RowKit
section
variable {w w' W : World} {B : Nat} {e : TypeId} {v : Value} {xs : List Value}
theorem Own.short (h : Own w B e v xs) {j : Nat} (hj : j ≤ xs.length) : ∃ A c, v = .slice A xs.length c ∧ xs.length ≤ c ∧ Own w B e (.slice A j c) (xs.take j) := by
 rcases h.2 with ⟨rfl, hn⟩ | ⟨g, cap, cur, rfl, hg, hh, hc, hm, hs, ht⟩
 ·refine ⟨none, 0, by rw [hn], by omega, ?_⟩
  obtain rfl : j = 0 := by omega
  exact Own.empty _ _ _
 ·refine ⟨_, cap, rfl, hc, ?_⟩
  unfold Own
  rw [List.length_take, Nat.min_eq_left hj]
  refine ⟨by simp; omega, .inr ⟨g, cap, cur, rfl, hg, hh, by omega, hm, hs, ?_⟩⟩
  rw [← ht, List.take_take, Nat.min_eq_left (by omega), Nat.mul_one]
variable {P : Program} {ops : Array Oper} {rest : List Oper} {o : Oper} {a : Act} {Q : Exit → Act → World → Prop}
theorem short_own {t : TypeId} {z : Value} {bytes : Nat} (T : SliceOf P t e z bytes) (W : World) (B : Nat) (x y : Operand) (k : IntKind) (j : Int) (v : Value) (xs : List Value)
 (hgd : o.guard = none) (ho : o.op = .slice t x none (some y) none) (hx : a.eval x = v) (hy : a.eval y = .int k j) (h0 : 0 ≤ j) (hown : Own W B e v xs) (hj : j.toNat ≤ xs.length)
 (h : ∀ v', Own W B e v' (xs.take j.toNat) → v'.ownBlock = v.ownBlock → wpList P ops Q rest (a.put o.dst v') W) :
 wpList P ops Q (o :: rest) a W := by
 obtain ⟨i, hi, hz0, hz1, hz2⟩ := info_parts T.elem
 obtain ⟨A, c, rfl, hlc, hown'⟩ := hown.short hj
 have he : P.elem t = e := by simp [Program.elem, T.slice]
 have hrun := run_slice_h (P := P) (w := W) t A xs.length c (by rw [T.slice, he]) k j h0 (by omega)
 refine wpList_plain hgd fun K' hK' => ?_
 unfold Oper.wp
 simp [execOp, ho, hx, hy, run_sliceAt_slice, T.slice, he, hrun, Result.andThen, sizeOf, typeInfo, hi, hz1, sliced]
 refine hK' _ _ ?_
 have e0 : (if c = 0 then A else Option.map (fun x : Addr => x.add 0) A) = A := by cases A <;> simp [Addr.add]
 rw [e0]
 exact h _ hown' (by cases A <;> rfl)
theorem store_row {t : TypeId} {z : Value} {bytes : Nat} (T : SliceOf P t e z bytes) (W : World) (B : Nat) (x y : Operand) (g j c : Nat) (k : IntKind) (n : Int) (xs : List Value) (w0 : World)
 (hgd : o.guard = none) (hd : o.dst = none) (ho : o.op = .store e x y) (hx : a.eval x = .pointer (some ⟨g, j, none⟩)) (hy : a.eval y = .int k n) (hr : Row W B e g c xs) (hj : j < xs.length) (hb : Below B w0 W)
 (h : ∀ w', Row w' B e g c (xs.set j (.int k n)) → Below B w0 w' → W.grownBy w' (some g) → wpList P ops Q rest a w') :
 wpList P ops Q (o :: rest) a W := by
 have hcell := hr.cell hj
 have hfree := hr.free j
 refine wpList_plain hgd fun K' hK' => ?_
 unfold Oper.wp
 obtain ⟨i, hi, hz0, hz1, hz2⟩ := info_parts T.elem
 simp [execOp, ho, hx, hy, Instr.storeAt, Instr.sureAddr]
 go_simp
 simp only [sizeOf, typeInfo, Sem.run_bind, Sem.run_pure]
 go_simp
 obtain ⟨dst, op, ty, pos, after, guard⟩ := o
 obtain rfl : dst = none := hd
 exact hK' _ _ (h _ (hr.set j _) (Row.setB hb hr j _) (hr.setG j _))
end
theorem Own.inRow {w : World} {B : Nat} {e : TypeId} {v : Value} {xs : List Value} (h : Own w B e v xs) (hn : 0 < xs.length) : ∃ g c, v = .slice (some ⟨g, 0, none⟩) xs.length c ∧ Row w B e g c xs := by
 obtain ⟨g, c, hv, _, _⟩ := World.ownsRow.form h hn
 subst hv
 exact ⟨g, c, rfl, h⟩
theorem Row.drewN {w : World} {B : Nat} {e : TypeId} {g c : Nat} {xs : List Value} (h : Row w B e g c xs) (n : Nat) : Row (w.drewN n) B e g c xs := h
theorem Row.keep {w w' : World} {B : Nat} {e : TypeId} {g c : Nat} {xs : List Value} {row : Option Nat} (h : Row w B e g c xs) (hg : w.grownBy w' row) (hr : row ≠ some g) : Row w' B e g c xs :=
 Own.keep h hg (.inr fun e => hr e.symm)
theorem Own.keepRow {w w' : World} {B : Nat} {e : TypeId} {v : Value} {xs : List Value} {g : Nat} (h : Own w B e v xs) (hg : w.grownBy w' (some g)) (hr : v.ownBlock ≠ some g) : Own w' B e v xs :=
 Own.keep h hg (.inr hr)
theorem ints_set (k : IntKind) (l : List Int) (i : Nat) (n : Int) : (ints k l).set i (.int k n) = ints k (l.set i n) := by
 rw [ints, ints, List.map_set]
theorem fresh_ne {v v' : Value} {W : World} {g : Nat} (h : v.ownBlock ≠ some g) (hg : g < W.heap.size) (hv : v'.ownBlock = v.ownBlock ∨ ∃ q, v'.ownBlock = some q ∧ W.heap.size ≤ q) : v'.ownBlock ≠ some g := by
 rcases hv with hv | ⟨q, hv, hq⟩
 ·rw [hv]; exact h
 ·rw [hv]; intro e; injection e with e; omega
section
variable {P : Program}
variable {ops : Array Oper} {rest : List Oper} {o : Oper} {a : Act} {Q : Exit → Act → World → Prop}
end
end Go.Proofs.YtcbaahlahohfmaaGreatDoor
namespace Go.Proofs.YtcbaahlahohfmaaGreatDoor
open Go.RowKit
def lvs (l : List Int) (base : Int) : List Int := (runX l base l.length).levels
def xcls (l : List Int) (base : Int) : List Int := (runX l base l.length).classes
theorem lvs_length (l : List Int) (base : Int) : (lvs l base).length = l.length := (wf_run l base l.length).levels
theorem xcls_length (l : List Int) (base : Int) : (xcls l base).length = l.length := (wf_run l base l.length).classes
def RowedII (w : World) (xs ys : List Int) (ed : Ending) (w' : World) : Prop :=
 ∃ v1 v2, ed = .returned (.tuple #[v1, v2]) ∧ Own w' w.heap.size 3 v1 (ints .i64 xs) ∧ Own w' w.heap.size 3 v2 (ints .i64 ys) ∧ Below w.heap.size w w'
def RowedIIA (w : World) (n : Nat) (xs ys : List Int) (ed : Ending) (w' : World) : Prop :=
 ∃ g1 g2, ed = .returned (.tuple #[.slice (some ⟨g1, 0, none⟩) n n, .slice (some ⟨g2, 0, none⟩) n n]) ∧ Row w' w.heap.size 3 g1 n (ints .i64 xs) ∧ Row w' w.heap.size 3 g2 n (ints .i64 ys) ∧ g1 ≠ g2 ∧ Below w.heap.size w w'
theorem Own.ofN' {w : World} {B n : Nat} {e : TypeId} {v : Value} {xs : List Value} (h : OwnN w B e 1 v n xs) : Own w B e v xs := Own.ofN h
set_option maxRecDepth 20000 in
set_option maxHeartbeats 2000000 in
theorem rxof_any (A : Option Addr) (l : List Int) (cap : Nat) (base : Int) (w : World) (h : Lies w w.heap.size A (ints .i64 l)) (hl : l.length ≤ 1000000) :
 Calls Tryz.prog 35 #[.slice A l.length cap, .int .i64 base] w fun ed w' => RowedII w (lvs l base) (xcls l base) ed w' := by
 have HC := Lib.hid (went_loop A l cap base w h hl)
 go_enter Tryz.func35, Tryz.ntmps35
 go_wp2_with fail
 refine HC.out.mono ?_
 rintro ed w1 ⟨rfl, ⟨sv, lv, cv, x1⟩, b1⟩
 have X1 := Lib.hid x1
 have B1 := Lib.hid b1
 have h6 := x1.field 6 (by omega)
 have h7 := x1.field 7 (by omega)
 simp only [X6.cells, List.getElem?_cons_succ, List.getElem?_cons_zero] at h6 h7
 obtain ⟨Al, cl, rfl, _, _, _⟩ := x1.levels.form
 obtain ⟨Ac, cc, rfl, _, _, _⟩ := x1.classes.form
 clear x1 b1 h
 go_wp2
 go_region
 go_wp2
 go_ret2
 exact ⟨_, _, rfl, Own.ofN' (X1.out.levels.same rfl), Own.ofN' (X1.out.classes.same rfl), below_drawn B1.out 1⟩
set_option maxRecDepth 20000 in
set_option maxHeartbeats 2000000 in
theorem begin_any (A : Option Addr) (l : List Int) (cap : Nat) (base : Int) (w : World) :
 Calls Tryz.prog 45 #[.slice A l.length cap, .int .i64 base] w fun ed w' => ed = .returned (.pointer (some ⟨w.heap.size, 0, none⟩)) ∧ HasP w' w.heap.size w.heap.size (runX l base 0).core (.slice A l.length cap) ∧ Below w.heap.size w w' := by
 obtain ⟨b, hb⟩ : ∃ b : Int, (if base = 0 then (0 : Int) else 1) = b := ⟨_, rfl⟩
 have HBG : Hid ((runX l base 0).core = resetP ⟨b, [], 0, 0, 0⟩) := Lib.hid (by rw [runX, beginX, hb]; rfl)
 have X0 : Hid (IsP (w.alloc (.cells #[.slice A l.length cap, .int .i64 b, .slice none 0 0, .int .i64 0, .int .i64 0, .int .i64 0] 86)) w.heap.size w.heap.size ⟨b, [], 0, 0, 0⟩ (.slice A l.length cap) (.slice none 0 0)) :=
  Lib.hid ⟨OwnN.ofLit (n := 6) (size := 1) #[.slice A l.length cap, .int .i64 b, .slice none 0 0, .int .i64 0, .int .i64 0, .int .i64 0] (Nat.le_refl _) (by unfold maxLen; omega) rfl, OwnN.empty _ _ _ _⟩
 have B0 := Lib.hid (below_alloc w (.cells #[.slice A l.length cap, .int .i64 b, .slice none 0 0, .int .i64 0, .int .i64 0, .int .i64 0] 86))
 obtain ⟨B, hB⟩ : ∃ B, w.heap.size = B := ⟨_, rfl⟩
 rw [hB] at X0 B0
 have HB := Lib.hid hB
 have hb2 : (b = 0 ∧ base = 0 ∧ (base != 0) = false) ∨ (b = 1 ∧ (base != 0) = true) := by
  by_cases h0 : base = 0
  ·rw [if_pos h0] at hb; exact .inl ⟨hb.symm, h0, by simpa using h0⟩
  ·rw [if_neg h0] at hb; exact .inr ⟨hb.symm, by simpa using h0⟩
 clear hb
 rw [HBG.out]
 rcases hb2 with ⟨rfl, rfl, hb0⟩ | ⟨rfl, hb0⟩
 ·clear hb0
  go_enter Tryz.func45, Tryz.ntmps45
  go_wp2_with fail
  refine (reset_any _ B B _ _ _ X0.out (.inr rfl) (by simp)).mono ?_
  rintro ed w1 ⟨rfl, x1, b1⟩
  have X1 := Lib.hid x1
  have B1 := Lib.hid (B0.out.trans b1)
  clear x1 b1 hB
  go_wp2_with fail
  go_ret
  rw [HB.out]
  exact ⟨rfl, X1.out, B1.out⟩
 ·go_enter Tryz.func45, Tryz.ntmps45
  go_wp2_with fail
  refine (reset_any _ B B _ _ _ X0.out (.inr rfl) (by simp)).mono ?_
  rintro ed w1 ⟨rfl, x1, b1⟩
  have X1 := Lib.hid x1
  have B1 := Lib.hid (B0.out.trans b1)
  clear x1 b1 hB
  go_wp2_with fail
  go_ret
  rw [HB.out]
  exact ⟨rfl, X1.out, B1.out⟩
theorem Row.stay {w w' : World} {B C : Nat} {e : TypeId} {g c : Nat} {xs : List Value} (h : Row w B e g c xs) (hb : Below C w w') (hg : g < C) : Row w' B e g c xs := by
 unfold Row Own at *
 refine ⟨h.1, ?_⟩
 rcases h.2 with h2 | ⟨g', cap, cur, hv, hbg, hh, r⟩
 ·exact .inl h2
 ·refine .inr ⟨g', cap, cur, hv, hbg, ?_, r⟩
  injection hv with h1 _ _
  injection h1 with h1
  injection h1 with h1 _ _
  subst h1
  rw [hb.block g hg]; exact hh
theorem HasP.keep {w w' : World} {B g k : Nat} {p : P6} {lsl : Value} (h : HasP w B g p lsl) (hg : w.grownBy w' (some k)) (hk : k < B) : HasP w' B g p lsl := by
 obtain ⟨sv, h⟩ := h
 have hin := h.inside
 exact ⟨sv, h.row.keep hg (.inr (fun e => by injection e with e; simp at e; omega)), h.stack.keep hg (.inr (fun e => by have := (h.stack.inside _ e).1; omega))⟩
theorem small_core {x : X6} {k : Nat} (h : Wf x k) (hk : k ≤ 1000000) : x.core.Small := by
 have := wf_small h hk
 exact ⟨this.st, this.isos, this.embeds, this.valid⟩
theorem ends_core {x : X6} {k : Nat} (h : Wf x k) : ∃ e2 st2, (endP x.core).st = e2 :: st2 := by
 obtain ⟨⟨e2, st2, he⟩, _⟩ := wf_end (c := 0) h
 exact ⟨e2, st2, by rw [← core_end x 0, endX, core_put]; exact he⟩
section
variable {P : Program} {ops : Array Oper} {o : Oper} {a : Act} {K : Act → World → Prop} {Q : Exit → Act → World → Prop} {E : Prop}
theorem step_make {t e : TypeId} {z : Value} {bytes : Nat} (T : SliceOf P t e z bytes) (w0 W : World) (B : Nat) (x y : Operand) (kl kc : IntKind) (n : Nat)
 (hgd : o.guard = none) (ho : o.op = .makeSlice t x y) (hx : a.eval x = .int kl (n : Int)) (hy : a.eval y = .int kc (n : Int)) (hz : z.cells = #[z]) (hb : Below B w0 W) (hB : B ≤ W.heap.size) (hn : bytes * n ≤ 281474976710656) (hm : n ≤ maxLen)
 (h : ∀ w', Row w' B e W.heap.size n (List.replicate n z) → Below B w0 w' → W.grownBy w' none → K (a.put o.dst (.slice (some ⟨W.heap.size, 0, none⟩) n n)) w') :
 if Region.wanted o (yielded ops a.tmps) = true then Oper.wp P o a W K Q else E := by
 have hw : Region.wanted o (yielded ops a.tmps) = true := by simp [Region.wanted, hgd]
 rw [if_pos hw]
 obtain ⟨i, hi, hz0, hz1, hz2⟩ := info_parts T.elem
 obtain ⟨w', hrun, r1, r2⟩ := run_make_full (P := P) W B t e i z 1 T.slice hi hz0 hz1 kl kc n (by rw [hz2]; exact hn) hm hB
 unfold Oper.wp
 simp [execOp, ho, hx, hy, hrun, Result.andThen]
 refine h w' ?_ (hb.grown r2 hB (fun k hk => by cases hk)) r2
 rw [hz, Nat.mul_one, toList_madeCells_one] at r1
 unfold Row Own
 simpa using r1
end
set_option maxRecDepth 20000 in
set_option maxHeartbeats 4000000 in
theorem xof_anyA (A : Option Addr) (l : List Int) (cap : Nat) (base : Int) (w : World) (hT : ClsTabs w) (h : Lies w w.heap.size A (ints .i64 l)) (hl : l.length ≤ 1000000) (hcap : l.length ≤ cap) :
 Calls Tryz.prog 29 #[.slice A l.length cap, .int .i64 base] w fun ed w' => RowedIIA w l.length (lvs l base) (xcls l base) ed w' := by
 have HL := Lib.hid h
 have HT := Lib.hid hT
 obtain ⟨n, hn⟩ : ∃ n, l.length = n := ⟨_, rfl⟩
 have HN := Lib.hid hn
 rw [hn] at hl hcap ⊢
 clear h hT
 go_enter Tryz.func29, Tryz.ntmps29
 go_upto_region 1 with fail
 go_cut [4, 5] (fun v1 v2 wx => ∃ g1 g2, v1 = .slice (some ⟨g1, 0, none⟩) n n ∧ v2 = .slice (some ⟨g2, 0, none⟩) n n ∧ g1 ≠ g2 ∧ Row wx w.heap.size 3 g1 n (List.replicate n (.int .i64 0)) ∧ Row wx w.heap.size 3 g2 n (List.replicate n (.int .i64 0)) ∧ Below w.heap.size w wx)
 case first =>
  refine wp_region_E (S := fun _ => True) [] (by kernel_rfl) (trivial) (fun hHeld hZ => ?_)
  refine' eY 0 hHeld hZ fun hZ => ?_
  try simp only [Act.put,ZA,ZB,ZD,ZE,ZF]
  refine' eY 1 hHeld hZ fun hZ => ?_
  try simp only [Act.put,ZA,ZB,ZC,ZD,ZE,ZF]
  refine' eY 3 hHeld hZ fun hZ => ?_
  try simp only [Act.put,ZA,ZB,ZC,ZD,ZE,ZF]
  refine' eY 4 hHeld hZ fun hZ => ?_
  try simp only [Act.put,ZA,ZB,ZC,ZD,ZE,ZF]
  refine wpAnyE_ready (rs := [2, 5]) (by kernel_rfl) (by simp) ?_
  refine AllReadyE.cons rfl (fun K hK => ?_) (AllReadyE.cons rfl (fun K hK => ?_) AllReadyE.nil)
  ·refine step_make intsT w _ w.heap.size (.tmp 9) (.tmp 9) .i64 .i64 n rfl rfl rfl rfl rfl (by exact below_same (Below.refl _ _) rfl rfl rfl rfl) (by exact Nat.le_refl _) (by omega) (by unfold maxLen; omega) ?_
   intro w1 r1 b1 g1
   have R1 := Lib.hid r1
   have B1 := Lib.hid b1
   clear r1 b1 g1
   refine eB hK hZ (trivial) fun hHeld hZ => ?_
   clear hK K
   try simp only [Act.put,ZA,ZB,ZC,ZD,ZE,ZF]
   refine' eX 6 hZ fun hZ => ?_
   try simp only [Act.put,ZA,ZB,ZC,ZD,ZE,ZF]
   refine eA 5 fun K hK => ?_
   refine step_make intsT w w1 w.heap.size (.tmp 12) (.tmp 12) .i64 .i64 n rfl rfl rfl rfl rfl B1.out B1.out.size (by omega) (by unfold maxLen; omega) ?_
   intro w2 r2 b2 g2
   have R2 := Lib.hid r2
   have B2 := Lib.hid b2
   have R12 := Lib.hid (R1.out.keep g2 (by simp))
   have HNE : Hid (w.drew.heap.size ≠ w1.heap.size) := Lib.hid (by have := R1.out.inside; omega)
   clear r2 b2 g2
   refine eB hK hZ (trivial) fun hHeld hZ => ?_
   clear hK K
   try simp only [Act.put,ZA,ZB,ZC,ZD,ZE,ZF]
   refine' eX 7 hZ fun hZ => ?_
   try simp only [Act.put,ZA,ZB,ZC,ZD,ZE,ZF]
   refine wpAnyE_done (by kernel_rfl) ?_ _
   clear hZ
   go_wp2_with fail
   go_meet
   exact ⟨_, _, rfl, rfl, HNE.out, R12.out, R2.out, B2.out⟩
  ·refine step_make intsT w _ w.heap.size (.tmp 12) (.tmp 12) .i64 .i64 n rfl rfl rfl rfl rfl (by exact below_same (Below.refl _ _) rfl rfl rfl rfl) (by exact Nat.le_refl _) (by omega) (by unfold maxLen; omega) ?_
   intro w1 r1 b1 g1
   have R1 := Lib.hid r1
   have B1 := Lib.hid b1
   clear r1 b1 g1
   refine eB hK hZ (trivial) fun hHeld hZ => ?_
   clear hK K
   try simp only [Act.put,ZA,ZB,ZC,ZD,ZE,ZF]
   refine eA 2 fun K hK => ?_
   refine step_make intsT w w1 w.heap.size (.tmp 9) (.tmp 9) .i64 .i64 n rfl rfl rfl rfl rfl B1.out B1.out.size (by omega) (by unfold maxLen; omega) ?_
   intro w2 r2 b2 g2
   have R2 := Lib.hid r2
   have B2 := Lib.hid b2
   have R12 := Lib.hid (R1.out.keep g2 (by simp))
   have HNE : Hid (w1.heap.size ≠ w.drew.heap.size) := Lib.hid (by have := R1.out.inside; omega)
   clear r2 b2 g2
   refine eB hK hZ (trivial) fun hHeld hZ => ?_
   clear hK K
   try simp only [Act.put,ZA,ZB,ZC,ZD,ZE,ZF]
   refine' eX 6 hZ fun hZ => ?_
   try simp only [Act.put,ZA,ZB,ZC,ZD,ZE,ZF]
   refine' eX 7 hZ fun hZ => ?_
   try simp only [Act.put,ZA,ZB,ZC,ZD,ZE,ZF]
   refine wpAnyE_done (by kernel_rfl) ?_ _
   clear hZ
   go_wp2_with fail
   go_meet
   exact ⟨_, _, rfl, rfl, HNE.out, R2.out, R12.out, B2.out⟩
 case rest =>
  obtain ⟨g1, g2, rfl, rfl, hne, r1, r2, bc⟩ := hcut
  have R1 := Lib.hid r1
  have R2 := Lib.hid r2
  have BC := Lib.hid bc
  have HNE := Lib.hid hne
  have HBG : Hid (g1 < wc.heap.size ∧ g2 < wc.heap.size) := Lib.hid ⟨r1.inside.2, r2.inside.2⟩
  clear r1 r2 bc hne
  go_wp2_with fail
  have hbg := begin_any A l cap base wc
  rw [HN.out] at hbg
  refine hbg.mono ?_
  clear hbg
  rintro ed w1 ⟨rfl, x1, b1⟩
  have X1 := Lib.hid x1
  have B1 : Hid (Below w.heap.size w w1) := Lib.hid (below_then BC.out b1)
  have R11 := Lib.hid (R1.out.below b1 (Nat.le_refl _))
  have R21 := Lib.hid (R2.out.below b1 (Nat.le_refl _))
  obtain ⟨C, hC⟩ : ∃ C, wc.heap.size = C := ⟨_, rfl⟩
  rw [hC] at X1 HBG
  have HC1 : Hid (w.heap.size ≤ C) := Lib.hid (hC ▸ BC.out.size)
  rw [hC]
  clear x1 b1 hC
  go_wp2_with fail
  go_loopw [19] (fun iv wr => ∃ k : Nat, k ≤ n ∧ iv = .int .i64 k ∧ Row wr w.heap.size 3 g1 n (ints .i64 (runX l base k).levels ++ List.replicate (n - k) (.int .i64 0)) ∧ Row wr w.heap.size 3 g2 n (ints .i64 (runX l base k).classes ++ List.replicate (n - k) (.int .i64 0)) ∧ HasP wr C C (runX l base k).core (.slice A n cap) ∧ Below w.heap.size w wr) (fun iv _ => n - (intOf iv).toNat)
  case atStart => exact ⟨0, by omega, rfl, R11.out, R21.out, X1.out, B1.out⟩
  case round =>
   obtain ⟨k, hk, rfl, r1, r2, hx, hb⟩ := hrel
   have HX := Lib.hid hx
   have BW := Lib.hid hb
   have RA := Lib.hid r1
   have RB := Lib.hid r2
   clear hx hb r1 r2
   by_cases hlt : k < n
   ·obtain ⟨x, hx⟩ : ∃ x, runX l base k = x := ⟨_, rfl⟩
    have HWF : Hid (Wf x k) := Lib.hid (hx ▸ wf_run l base k)
    have HOV : Hid (OvOk x) := Lib.hid (hx ▸ ov_run l base k)
    have hkl : k < l.length := by have := HN.out; omega
    obtain ⟨c, hc⟩ : ∃ c, l[k] = c := ⟨_, rfl⟩
    have HS : Hid (runX l base (k + 1) = stepX l x k c) := Lib.hid (by rw [runX, hx, at0_eq hkl, hc])
    obtain ⟨e, st, hst⟩ := HWF.out.top
    have HTO := Lib.hid (told_step HWF.out HOV.out l c)
    rw [hx] at HX RA RB
    obtain ⟨r, hr⟩ : ∃ r, tellP x.core c = r := ⟨_, rfl⟩
    have HR := Lib.hid hr
    have CT : Hid (Ctx wr C A l) := Lib.hid ⟨HT.out.below BW.out HT.out.big, by have := HT.out.big; have := HC1.out; omega, (HL.out.below BW.out).wider HC1.out⟩
    have HCO := Lib.hid (core_step hst l k c)
    have hstep := step_any wr C C x.core A l cap k hkl c hc e st hst (by rw [HN.out]; exact HX.out) (small_core HWF.out (by omega)) CT.out (by have := HN.out; omega) (by have := HN.out; omega) (ends_core HWF.out)
    rw [hr, HN.out] at hstep
    have HSTEP := Lib.hid hstep
    have b0 : (0 : Int) ≤ (k : Int) := by omega
    have b1 : (k : Int) < (n : Int) := by omega
    have HWL : Hid (x.levels.length = k) := Lib.hid HWF.out.levels
    have HWC : Hid (x.classes.length = k) := Lib.hid HWF.out.classes
    have hNR : (List.replicate n (Value.int .i64 0)).length = n := by simp
    clear hx hc hst hr hstep
    go_wp2_with fail
    refine HSTEP.out.mono ?_
    rintro ed w2 ⟨rfl, x2, b2⟩
    have X2 := Lib.hid x2
    have B2 := Lib.hid (BW.out.trans (b2.mono HC1.out))
    have RA2 := Lib.hid (RA.out.stay b2 HBG.out.1)
    have RB2 := Lib.hid (RB.out.stay b2 HBG.out.2)
    clear x2 b2
    go_wp2_with (first
     | (refine store_row intsT w2 w.heap.size _ _ g1 k n .i64 r.1 _ w rfl rfl rfl rfl rfl RA2.out (by have := HWL.out; simp; omega) B2.out ?_; intro w3 r3 b3 g3; have RA3 := Lib.hid r3; have RB3 := Lib.hid (RB2.out.keep g3 (fun e => HNE.out (Option.some.inj e))); have X3 := Lib.hid (X2.out.keep g3 HBG.out.1); have B3 := Lib.hid b3; clear r3 b3 g3)
     | (refine store_row intsT w3 w.heap.size _ _ g2 k n .i64 r.2 _ w rfl rfl rfl rfl rfl RB3.out (by have := HWC.out; simp; omega) B3.out ?_; intro w4 r4 b4 g4; have RB4 := Lib.hid r4; have RA4 := Lib.hid (RA3.out.keep g4 (fun e => HNE.out (Option.some.inj e).symm)); have X4 := Lib.hid (X3.out.keep g4 HBG.out.2); have B4 := Lib.hid b4; clear r4 b4 g4)
     | fail)
    go_roundw
    case rel => exact ⟨k + 1, by omega, by go_num, by
     have := RA4.out
     rw [fill_list (by simpa using HWL.out) hlt] at this
     rw [HS.out, HTO.out.levels, HR.out]
     simpa [ints] using this, by
     have := RB4.out
     rw [fill_list (by simpa using HWC.out) hlt] at this
     rw [HS.out, HTO.out.classes, HR.out]
     simpa [ints] using this, by rw [HS.out, HCO.out]; exact X4.out, B4.out⟩
    case measure => simp [intOf]; omega
   ·obtain rfl : k = n := by omega
    go_wp2_with fail
    go_ret2
    have h1 := RA.out
    have h2 := RB.out
    rw [Nat.sub_self, List.replicate_zero, List.append_nil] at h1 h2
    have HNk := HN.out
    exact ⟨g1, g2, rfl, by unfold lvs; rw [HNk]; exact h1, by unfold xcls; rw [HNk]; exact h2, HNE.out, BW.out⟩
end Go.Proofs.YtcbaahlahohfmaaGreatDoor
namespace Go.Proofs.YtcbaahlahohfmaaGreatDoor
open Go.RowKit
theorem run_told (l : List Int) (base : Int) (k : Nat) : Told (runX l base k) (runX l base (k + 1)) (tellP (runX l base k).core (at0 l k)) := by
 rw [runX]; exact told_step (wf_run l base k) (ov_run l base k) l _
theorem run_get (l : List Int) (base : Int) (k : Nat) : ∀ m, k < m → (runX l base m).levels[k]? = some (tellP (runX l base k).core (at0 l k)).1 ∧ (runX l base m).classes[k]? = some (tellP (runX l base k).core (at0 l k)).2 := by
 intro m
 induction m with
 | zero => intro h; omega
 | succ m ih =>
  intro h
  have ht := run_told l base m
  have h1 := (wf_run l base m).levels
  have h2 := (wf_run l base m).classes
  rw [ht.levels, ht.classes]
  by_cases hk : k = m
  ·subst hk
   rw [List.getElem?_append_right (by omega), List.getElem?_append_right (by omega), h1, h2, Nat.sub_self]
   exact ⟨rfl, rfl⟩
  ·rw [List.getElem?_append_left (by omega), List.getElem?_append_left (by omega)]
   exact ih (by omega)
theorem lvs_at (l : List Int) (base : Int) (k : Nat) (h : k < l.length) (h1 : k < (lvs l base).length) : (lvs l base)[k] = (tellP (runX l base k).core l[k]).1 := by
 have := (run_get l base k l.length h).1
 rw [at0_eq h] at this
 have h2 : (lvs l base)[k]? = some (lvs l base)[k] := List.getElem?_eq_getElem h1
 unfold lvs at h2 ⊢
 rw [this] at h2
 exact (Option.some.inj h2).symm
theorem xcls_at (l : List Int) (base : Int) (k : Nat) (h : k < l.length) (h1 : k < (xcls l base).length) : (xcls l base)[k] = (tellP (runX l base k).core l[k]).2 := by
 have := (run_get l base k l.length h).2
 rw [at0_eq h] at this
 have h2 : (xcls l base)[k]? = some (xcls l base)[k] := List.getElem?_eq_getElem h1
 unfold xcls at h2 ⊢
 rw [this] at h2
 exact (Option.some.inj h2).symm
theorem core_base {x : X6} {k : Nat} (hw : Wf x k) (l : List Int) (c : Int) : (stepX l x k c).base = x.base := by
 obtain ⟨e, st, hst⟩ := hw.top
 have h : (stepX l x k c).base = (stepP x.core l k c).base := by rw [← core_step hst l k c]; rfl
 have hpush : ∀ (p : P6) (d o : Int) (i : Bool), (pushP p d o i).base = p.base := by intro p d o i; unfold pushP; split <;> (try split) <;> rfl
 have hbeg : ∀ (p : P6) (d o : Int), (beginP p d o).base = p.base := by
  intro p d o
  unfold beginP
  split
  ·split <;> rfl
  ·exact hpush _ _ _ _
 rw [h]
 show _ = x.core.base
 unfold stepP
 split
 ·rfl
 ·split
  ·unfold embedP
   repeat' split
   all_goals first | rfl | exact hbeg _ _ _ | (unfold backP; repeat' split) <;> rfl
  ·split
   ·unfold isolateP
    split
    ·rfl
    ·exact hpush _ _ _ _
   ·split
    ·unfold endP; repeat' split
     all_goals rfl
    ·rfl
theorem base_run (l : List Int) (base : Int) : ∀ k, (runX l base k).base = if base = 0 then 0 else 1 := by
 intro k
 induction k with
 | zero => rfl
 | succ k ih => rw [runX, core_base (wf_run l base k)]; exact ih
theorem out_known {c : Int} (h : isOut c = false) : isOut (knownI c) = false := by
 unfold knownI; split
 ·decide
 ·exact h
theorem out_over {e : Ent} (ho : e.over = -1 ∨ e.over = 0 ∨ e.over = 1) {c : Int} (h : isOut c = false) : isOut (overE e c) = false := by
 unfold overE
 rcases ho with ho | ho | ho <;> rw [ho]
 ·rw [if_pos rfl]; exact h
 ·rw [if_neg (by decide)]; decide
 ·rw [if_neg (by decide)]; decide
theorem tell_facts {x : X6} {k : Nat} (hw : Wf x k) (ho : OvOk x) (c : Int) : x.base ≤ (tellP x.core c).1 ∧ (tellP x.core c).1 ≤ 125 ∧ isOut (tellP x.core c).2 = isOut c ∧ (c = 10 → (tellP x.core c).1 = x.base) := by
 obtain ⟨e, st, hst⟩ := hw.top
 obtain ⟨⟨e2, st2, he2⟩, _⟩ := wf_end (c := c) hw
 have hr := hw.rng e (by rw [hst]; simp)
 have hr2 : x.base ≤ e2.lev ∧ e2.lev ≤ 125 := by
  have hm : (endX0 x).base = x.base := by
   unfold endX0
   repeat' split
   all_goals rfl
  have := hw.ended.rng e2 (by show e2 ∈ (endX0 x).st; rw [he2]; simp)
  exact ⟨by have h1 := this.1; show x.base ≤ e2.lev; rw [← hm]; exact h1, this.2⟩
 have hov := ho e (by rw [hst]; simp)
 have hov2 := ov_end ho e2 (by rw [he2]; simp)
 have hb := hw.base
 have hes : (endP x.core).st = e2 :: st2 := by rw [← core_end x c, endX, core_put]; exact he2
 have hcs : x.core.st = e :: st := hst
 unfold tellP
 rw [hcs]
 simp only [hes]
 have hcb : x.core.base = x.base := rfl
 rw [hcb]
 split
 ·exact ⟨Int.le_refl _, by show x.base ≤ 125; omega, rfl, fun _ => rfl⟩
 ·rename_i h10
  split
  ·exact ⟨hr.1, hr.2, rfl, fun h => absurd h h10⟩
  ·rename_i hO
   have hO : isOut c = false := by simpa using hO
   split
   ·exact ⟨hr.1, hr.2, by rw [out_over hov hO, hO], fun h => absurd h h10⟩
   ·split
    ·exact ⟨hr2.1, hr2.2, by rw [out_over hov2 hO, hO], fun h => absurd h h10⟩
    ·exact ⟨hr.1, hr.2, by rw [out_over hov (out_known hO), hO], fun h => absurd h h10⟩
end Go.Proofs.YtcbaahlahohfmaaGreatDoor
namespace Go.Proofs.YtcbaahlahohfmaaGreatDoor
open Go.RowKit
def seenN (l : List Int) (k : Nat) : List Int := ((List.range k).filter fun i => !isOut (l.getD i 0)).map fun (i : Nat) => (i : Int)
def seenI (l : List Int) : List Int := seenN l l.length
theorem seenN_succ (l : List Int) (k : Nat) (h : k < l.length) : seenN l (k + 1) = if isOut l[k] then seenN l k else seenN l k ++ [(k : Int)] := by
 unfold seenN
 have hg : l.getD k 0 = l[k] := by simp [h]
 have hf : ([k].filter fun i => !isOut (l.getD i 0)) = if isOut l[k] then [] else [k] := by
  rw [List.filter_cons, hg]
  cases isOut l[k] <;> rfl
 rw [List.range_succ, List.filter_append, List.map_append, hf]
 split
 ·simp
 ·rfl
theorem seenN_le (l : List Int) (k : Nat) : (seenN l k).length ≤ k := by
 unfold seenN
 rw [List.length_map]
 have := List.length_filter_le (fun i => !isOut (l.getD i 0)) (List.range k)
 rw [List.length_range] at this
 exact this
set_option maxHeartbeats 2000000 in
theorem rseen8_any (A : Option Addr) (l : List Int) (c : Nat) (w : World) (h : Lies w w.heap.size A (ints .i64 l)) (hl : l.length ≤ 1000000) :
 Calls Tryz.prog 112 #[.slice A l.length c] w fun ed w' => Rowed w w.heap.size 3 (ints .i64 (seenI l)) ed w' := by
 have H := Lib.hid h
 clear h
 go_enter Tryz.func112, Tryz.ntmps112
 go_wp2
 go_loopw [4, 3] (fun iv ov wr => ∃ k : Nat, k ≤ l.length ∧ iv = .int .i64 k ∧ Own wr w.heap.size 3 ov (ints .i64 (seenN l k)) ∧ Below w.heap.size w wr) (fun iv _ _ => l.length - (intOf iv).toNat)
 case atStart => exact ⟨0, by omega, rfl, Own.empty _ _ _, Below.refl _ _⟩
 case round =>
  obtain ⟨k, hk, rfl, ho, hb⟩ := hrel
  have HO := Lib.hid ho
  have HB := Lib.hid hb
  clear ho hb
  by_cases hlt : k < l.length
  ·obtain ⟨p, rfl, _, hcl⟩ := (H.out.below HB.out).int hlt
   obtain ⟨x, hx⟩ : ∃ x, l[k] = x := ⟨_, rfl⟩
   have HS := Lib.hid (seenN_succ l k hlt)
   rw [hx] at hcl HS
   have hle := seenN_le l k
   have b0 : (0 : Int) ≤ (k : Int) := by omega
   have b1 : (k : Int) < (l.length : Int) := by omega
   clear hx
   rcases hoc : isOut x with _ | _
   ·have HOC := Lib.hid hoc
    clear hoc
    go_wp2_with fail
    refine (rout_any x _).mono ?_
    rintro e wq ⟨rfl, rfl⟩
    rw [HOC.out]
    go_wp2_with (first
     | (at_builtin; refine app_lit intsT w wr w.heap.size _ _ #[.int .i64 (k : Int)] 1 _ _ rfl rfl rfl rfl HO.out (by simp [Value.oneCell']) HB.out HB.out.size (by unfold maxLen; simp; omega) (by simp; omega) ?_; intro v2 w2 o2 b2 _ _; have O2 := Lib.hid o2; have B2 := Lib.hid b2; clear o2 b2)
     | fail)
    go_roundw
    case rel => exact ⟨k + 1, by omega, by go_num, by rw [HS.out, HOC.out, if_neg (by simp)]; simpa [ints] using O2.out, B2.out⟩
    case measure => simp [intOf]; omega
   ·have HOC := Lib.hid hoc
    clear hoc
    go_wp2_with fail
    refine (rout_any x _).mono ?_
    rintro e wq ⟨rfl, rfl⟩
    rw [HOC.out]
    go_wp2_with fail
    go_roundw
    case rel => exact ⟨k + 1, by omega, by go_num, by rw [HS.out, HOC.out, if_pos rfl]; exact HO.out, HB.out⟩
    case measure => simp [intOf]; omega
  ·obtain rfl : k = l.length := by omega
   go_wp2
   go_ret
   exact ⟨_, rfl, HO.out, HB.out⟩
def dirL (k : Int) : Int := if k % 2 = 0 then 0 else 1
theorem tmod_dir (k : Int) : (Int.tmod k 2 = 0) ↔ k % 2 = 0 := ⟨fun h => Int.emod_eq_zero_of_dvd (Int.dvd_of_tmod_eq_zero h), fun h => Int.tmod_eq_zero_of_dvd (Int.dvd_of_emod_eq_zero h)⟩
theorem rdir8_any (k : Int) (w : World) : Calls Tryz.prog 69 #[.int .i64 k] w fun e w' => e = .returned (.int .i64 (dirL k)) ∧ w = w' := by
 rcases h : (Int.tmod k 2 != 0) with _ | _
 ·have hz : dirL k = 0 := by rw [dirL, if_pos ((tmod_dir k).1 (by simpa using h))]
  rw [hz]
  go_enter Tryz.func69, Tryz.ntmps69
  go_wp2
  go_ret
  exact ⟨rfl, rfl⟩
 ·have hz : dirL k = 1 := by rw [dirL, if_neg (fun e => by rw [(tmod_dir k).2 e] at h; simp at h)]
  rw [hz]
  go_enter Tryz.func69, Tryz.ntmps69
  go_wp2
  go_ret
  exact ⟨rfl, rfl⟩
end Go.Proofs.YtcbaahlahohfmaaGreatDoor
