/- Shared texts, shaken for one claim. -/
import Derived.Deep.RegionHeld3
import Derived.Test.YtadfleopbpomfaaZA1
import Derived.Test.YtadfleopbpomfaaZA2
import Derived.Test.YtadfleopbpomfaaZA4
import Derived.Test.YtadfleopbpomfaaZA7
import Derived.Test.YtadfleopbpomfaaZA10
import Derived.Test.YtadfleopbpomfaaZA12
namespace Go.Proofs.Ytadfleopbpomfaa
open Go.RowKit
def X6.core (x : X6) : P6 := ⟨x.base, x.st, x.isos, x.embeds, x.valid⟩
def OvOk (x : X6) : Prop := ∀ e ∈ x.st, e.over = -1 ∨ e.over = 0 ∨ e.over = 1
theorem overE_eq {e : Ent} (h : e.over = -1 ∨ e.over = 0 ∨ e.over = 1) (c : Int) : (if 0 ≤ e.over then e.over else c) = overE e c := by
 unfold overE
 rcases h with h | h | h <;> rw [h] <;> simp
theorem isOut_cases (c : Int) : isOut c = true ↔ c = 14 ∨ c = 15 ∨ c = 16 ∨ c = 17 ∨ c = 18 ∨ c = 9 := by simp [isOut]
theorem isOpens_cases (c : Int) : isOpens c = true ↔ c = 19 ∨ c = 20 ∨ c = 21 := by simp [isOpens]
theorem core_put (x : X6) (c : Int) : (putX x c).core = x.core := by unfold putX; split <;> rfl
theorem fits_core (x : X6) (n : Int) : fitsX x n = (decide (n ≤ 125) && !overP x.core) := by
 unfold fitsX overP X6.core
 cases h1 : x.isos <;> cases h2 : x.embeds <;> simp <;> omega
theorem core_embed {x : X6} {e : Ent} {st : List Ent} (hst : x.st = e :: st) (c : Int) :
 (embedX x c).core = beginP x.core (dirOf c) (overOf c) := by
 have hcs : x.core.st = e :: st := hst
 have hF : fitP x.core (dirOf c) = decide (nextL e.lev (dirOf c) ≤ 125) := by unfold fitP; rw [hcs]
 have hU : pushP x.core (dirOf c) (overOf c) false = if nextL e.lev (dirOf c) ≤ 125 then { x.core with st := ⟨nextL e.lev (dirOf c), overOf c, false⟩ :: x.core.st } else x.core := by unfold pushP; rw [hcs]
 unfold embedX beginP
 split
 ·rename_i h; rw [hst] at h; cases h
 ·rename_i e' st' h
  rw [hst] at h
  injection h with h1 h2
  subst h1
  simp only
  rw [fits_core, hF, hU]
  have hc : ({ x with levels := x.levels ++ [e.lev], classes := x.classes ++ [c] } : X6).core = x.core := rfl
  rw [hc]
  cases hO : overP x.core with
  | true =>
   simp only [Bool.not_true, Bool.and_false, Bool.true_or, if_true]
   rw [if_neg (by simp)]
   by_cases h0 : x.isos = 0
   ·rw [if_pos h0, if_pos (show x.core.isos = 0 from h0)]; rfl
   ·rw [if_neg h0, if_neg (show ¬ x.core.isos = 0 from h0)]; rfl
  | false =>
   have hi : x.isos = 0 := by unfold overP X6.core at hO; simp at hO; omega
   by_cases hn : nextL e.lev (dirOf c) ≤ 125
   ·rw [if_pos (by simp [hn]), if_neg (by simp [hn]), if_pos hn]; rfl
   ·rw [if_neg (show ¬ (decide (nextL e.lev (dirOf c) ≤ 125) && !false) = true by simp [hn]), if_pos (show (false || !decide (nextL e.lev (dirOf c) ≤ 125)) = true by simp [hn]), if_pos hi, if_pos (show x.core.isos = 0 from hi)]; rfl
theorem core_isolate {x : X6} {e : Ent} {st : List Ent} (hst : x.st = e :: st) (l : List Int) (i c : Int) :
 (isolateX x l i c).core = isolateP x.core l i := by
 have hcs : x.core.st = e :: st := hst
 have hF : fitP x.core (isolate l i) = decide (nextL e.lev (isolate l i) ≤ 125) := by unfold fitP; rw [hcs]
 have hU : pushP x.core (isolate l i) (-1) true = if nextL e.lev (isolate l i) ≤ 125 then { x.core with st := ⟨nextL e.lev (isolate l i), -1, true⟩ :: x.core.st } else x.core := by unfold pushP; rw [hcs]
 have hp := core_put x c
 obtain ⟨p1, p2, p3, p4⟩ := putX_st x c
 unfold isolateX isolateP
 split
 ·rename_i h; rw [hst] at h; cases h
 ·rename_i e' st' h
  rw [hst] at h
  injection h with h1 h2
  subst h1
  rw [fits_core, hp, hF, hU]
  cases hO : overP x.core with
  | true =>
   simp only [Bool.not_true, Bool.and_false, Bool.true_or, if_true]
   rw [if_neg (by simp)]
   show P6.mk _ _ _ _ _ = P6.mk _ _ _ _ _
   rw [p1, p2, p3, p4]
   have : (putX x c).base = x.base := congrArg P6.base hp
   rw [this]; rfl
  | false =>
   by_cases hn : nextL e.lev (isolate l i) ≤ 125
   ·rw [if_pos (by simp [hn]), if_neg (by simp [hn]), if_pos hn]
    show P6.mk _ _ _ _ _ = P6.mk _ _ _ _ _
    have : (putX x c).base = x.base := congrArg P6.base hp
    show P6.mk (putX x c).base (_ :: (putX x c).st) (putX x c).isos (putX x c).embeds ((putX x c).valid + 1) = _
    rw [p1, p2, p3, p4, this]; rfl
   ·rw [if_neg (by simp [hn]), if_pos (by simp [hn])]
    show P6.mk (putX x c).base (putX x c).st ((putX x c).isos + 1) (putX x c).embeds (putX x c).valid = _
    have : (putX x c).base = x.base := congrArg P6.base hp
    rw [p1, p2, p3, p4, this]; rfl
theorem core_end (x : X6) (c : Int) : (endX x c).core = endP x.core := by
 rw [endX, core_put]
 unfold endX0 endP
 by_cases h : 0 < x.isos
 ·rw [if_pos h, if_pos (show 0 < x.core.isos from h)]; rfl
 ·rw [if_neg h, if_neg (show ¬ 0 < x.core.isos from h)]
  by_cases h2 : 0 < x.valid
  ·rw [if_pos h2, if_pos (show 0 < x.core.valid from h2)]; rfl
  ·rw [if_neg h2, if_neg (show ¬ 0 < x.core.valid from h2)]
theorem core_back {x : X6} {e : Ent} {st : List Ent} (hst : x.st = e :: st) : (backX x).core = backP x.core := by
 have hB : backP x.core = if 0 < x.isos then x.core else if 0 < x.embeds then { x.core with embeds := x.embeds - 1 } else if e.iso = false ∧ 1 ≤ st.length then { x.core with st := st } else x.core := by
  have hcs : x.core.st = e :: st := hst
  unfold backP
  by_cases h : 0 < x.core.isos
  ·rw [if_pos h, if_pos (show 0 < x.isos from h)]
  ·rw [if_neg h, if_neg (show ¬ 0 < x.isos from h)]
   by_cases h2 : 0 < x.core.embeds
   ·rw [if_pos h2, if_pos (show 0 < x.embeds from h2)]; rfl
   ·rw [if_neg h2, if_neg (show ¬ 0 < x.embeds from h2), hcs]
 rw [hB]
 unfold backX
 split
 ·rename_i h; rw [hst] at h; cases h
 ·rename_i e' st' h
  rw [hst] at h
  injection h with h1 h2
  subst h1
  subst h2
  simp only
  by_cases h : 0 < x.isos
  ·rw [if_pos h, if_pos h]; rfl
  ·rw [if_neg h, if_neg h]
   by_cases h2 : 0 < x.embeds
   ·rw [if_pos h2, if_pos h2]; rfl
   ·rw [if_neg h2, if_neg h2]
    by_cases h3 : e.iso = false ∧ 1 ≤ st.length
    ·rw [if_pos h3, if_pos h3]; rfl
    ·rw [if_neg h3, if_neg h3]; rfl
theorem core_step {x : X6} {e : Ent} {st : List Ent} (hst : x.st = e :: st) (l : List Int) (i : Nat) (c : Int) : (stepX l x i c).core = stepP x.core l i c := by
 unfold stepX stepP
 by_cases h1 : c = 16 ∨ c = 14 ∨ c = 17 ∨ c = 15
 ·have hO : isOut c = true := (isOut_cases c).2 (by omega)
  rw [if_pos h1, if_neg (by omega), if_pos hO, core_embed hst]
  unfold embedP
  rcases h1 with h | h | h | h <;> subst h <;> simp [dirOf, overOf]
 ·rw [if_neg h1]
  by_cases h2 : isOpens c = true
  ·have h2' := (isOpens_cases c).1 h2
   have hO : ¬ isOut c = true := fun h => by have := (isOut_cases c).1 h; omega
   rw [if_pos h2, if_neg (by omega), if_neg hO, if_pos h2, core_isolate hst]
  ·have h2' : ¬ (c = 19 ∨ c = 20 ∨ c = 21) := fun h => h2 ((isOpens_cases c).2 h)
   rw [if_neg h2]
   by_cases h3 : c = 22
   ·have hO : ¬ isOut c = true := fun h => by have := (isOut_cases c).1 h; omega
    rw [if_pos h3, if_neg (by omega), if_neg hO, if_neg h2, if_pos h3, core_end]
   ·rw [if_neg h3]
    by_cases h4 : c = 18
    ·have hO : isOut c = true := (isOut_cases c).2 (by omega)
     rw [if_pos h4, if_neg (by omega), if_pos hO, core_back hst]
     subst h4; simp [embedP]
    ·rw [if_neg h4]
     by_cases h5 : c = 9
     ·have hO : isOut c = true := (isOut_cases c).2 (by omega)
      rw [if_pos h5, if_neg (by omega), if_pos hO, hst]
      subst h5; simp [embedP, tellX]; rfl
     ·rw [if_neg h5]
      by_cases h6 : c = 10
      ·rw [if_pos h6, if_pos h6]; rfl
      ·have hO : ¬ isOut c = true := fun h => by have := (isOut_cases c).1 h; omega
       rw [if_neg h6, if_neg h6, if_neg hO, if_neg h2, if_neg h3]
       split <;> exact core_put _ _
structure Told (x y : X6) (r : Int × Int) : Prop where
 levels : y.levels = x.levels ++ [r.1]
 classes : y.classes = x.classes ++ [r.2]
theorem told_put {x : X6} {e : Ent} {st : List Ent} (hst : x.st = e :: st) (ho : OvOk x) (c : Int) : Told x (putX x c) (e.lev, overE e c) := by
 have he := ho e (by rw [hst]; simp)
 unfold putX
 split
 ·rename_i h; rw [hst] at h; cases h
 ·rename_i e' st' h
  rw [hst] at h
  injection h with h1 _
  subst h1
  exact ⟨rfl, by rw [overE_eq he]⟩
theorem ov_end {x : X6} (ho : OvOk x) : OvOk (endX0 x) := by
 have hsub : ∀ st : List Ent, ∀ e ∈ unwind st, e ∈ st := fun st e he => (List.dropWhile_sublist (l := st) (p := fun e => !e.iso)).subset (List.mem_of_mem_tail he)
 unfold endX0
 split
 ·exact ho
 ·split
  ·exact fun e he => ho e (hsub _ e he)
  ·exact ho
theorem told_step {x : X6} {k : Nat} (hw : Wf x k) (ho : OvOk x) (l : List Int) (c : Int) : Told x (stepX l x k c) (tellP x.core c) := by
 obtain ⟨e, st, hst⟩ := hw.top
 obtain ⟨⟨e2, st2, he2⟩, _⟩ := wf_end (c := c) hw
 have hT : tellP x.core c = if c = 10 then (x.base, c) else if isOut c then (e.lev, c) else if isOpens c then (e.lev, overE e c)
  else if c = 22 then (e2.lev, overE e2 c) else (e.lev, overE e (knownI c)) := by
  have hcs : x.core.st = e :: st := hst
  have hes : (endP x.core).st = e2 :: st2 := by rw [← core_end x c, endX, core_put]; exact he2
  unfold tellP
  rw [hcs]
  simp only [hes]
  rfl
 rw [hT]
 unfold stepX
 by_cases h1 : c = 16 ∨ c = 14 ∨ c = 17 ∨ c = 15
 ·have hO : isOut c = true := (isOut_cases c).2 (by omega)
  rw [if_pos h1, if_neg (by omega), if_pos hO]
  unfold embedX
  split
  ·rename_i h; rw [hst] at h; cases h
  ·rename_i e' st' h
   rw [hst] at h
   injection h with h3 _
   subst h3
   simp only
   split
   ·exact ⟨rfl, rfl⟩
   ·split <;> exact ⟨rfl, rfl⟩
 ·rw [if_neg h1]
  by_cases h2 : isOpens c = true
  ·have h2' := (isOpens_cases c).1 h2
   have hO : ¬ isOut c = true := fun h => by have := (isOut_cases c).1 h; omega
   rw [if_pos h2, if_neg (by omega), if_neg hO, if_pos h2]
   have ht := told_put hst ho c
   unfold isolateX
   split
   ·rename_i h; rw [hst] at h; cases h
   ·split <;> exact ⟨ht.levels, ht.classes⟩
  ·have h2' : ¬ (c = 19 ∨ c = 20 ∨ c = 21) := fun h => h2 ((isOpens_cases c).2 h)
   rw [if_neg h2]
   by_cases h3 : c = 22
   ·have hO : ¬ isOut c = true := fun h => by have := (isOut_cases c).1 h; omega
    rw [if_pos h3, if_neg (by omega), if_neg hO, if_neg h2, if_pos h3, endX]
    have ht := told_put he2 (ov_end ho) c
    have hl : (endX0 x).levels = x.levels ∧ (endX0 x).classes = x.classes := by unfold endX0; split <;> (try split) <;> exact ⟨rfl, rfl⟩
    exact ⟨by rw [ht.levels, hl.1], by rw [ht.classes, hl.2]⟩
   ·rw [if_neg h3]
    by_cases h4 : c = 18
    ·have hO : isOut c = true := (isOut_cases c).2 (by omega)
     rw [if_pos h4, if_neg (by omega), if_pos hO]
     unfold backX
     split
     ·rename_i h; rw [hst] at h; cases h
     ·rename_i e' st' h
      rw [hst] at h
      injection h with h3 _
      subst h3
      subst h4
      simp only
      split
      ·exact ⟨rfl, rfl⟩
      ·split
       ·exact ⟨rfl, rfl⟩
       ·split <;> exact ⟨rfl, rfl⟩
    ·rw [if_neg h4]
     by_cases h5 : c = 9
     ·have hO : isOut c = true := (isOut_cases c).2 (by omega)
      rw [if_pos h5, if_neg (by omega), if_pos hO, hst]
      exact ⟨rfl, rfl⟩
     ·rw [if_neg h5]
      by_cases h6 : c = 10
      ·rw [if_pos h6, if_pos h6]; exact ⟨rfl, rfl⟩
      ·have hO : ¬ isOut c = true := fun h => by have := (isOut_cases c).1 h; omega
       rw [if_neg h6, if_neg h6, if_neg hO, if_neg h2, if_neg h3]
       unfold knownI
       split
       ·exact told_put hst ho 0
       ·exact told_put hst ho c
theorem ov_step {x : X6} {k : Nat} (hw : Wf x k) (ho : OvOk x) (l : List Int) (c : Int) : OvOk (stepX l x k c) := by
 obtain ⟨e, st, hst⟩ := hw.top
 have hcore : (stepX l x k c).st = (stepP x.core l k c).st := by rw [← core_step hst l k c]; rfl
 have hpush : ∀ (p : P6) (d o : Int) (i : Bool), (∀ e ∈ p.st, e.over = -1 ∨ e.over = 0 ∨ e.over = 1) → (o = -1 ∨ o = 0 ∨ o = 1) → ∀ e ∈ (pushP p d o i).st, e.over = -1 ∨ e.over = 0 ∨ e.over = 1 := by
  intro p d o i hp hov e he
  unfold pushP at he
  split at he
  ·exact hp e he
  ·split at he
   ·rcases List.mem_cons.1 he with rfl | he
    ·exact hov
    ·exact hp e he
   ·exact hp e he
 have hbeg : ∀ (p : P6) (d o : Int), (∀ e ∈ p.st, e.over = -1 ∨ e.over = 0 ∨ e.over = 1) → (o = -1 ∨ o = 0 ∨ o = 1) → ∀ e ∈ (beginP p d o).st, e.over = -1 ∨ e.over = 0 ∨ e.over = 1 := by
  intro p d o hp hov e he
  unfold beginP at he
  split at he
  ·split at he <;> exact hp e he
  ·exact hpush p d o false hp hov e he
 have hc : ∀ e ∈ x.core.st, e.over = -1 ∨ e.over = 0 ∨ e.over = 1 := ho
 have hend : ∀ e ∈ (endP x.core).st, e.over = -1 ∨ e.over = 0 ∨ e.over = 1 := by
  rw [← core_end x c, endX, core_put]; exact ov_end ho
 intro a ha
 rw [hcore] at ha
 unfold stepP at ha
 split at ha
 ·have : a = ⟨x.core.base, -1, false⟩ := by simpa [resetP] using ha
  rw [this]; exact .inl rfl
 ·split at ha
  ·unfold embedP at ha
   split at ha
   ·exact hbeg _ _ _ hc (by decide) a ha
   ·split at ha
    ·exact hbeg _ _ _ hc (by decide) a ha
    ·split at ha
     ·exact hbeg _ _ _ hc (by decide) a ha
     ·split at ha
      ·exact hbeg _ _ _ hc (by decide) a ha
      ·split at ha
       ·unfold backP at ha
        split at ha
        ·exact hc a ha
        ·split at ha
         ·exact hc a ha
         ·split at ha
          ·exact hc a ha
          ·rename_i e' st' h
           split at ha
           ·exact hc a (by rw [h]; exact List.mem_cons_of_mem _ ha)
           ·exact hc a ha
       ·exact hc a ha
  ·split at ha
   ·unfold isolateP at ha
    split at ha
    ·exact hc a ha
    ·exact hpush _ _ _ _ hc (by decide) a ha
   ·split at ha
    ·exact hend a ha
    ·exact hc a ha
theorem ov_run (l : List Int) (base : Int) : ∀ k, OvOk (runX l base k) := by
 intro k
 induction k with
 | zero =>
  intro e he
  have : e = ⟨if base = 0 then 0 else 1, -1, false⟩ := by simpa [runX, beginX, startX] using he
  rw [this]; exact .inl rfl
 | succ k ih => exact ov_step (wf_run l base k) ih l _
end Go.Proofs.Ytadfleopbpomfaa
namespace Go.Proofs.Ytadfleopbpomfaa
open Go.RowKit
def lvs (l : List Int) (base : Int) : List Int := (runX l base l.length).levels
def xcls (l : List Int) (base : Int) : List Int := (runX l base l.length).classes
theorem lvs_length (l : List Int) (base : Int) : (lvs l base).length = l.length := (wf_run l base l.length).levels
theorem xcls_length (l : List Int) (base : Int) : (xcls l base).length = l.length := (wf_run l base l.length).classes
def RowedII (w : World) (xs ys : List Int) (ed : Ending) (w' : World) : Prop :=
 ∃ v1 v2, ed = .returned (.tuple #[v1, v2]) ∧ Own w' w.heap.size 3 v1 (ints .i64 xs) ∧ Own w' w.heap.size 3 v2 (ints .i64 ys) ∧ Below w.heap.size w w'
theorem Own.ofN' {w : World} {B n : Nat} {e : TypeId} {v : Value} {xs : List Value} (h : OwnN w B e 1 v n xs) : Own w B e v xs := Own.ofN h
set_option maxRecDepth 20000 in
set_option maxHeartbeats 2000000 in
theorem rxof_any (A : Option Addr) (l : List Int) (cap : Nat) (base : Int) (w : World) (h : Lies w w.heap.size A (ints .i64 l)) (hl : l.length ≤ 1000000) :
 Calls Try.prog 40 #[.slice A l.length cap, .int .i64 base] w fun ed w' => RowedII w (lvs l base) (xcls l base) ed w' := by
 have HC := Lib.hid (went_loop A l cap base w h hl)
 go_enter Try.func40, Try.ntmps40
 go_wp2_with fail
 refine HC.out.mono ?_
 rintro ed w1 ⟨rfl, ⟨sv, lv, cv, x1⟩, b1⟩
 have X1 := Lib.hid x1
 have B1 := Lib.hid b1
 have h6 := x1.field 6 (by omega)
 have h7 := x1.field 7 (by omega)
 simp only [X6.cells, List.getElem?_cons_succ, List.getElem?_cons_zero] at h6 h7
 obtain ⟨Al, cl, rfl, _, _, _⟩ := x1.levels.form
 obtain ⟨Ac, cc, rfl, _, _, _⟩ := x1.classes.form
 clear x1 b1 h
 go_wp2
 go_region
 go_wp2
 go_ret2
 exact ⟨_, _, rfl, Own.ofN' (X1.out.levels.same rfl), Own.ofN' (X1.out.classes.same rfl), below_drawn B1.out 1⟩
theorem Row.stay {w w' : World} {B C : Nat} {e : TypeId} {g c : Nat} {xs : List Value} (h : Row w B e g c xs) (hb : Below C w w') (hg : g < C) : Row w' B e g c xs := by
 unfold Row Own at *
 refine ⟨h.1, ?_⟩
 rcases h.2 with h2 | ⟨g', cap, cur, hv, hbg, hh, r⟩
 ·exact .inl h2
 ·refine .inr ⟨g', cap, cur, hv, hbg, ?_, r⟩
  injection hv with h1 _ _
  injection h1 with h1
  injection h1 with h1 _ _
  subst h1
  rw [hb.block g hg]; exact hh
section
variable {P : Program} {ops : Array Oper} {o : Oper} {a : Act} {K : Act → World → Prop} {Q : Exit → Act → World → Prop} {E : Prop}
end
end Go.Proofs.Ytadfleopbpomfaa
namespace Go.Proofs.Ytadfleopbpomfaa
open Go.RowKit
theorem run_told (l : List Int) (base : Int) (k : Nat) : Told (runX l base k) (runX l base (k + 1)) (tellP (runX l base k).core (at0 l k)) := by
 rw [runX]; exact told_step (wf_run l base k) (ov_run l base k) l _
theorem run_get (l : List Int) (base : Int) (k : Nat) : ∀ m, k < m → (runX l base m).levels[k]? = some (tellP (runX l base k).core (at0 l k)).1 ∧ (runX l base m).classes[k]? = some (tellP (runX l base k).core (at0 l k)).2 := by
 intro m
 induction m with
 | zero => intro h; omega
 | succ m ih =>
  intro h
  have ht := run_told l base m
  have h1 := (wf_run l base m).levels
  have h2 := (wf_run l base m).classes
  rw [ht.levels, ht.classes]
  by_cases hk : k = m
  ·subst hk
   rw [List.getElem?_append_right (by omega), List.getElem?_append_right (by omega), h1, h2, Nat.sub_self]
   exact ⟨rfl, rfl⟩
  ·rw [List.getElem?_append_left (by omega), List.getElem?_append_left (by omega)]
   exact ih (by omega)
theorem lvs_at (l : List Int) (base : Int) (k : Nat) (h : k < l.length) (h1 : k < (lvs l base).length) : (lvs l base)[k] = (tellP (runX l base k).core l[k]).1 := by
 have := (run_get l base k l.length h).1
 rw [at0_eq h] at this
 have h2 : (lvs l base)[k]? = some (lvs l base)[k] := List.getElem?_eq_getElem h1
 unfold lvs at h2 ⊢
 rw [this] at h2
 exact (Option.some.inj h2).symm
theorem xcls_at (l : List Int) (base : Int) (k : Nat) (h : k < l.length) (h1 : k < (xcls l base).length) : (xcls l base)[k] = (tellP (runX l base k).core l[k]).2 := by
 have := (run_get l base k l.length h).2
 rw [at0_eq h] at this
 have h2 : (xcls l base)[k]? = some (xcls l base)[k] := List.getElem?_eq_getElem h1
 unfold xcls at h2 ⊢
 rw [this] at h2
 exact (Option.some.inj h2).symm
theorem core_base {x : X6} {k : Nat} (hw : Wf x k) (l : List Int) (c : Int) : (stepX l x k c).base = x.base := by
 obtain ⟨e, st, hst⟩ := hw.top
 have h : (stepX l x k c).base = (stepP x.core l k c).base := by rw [← core_step hst l k c]; rfl
 have hpush : ∀ (p : P6) (d o : Int) (i : Bool), (pushP p d o i).base = p.base := by intro p d o i; unfold pushP; split <;> (try split) <;> rfl
 have hbeg : ∀ (p : P6) (d o : Int), (beginP p d o).base = p.base := by
  intro p d o
  unfold beginP
  split
  ·split <;> rfl
  ·exact hpush _ _ _ _
 rw [h]
 show _ = x.core.base
 unfold stepP
 split
 ·rfl
 ·split
  ·unfold embedP
   repeat' split
   all_goals first | rfl | exact hbeg _ _ _ | (unfold backP; repeat' split) <;> rfl
  ·split
   ·unfold isolateP
    split
    ·rfl
    ·exact hpush _ _ _ _
   ·split
    ·unfold endP; repeat' split
     all_goals rfl
    ·rfl
theorem base_run (l : List Int) (base : Int) : ∀ k, (runX l base k).base = if base = 0 then 0 else 1 := by
 intro k
 induction k with
 | zero => rfl
 | succ k ih => rw [runX, core_base (wf_run l base k)]; exact ih
theorem out_known {c : Int} (h : isOut c = false) : isOut (knownI c) = false := by
 unfold knownI; split
 ·decide
 ·exact h
theorem out_over {e : Ent} (ho : e.over = -1 ∨ e.over = 0 ∨ e.over = 1) {c : Int} (h : isOut c = false) : isOut (overE e c) = false := by
 unfold overE
 rcases ho with ho | ho | ho <;> rw [ho]
 ·rw [if_pos rfl]; exact h
 ·rw [if_neg (by decide)]; decide
 ·rw [if_neg (by decide)]; decide
theorem tell_facts {x : X6} {k : Nat} (hw : Wf x k) (ho : OvOk x) (c : Int) : x.base ≤ (tellP x.core c).1 ∧ (tellP x.core c).1 ≤ 125 ∧ isOut (tellP x.core c).2 = isOut c ∧ (c = 10 → (tellP x.core c).1 = x.base) := by
 obtain ⟨e, st, hst⟩ := hw.top
 obtain ⟨⟨e2, st2, he2⟩, _⟩ := wf_end (c := c) hw
 have hr := hw.rng e (by rw [hst]; simp)
 have hr2 : x.base ≤ e2.lev ∧ e2.lev ≤ 125 := by
  have hm : (endX0 x).base = x.base := by
   unfold endX0
   repeat' split
   all_goals rfl
  have := hw.ended.rng e2 (by show e2 ∈ (endX0 x).st; rw [he2]; simp)
  exact ⟨by have h1 := this.1; show x.base ≤ e2.lev; rw [← hm]; exact h1, this.2⟩
 have hov := ho e (by rw [hst]; simp)
 have hov2 := ov_end ho e2 (by rw [he2]; simp)
 have hb := hw.base
 have hes : (endP x.core).st = e2 :: st2 := by rw [← core_end x c, endX, core_put]; exact he2
 have hcs : x.core.st = e :: st := hst
 unfold tellP
 rw [hcs]
 simp only [hes]
 have hcb : x.core.base = x.base := rfl
 rw [hcb]
 split
 ·exact ⟨Int.le_refl _, by show x.base ≤ 125; omega, rfl, fun _ => rfl⟩
 ·rename_i h10
  split
  ·exact ⟨hr.1, hr.2, rfl, fun h => absurd h h10⟩
  ·rename_i hO
   have hO : isOut c = false := by simpa using hO
   split
   ·exact ⟨hr.1, hr.2, by rw [out_over hov hO, hO], fun h => absurd h h10⟩
   ·split
    ·exact ⟨hr2.1, hr2.2, by rw [out_over hov2 hO, hO], fun h => absurd h h10⟩
    ·exact ⟨hr.1, hr.2, by rw [out_over hov (out_known hO), hO], fun h => absurd h h10⟩
end Go.Proofs.Ytadfleopbpomfaa
namespace Go.Proofs.Ytadfleopbpomfaa
open Go.RowKit
def seenN (l : List Int) (k : Nat) : List Int := ((List.range k).filter fun i => !isOut (l.getD i 0)).map fun (i : Nat) => (i : Int)
def seenI (l : List Int) : List Int := seenN l l.length
theorem seenN_succ (l : List Int) (k : Nat) (h : k < l.length) : seenN l (k + 1) = if isOut l[k] then seenN l k else seenN l k ++ [(k : Int)] := by
 unfold seenN
 have hg : l.getD k 0 = l[k] := by simp [h]
 have hf : ([k].filter fun i => !isOut (l.getD i 0)) = if isOut l[k] then [] else [k] := by
  rw [List.filter_cons, hg]
  cases isOut l[k] <;> rfl
 rw [List.range_succ, List.filter_append, List.map_append, hf]
 split
 ·simp
 ·rfl
theorem seenN_le (l : List Int) (k : Nat) : (seenN l k).length ≤ k := by
 unfold seenN
 rw [List.length_map]
 have := List.length_filter_le (fun i => !isOut (l.getD i 0)) (List.range k)
 rw [List.length_range] at this
 exact this
set_option maxHeartbeats 2000000 in
theorem rseen8_any (A : Option Addr) (l : List Int) (c : Nat) (w : World) (h : Lies w w.heap.size A (ints .i64 l)) (hl : l.length ≤ 1000000) :
 Calls Try.prog 75 #[.slice A l.length c] w fun ed w' => Rowed w w.heap.size 3 (ints .i64 (seenI l)) ed w' := by
 have H := Lib.hid h
 clear h
 go_enter Try.func75, Try.ntmps75
 go_wp2
 go_loopw [4, 3] (fun iv ov wr => ∃ k : Nat, k ≤ l.length ∧ iv = .int .i64 k ∧ Own wr w.heap.size 3 ov (ints .i64 (seenN l k)) ∧ Below w.heap.size w wr) (fun iv _ _ => l.length - (intOf iv).toNat)
 case atStart => exact ⟨0, by omega, rfl, Own.empty _ _ _, Below.refl _ _⟩
 case round =>
  obtain ⟨k, hk, rfl, ho, hb⟩ := hrel
  have HO := Lib.hid ho
  have HB := Lib.hid hb
  clear ho hb
  by_cases hlt : k < l.length
  ·obtain ⟨p, rfl, _, hcl⟩ := (H.out.below HB.out).int hlt
   obtain ⟨x, hx⟩ : ∃ x, l[k] = x := ⟨_, rfl⟩
   have HS := Lib.hid (seenN_succ l k hlt)
   rw [hx] at hcl HS
   have hle := seenN_le l k
   have b0 : (0 : Int) ≤ (k : Int) := by omega
   have b1 : (k : Int) < (l.length : Int) := by omega
   clear hx
   rcases hoc : isOut x with _ | _
   ·have HOC := Lib.hid hoc
    clear hoc
    go_wp2_with fail
    refine (rout_any x _).mono ?_
    rintro e wq ⟨rfl, rfl⟩
    rw [HOC.out]
    go_wp2_with (first
     | (at_builtin; refine app_lit intsT w wr w.heap.size _ _ #[.int .i64 (k : Int)] 1 _ _ rfl rfl rfl rfl HO.out (by simp [Value.oneCell']) HB.out HB.out.size (by unfold maxLen; simp; omega) (by simp; omega) ?_; intro v2 w2 o2 b2 _ _; have O2 := Lib.hid o2; have B2 := Lib.hid b2; clear o2 b2)
     | fail)
    go_roundw
    case rel => exact ⟨k + 1, by omega, by go_num, by rw [HS.out, HOC.out, if_neg (by simp)]; simpa [ints] using O2.out, B2.out⟩
    case measure => simp [intOf]; omega
   ·have HOC := Lib.hid hoc
    clear hoc
    go_wp2_with fail
    refine (rout_any x _).mono ?_
    rintro e wq ⟨rfl, rfl⟩
    rw [HOC.out]
    go_wp2_with fail
    go_roundw
    case rel => exact ⟨k + 1, by omega, by go_num, by rw [HS.out, HOC.out, if_pos rfl]; exact HO.out, HB.out⟩
    case measure => simp [intOf]; omega
  ·obtain rfl : k = l.length := by omega
   go_wp2
   go_ret
   exact ⟨_, rfl, HO.out, HB.out⟩
def dirL (k : Int) : Int := if k % 2 = 0 then 0 else 1
theorem tmod_dir (k : Int) : (Int.tmod k 2 = 0) ↔ k % 2 = 0 := ⟨fun h => Int.emod_eq_zero_of_dvd (Int.dvd_of_tmod_eq_zero h), fun h => Int.tmod_eq_zero_of_dvd (Int.dvd_of_emod_eq_zero h)⟩
theorem rdir8_any (k : Int) (w : World) : Calls Try.prog 58 #[.int .i64 k] w fun e w' => e = .returned (.int .i64 (dirL k)) ∧ w = w' := by
 rcases h : (Int.tmod k 2 != 0) with _ | _
 ·have hz : dirL k = 0 := by rw [dirL, if_pos ((tmod_dir k).1 (by simpa using h))]
  rw [hz]
  go_enter Try.func58, Try.ntmps58
  go_wp2
  go_ret
  exact ⟨rfl, rfl⟩
 ·have hz : dirL k = 1 := by rw [dirL, if_neg (fun e => by rw [(tmod_dir k).2 e] at h; simp at h)]
  rw [hz]
  go_enter Try.func58, Try.ntmps58
  go_wp2
  go_ret
  exact ⟨rfl, rfl⟩
end Go.Proofs.Ytadfleopbpomfaa
namespace Go.Proofs.Ytadfleopbpomfaa
open Go.RowKit
theorem Own.asN {w : World} {B : Nat} {e : TypeId} {v : Value} {xs : List Value} (h : Own w B e v xs) : OwnN w B e 1 v xs.length xs := h
theorem Own.unlike {w : World} {B B' : Nat} {e e' : TypeId} {v v' : Value} {xs xs' : List Value} (h : Own w B e v xs) (h' : Own w B' e' v' xs') (he : e ≠ e') : v.ownBlock = none ∨ v.ownBlock ≠ v'.ownBlock :=
 OwnN.unlike h.asN h'.asN he
theorem Own.store {w : World} {B : Nat} {e : TypeId} {g c : Nat} {xs : List Value} (h : Row w B e g c xs) (j : Nat) (u : Value) : Row (w.setCell ⟨g, j, none⟩ u) B e g c (xs.set j u) := h.set j u
structure Nest (w : World) (B : Nat) (eo ei : TypeId) (v : Value) (es : List Value) (L : List (List Value)) : Prop where
 outer : Own w B eo v es
 len : es.length = L.length
 inner : ∀ (j : Nat) (h1 : j < es.length) (h2 : j < L.length), Own w B ei es[j] L[j]
 apart : ∀ (i j : Nat) (hi : i < es.length) (hj : j < es.length), i ≠ j → Apart es[i] es[j]
section
variable {w w' w'' : World} {B : Nat} {eo ei : TypeId} {v : Value} {es : List Value} {L : List (List Value)}
theorem Nest.empty (w : World) (B : Nat) (eo ei : TypeId) : Nest w B eo ei (.slice none 0 0) [] [] :=
 ⟨Own.empty _ _ _, rfl, fun j h => by simp at h, fun i j h => by simp at h⟩
theorem Nest.below (h : Nest w B eo ei v es L) {C : Nat} (hb : Below C w w') (hC : w.heap.size ≤ C) : Nest w' B eo ei v es L :=
 ⟨h.outer.below hb hC, h.len, fun j h1 h2 => (h.inner j h1 h2).below hb hC, h.apart⟩
theorem Nest.alloc (h : Nest w B eo ei v es L) (o : Obj) : Nest (w.alloc o) B eo ei v es L := h.below (below_alloc w o) (Nat.le_refl _)
theorem Nest.far (h : Nest w B eo ei v es L) (he : eo ≠ ei) (j : Nat) (h1 : j < es.length) : es[j].ownBlock = none ∨ es[j].ownBlock ≠ v.ownBlock :=
 (h.inner j h1 (by rw [← h.len]; exact h1)).unlike h.outer he.symm
theorem Nest.pushNil {v' : Value} (h : Nest w B eo ei v es L) (he : eo ≠ ei) (ho : Own w' B eo v' (es ++ [.slice none 0 0])) (hg : w.grownBy w' v.ownBlock) : Nest w' B eo ei v' (es ++ [.slice none 0 0]) (L ++ [[]]) := by
 have hl := h.len
 refine ⟨ho, by simp [hl], fun j h1 h2 => ?_, fun i j hi hj hij => ?_⟩
 ·by_cases hj : j < es.length
  ·rw [List.getElem_append_left hj, List.getElem_append_left (by omega)]
   exact (h.inner j hj (by omega)).keep hg (h.far he j hj)
  ·have : j = es.length := by simp at h1; omega
   subst this
   rw [List.getElem_append_right (Nat.le_refl _), List.getElem_append_right (by omega)]
   simp only [Nat.sub_self, List.getElem_cons_zero, hl]
   exact Own.empty _ _ _
 ·by_cases h1 : i < es.length
  ·rw [List.getElem_append_left h1]
   by_cases h2 : j < es.length
   ·rw [List.getElem_append_left h2]; exact h.apart i j h1 h2 hij
   ·rw [List.getElem_append_right (by omega)]
    have : j - es.length = 0 := by simp at hj; omega
    simp only [this, List.getElem_cons_zero]
    exact Apart.nil_right
  ·rw [List.getElem_append_right (by omega)]
   have : i - es.length = 0 := by simp at hi; omega
   simp only [this, List.getElem_cons_zero]
   exact Apart.nil_left
theorem Nest.grow {g c : Nat} {u : Value} {xs : List Value} (h : Nest w B eo ei (.slice (some ⟨g, 0, none⟩) es.length c) es L) (he : eo ≠ ei) {j : Nat} (hj : j < es.length)
 (hu : Own w' B ei u xs) (hg : w.grownBy w' es[j].ownBlock) (hn : u.ownBlock = es[j].ownBlock ∨ ∃ q, u.ownBlock = some q ∧ w.heap.size ≤ q)
 (ho : Own w'' B eo (.slice (some ⟨g, 0, none⟩) (es.set j u).length c) (es.set j u)) (hg2 : w'.grownBy w'' (some g)) :
 Nest w'' B eo ei (.slice (some ⟨g, 0, none⟩) (es.set j u).length c) (es.set j u) (L.set j xs) := by
 have hl := h.len
 have hgin : g < w.heap.size := (h.outer.inside g rfl).2
 have hug : u.ownBlock ≠ some g := by
  rcases hn with hn | ⟨q, hn, hq⟩
  ·rw [hn]
   rcases h.far he j hj with h1 | h1
   ·rw [h1]; simp
   ·exact h1
  ·rw [hn]; intro e; injection e with e; omega
 have hfar : ∀ i (hi : i < es.length), i ≠ j → Own w'' B ei es[i] (L[i]'(by omega)) := fun i hi hij => by
  have h1 := (h.inner i hi (by omega)).keep hg (h.apart i j hi hj hij)
  refine h1.keep hg2 ?_
  rcases h.far he i hi with h2 | h2
  ·exact .inl h2
  ·exact .inr h2
 refine ⟨ho, by simp [hl], fun i h1 h2 => ?_, fun a b ha hb hab => ?_⟩
 ·by_cases hij : i = j
  ·subst hij
   rw [List.getElem_set_self, List.getElem_set_self]
   exact hu.keep hg2 (.inr hug)
  ·rw [List.getElem_set_ne (fun e => hij e.symm), List.getElem_set_ne (fun e => hij e.symm)]
   exact hfar i (by simpa using h1) hij
 ·have ha' : a < es.length := by simpa using ha
  have hb' : b < es.length := by simpa using hb
  have key : ∀ i (hi : i < es.length), i ≠ j → Apart u es[i] := fun i hi hij => by
   rcases hn with hn | ⟨q, hn, hq⟩
   ·have := h.apart j i hj hi (fun e => hij e.symm)
    unfold Apart at *
    rw [hn]; exact this
   ·refine .inr fun e => ?_
    have := ((h.inner i hi (by omega)).inside q (by rw [← e, hn])).2
    omega
  by_cases h1 : a = j
  ·subst h1
   rw [List.getElem_set_self, List.getElem_set_ne hab]
   exact key b hb' (fun e => hab e.symm)
  ·by_cases h2 : b = j
   ·subst h2
    rw [List.getElem_set_self, List.getElem_set_ne (fun e => h1 e.symm)]
    exact (key a ha' h1).symm
   ·rw [List.getElem_set_ne (fun e => h1 e.symm), List.getElem_set_ne (fun e => h2 e.symm)]
    exact h.apart a b ha' hb' hab
end
end Go.Proofs.Ytadfleopbpomfaa
namespace Go.Proofs.Ytadfleopbpomfaa
open Go.RowKit
section
variable {P : Program} {ops : Array Oper} {o : Oper} {a : Act} {K : Act → World → Prop} {Q : Exit → Act → World → Prop} {E : Prop}
theorem step_app {t e : TypeId} {z : Value} {bytes : Nat} (T : SliceOf P t e z bytes) (w0 W : World) (B B' : Nat) (s x : Operand) (v : Value) (xs ys : List Value) (A : Option Addr) (n c : Nat)
 (hgd : o.guard = none) (ho : o.op = .call { callee := .builtin .append, args := #[s, x], argTypes := #[t, t] })
 (hs : a.eval s = v) (hx : a.eval x = .slice A n c) (hn : n = ys.length)
 (hown : Own W B e v xs) (hsrc : Lies W B' A ys) (h1 : ∀ u ∈ ys, u.oneCell' = true) (hb : Below B w0 W) (hB : B ≤ W.heap.size)
 (hlen : xs.length + ys.length ≤ maxLen) (hby : (xs.length + ys.length) * bytes ≤ 140737488355328)
 (h : ∀ v' w', Own w' B e v' (xs ++ ys) → Below B w0 w' → W.grownBy w' v.ownBlock → (v'.ownBlock = v.ownBlock ∨ ∃ g, v'.ownBlock = some g ∧ W.heap.size ≤ g) → K (a.put o.dst v') w') :
 if Region.wanted o (yielded ops a.tmps) = true then Oper.wp P o a W K Q else E := by
 subst hn
 have hw : Region.wanted o (yielded ops a.tmps) = true := by simp [Region.wanted, hgd]
 rw [if_pos hw]
 obtain ⟨v', w', hr, h2, h3, h4⟩ := run_app_src T o.type W B B' v xs ys A c hown hsrc h1 hB hlen hby
 unfold Oper.wp execOp
 simp only [ho, resolve, invoke, builtin, Sem.run_bind, Sem.run_pure, Result.andThen_ok, List.map_toArray, List.map_cons, List.map_nil, hs, hx, hr]
 refine h v' w' h2 (hb.grown h3 hB (fun k hk => (Own.inside hown k hk).1)) h3 ?_
 rcases h4 with h4 | h4
 ·exact .inl h4
 ·exact .inr ⟨_, h4, Nat.le_refl _⟩
end
end Go.Proofs.Ytadfleopbpomfaa
namespace Go.Proofs.Ytadfleopbpomfaa
open Go.RowKit
def addLast (L : List (List Int)) (p : Int) : List (List Int) := L.set (L.length - 1) (L.getD (L.length - 1) [] ++ [p])
def freshAt (cl lv s : List Int) (k : Nat) : Bool := k == 0 || (lv.getD (s.getD k 0).toNat 0 != lv.getD (s.getD (k - 1) 0).toNat 0 || cl.getD (s.getD (k - 1) 0).toNat 0 == 10)
def listsN (cl lv s : List Int) : Nat → List (List Int)
 | 0 => []
 | k + 1 => addLast (if freshAt cl lv s k then listsN cl lv s k ++ [[]] else listsN cl lv s k) (s.getD k 0)
def listsI (cl lv : List Int) : List (List Int) := if cl.length = lv.length then listsN cl lv (seenI cl) (seenI cl).length else []
theorem addLast_length (L : List (List Int)) (p : Int) : (addLast L p).length = L.length := by simp [addLast]
theorem listsN_le (cl lv s : List Int) : ∀ k, (listsN cl lv s k).length ≤ k ∧ (0 < k → 0 < (listsN cl lv s k).length) := by
 intro k
 induction k with
 | zero => exact ⟨by simp [listsN], fun h => absurd h (by omega)⟩
 | succ k ih =>
  rw [listsN, addLast_length]
  split
  ·simp; omega
  ·rename_i h
   refine ⟨by omega, fun _ => ih.2 ?_⟩
   cases k with
   | zero => simp [freshAt] at h
   | succ k => omega
theorem addLast_mem {L : List (List Int)} {p : Int} {n : Nat} (h : ∀ l ∈ L, l.length ≤ n) : ∀ l ∈ addLast L p, l.length ≤ n + 1 := by
 intro l hl
 unfold addLast at hl
 obtain ⟨i, hi, rfl⟩ := List.mem_iff_getElem.1 hl
 rw [List.length_set] at hi
 by_cases he : L.length - 1 = i
 ·subst he
  rw [List.getElem_set_self]
  have h2 : L.getD (L.length - 1) [] = L[L.length - 1] := by simp [hi]
  have := h _ (List.getElem_mem hi)
  rw [h2]; simp; omega
 ·rw [List.getElem_set_ne he]
  have := h _ (List.getElem_mem hi)
  omega
theorem listsN_mem (cl lv s : List Int) : ∀ k, ∀ l ∈ listsN cl lv s k, l.length ≤ k := by
 intro k
 induction k with
 | zero => intro l hl; simp [listsN] at hl
 | succ k ih =>
  rw [listsN]
  refine addLast_mem ?_
  split
  ·intro l hl
   rcases List.mem_append.1 hl with h | h
   ·exact ih l h
   ·rw [List.mem_singleton.1 h]; simp
  ·exact ih
theorem seenN_at (l : List Int) : ∀ k j (h : j < (seenN l k).length), ∃ q : Nat, (seenN l k)[j] = (q : Int) ∧ q < k := by
 intro k j h
 have hm : (seenN l k)[j] ∈ seenN l k := List.getElem_mem h
 unfold seenN at hm
 obtain ⟨q, hq, he⟩ := List.mem_map.1 hm
 have := List.mem_range.1 (List.mem_filter.1 hq).1
 exact ⟨q, he.symm, this⟩
end Go.Proofs.Ytadfleopbpomfaa
