/- Shared texts, shaken for one claim. -/
import Derived.Test.YtcbaahlahohfmaaGreatDoorZA10
namespace Go.Proofs.YtcbaahlahohfmaaGreatDoor
open Go.RowKit
def tellX (x : X6) (z c : Int) : X6 := { x with levels := x.levels ++ [z], classes := x.classes ++ [c] }
def stepX (l : List Int) (x : X6) (i : Nat) (c : Int) : X6 :=
 if c = 16 ∨ c = 14 ∨ c = 17 ∨ c = 15 then embedX x c
 else if isOpens c then isolateX x l i c
 else if c = 22 then endX x c
 else if c = 18 then backX x
 else if c = 9 then (match x.st with | [] => x | e :: _ => tellX x e.lev c)
 else if c = 10 then tellX (startX x) x.base c
 else if c < 0 ∨ 22 < c then putX x 0
 else putX x c
def beginX (base : Int) : X6 := startX { base := if base = 0 then 0 else 1, st := [], isos := 0, embeds := 0, valid := 0, most := 0, levels := [], classes := [] }
def runX (l : List Int) (base : Int) : Nat → X6
 | 0 => beginX base
 | k + 1 => stepX l (runX l base k) k (at0 l k)
structure Wf (x : X6) (k : Nat) : Prop where
 base : x.base = 0 ∨ x.base = 1
 ne : x.st ≠ []
 mono : x.st.Pairwise (fun a b => b.lev < a.lev)
 rng : ∀ e ∈ x.st, x.base ≤ e.lev ∧ e.lev ≤ 125
 bot : ∃ s b, x.st = s ++ [b] ∧ b.iso = false ∧ b.lev = x.base ∧ (s.filter (·.iso)).length = x.valid
 isos : x.isos ≤ k
 embeds : x.embeds ≤ k
 valid : x.valid ≤ k
 levels : x.levels.length = k
 classes : x.classes.length = k
theorem nextL_spec {k d : Int} (h0 : 0 ≤ k) (h1 : k ≤ 125) : k < nextL k d ∧ nextL k d ≤ k + 2 := by
 unfold nextL
 rw [if_neg (by omega)]
 repeat' split
 all_goals omega
theorem fits_le {x : X6} {n : Int} (h : fitsX x n = true) : n ≤ 125 ∧ x.isos = 0 ∧ x.embeds = 0 := by
 simp [fitsX] at h
 omega
theorem Wf.top {x : X6} {k : Nat} (h : Wf x k) : ∃ e st, x.st = e :: st := by
 cases hs : x.st with
 | nil => exact absurd hs h.ne
 | cons e st => exact ⟨e, st, rfl⟩
theorem Wf.tell {x y : X6} {k : Nat} (h : Wf x k) (h1 : y.base = x.base) (h2 : y.st = x.st) (h3 : y.valid = x.valid) (h4 : y.isos ≤ k + 1) (h5 : y.embeds ≤ k + 1) (h6 : y.levels.length = k + 1) (h7 : y.classes.length = k + 1) : Wf y (k + 1) := by
 refine ⟨by rw [h1]; exact h.base, by rw [h2]; exact h.ne, by rw [h2]; exact h.mono, by rw [h1, h2]; exact h.rng, ?_, h4, h5, by rw [h3]; have := h.valid; omega, h6, h7⟩
 obtain ⟨s, b, a1, a2, a3, a4⟩ := h.bot
 exact ⟨s, b, by rw [h2]; exact a1, a2, by rw [h1]; exact a3, by rw [h3]; exact a4⟩
theorem Wf.push {x y : X6} {k : Nat} (h : Wf x k) (n over : Int) (iso : Bool) (h1 : y.base = x.base) (h2 : y.st = ⟨n, over, iso⟩ :: x.st) (h3 : y.valid = x.valid + (if iso then 1 else 0)) (h4 : y.isos ≤ k + 1) (h5 : y.embeds ≤ k + 1) (h6 : y.levels.length = k + 1) (h7 : y.classes.length = k + 1)
 (hn : ∀ e st, x.st = e :: st → e.lev < n) (hn2 : n ≤ 125) : Wf y (k + 1) := by
 obtain ⟨e, st, hst⟩ := h.top
 have hlt := hn e st hst
 have hb := (h.rng e (by rw [hst]; simp)).1
 refine ⟨by rw [h1]; exact h.base, by rw [h2]; simp, ?_, ?_, ?_, h4, h5, by rw [h3]; have := h.valid; split <;> omega, h6, h7⟩
 ·rw [h2]
  refine List.Pairwise.cons (fun b hb => ?_) h.mono
  have hm := h.mono
  rw [hst] at hm hb
  rcases List.mem_cons.1 hb with rfl | hb
  ·exact hlt
  ·have := (List.pairwise_cons.1 hm).1 b hb
   show b.lev < n
   omega
 ·rw [h1, h2]
  intro a ha
  rcases List.mem_cons.1 ha with rfl | ha
  ·exact ⟨by show x.base ≤ n; omega, hn2⟩
  ·exact h.rng a ha
 ·obtain ⟨s, b, a1, a2, a3, a4⟩ := h.bot
  refine ⟨⟨n, over, iso⟩ :: s, b, by rw [h2, a1]; rfl, a2, by rw [h1]; exact a3, ?_⟩
  rw [h3, List.filter_cons]
  cases iso <;> simp [a4]
theorem drop_iso (s : List Ent) (b : Ent) (_hb : b.iso = false) (hv : 0 < (s.filter (·.iso)).length) :
 ∃ p e t, s = p ++ e :: t ∧ e.iso = true ∧ (∀ a ∈ p, a.iso = false) ∧ unwind (s ++ [b]) = t ++ [b] ∧ (t.filter (·.iso)).length + 1 = (s.filter (·.iso)).length := by
 induction s with
 | nil => simp at hv
 | cons a s ih =>
  cases ha : a.iso with
  | true => exact ⟨[], a, s, rfl, ha, (fun _ h => by cases h), by rw [List.cons_append, unwind_hit ha], by simp [ha]⟩
  | false =>
   have hf : (a :: s).filter (·.iso) = s.filter (·.iso) := by simp [ha]
   obtain ⟨p, e, t, h1, h2, h3, h4, h5⟩ := ih (by rw [hf] at hv; exact hv)
   refine ⟨a :: p, e, t, by rw [h1]; rfl, h2, fun c hc => ?_, by rw [List.cons_append, unwind_skip ha]; exact h4, by rw [hf]; exact h5⟩
   rcases List.mem_cons.1 hc with rfl | hc
   ·exact ha
   ·exact h3 c hc
theorem Wf.ended {x : X6} {k : Nat} (h : Wf x k) : Wf { endX0 x with levels := x.levels ++ [0], classes := x.classes ++ [0] } (k + 1) := by
 have h8 := h.levels
 have h9 := h.classes
 have hi := h.isos
 have he := h.embeds
 unfold endX0
 split
 ·exact h.tell rfl rfl rfl (by show x.isos - 1 ≤ _; omega) (by show x.embeds ≤ _; omega) (by simp [h8]) (by simp [h9])
 ·split
  ·rename_i h1 h2
   obtain ⟨s, b, a1, a2, a3, a4⟩ := h.bot
   obtain ⟨p, e, t, b1, b2, b3, b4, b5⟩ := drop_iso s b a2 (by omega)
   rw [← a1] at b4
   have hsub : (t ++ [b]).Sublist x.st := by
    rw [a1, b1, List.append_assoc]
    exact (List.Sublist.refl _).trans ((List.sublist_cons_self e (t ++ [b])).trans (List.sublist_append_right p _))
   have hv := h.valid
   refine ⟨h.base, ?_, ?_, ?_, ⟨t, b, b4, a2, a3, ?_⟩, by show x.isos ≤ _; omega, Nat.zero_le _, by show x.valid - 1 ≤ _; omega, by simp [h8], by simp [h9]⟩
   ·show unwind x.st ≠ []
    rw [b4]; simp
   ·show (unwind x.st).Pairwise _
    rw [b4]; exact h.mono.sublist hsub
   ·intro a ha
    have ha : a ∈ unwind x.st := ha
    rw [b4] at ha
    exact h.rng a (hsub.subset ha)
   ·show (t.filter (·.iso)).length = x.valid - 1
    omega
  ·exact h.tell rfl rfl rfl (by show x.isos ≤ _; omega) (by show x.embeds ≤ _; omega) (by simp [h8]) (by simp [h9])
theorem wf_put {x : X6} {k : Nat} {c : Int} (h : Wf x k) : Wf (putX x c) (k + 1) := by
 obtain ⟨e, st, hst⟩ := h.top
 have hi := h.isos
 have he := h.embeds
 unfold putX
 split
 ·rename_i h0; rw [hst] at h0; cases h0
 ·exact h.tell rfl rfl rfl (by show x.isos ≤ _; omega) (by show x.embeds ≤ _; omega) (by simp [h.levels]) (by simp [h.classes])
theorem wf_tellX {x : X6} {k : Nat} {z c : Int} (h : Wf x k) : Wf (tellX x z c) (k + 1) := by
 have hi := h.isos
 have he := h.embeds
 exact h.tell rfl rfl rfl (by show x.isos ≤ _; omega) (by show x.embeds ≤ _; omega) (by simp [tellX, h.levels]) (by simp [tellX, h.classes])
theorem wf_start {x : X6} {k : Nat} (h : x.base = 0 ∨ x.base = 1) (h1 : x.levels.length = k) (h2 : x.classes.length = k) : Wf (startX x) k := by
 refine ⟨h, by simp [startX], by simp [startX], ?_, ⟨[], ⟨x.base, -1, false⟩, rfl, rfl, rfl, rfl⟩, Nat.zero_le _, Nat.zero_le _, Nat.zero_le _, h1, h2⟩
 intro e he
 have : e = ⟨x.base, -1, false⟩ := by simpa [startX] using he
 subst this
 refine ⟨Int.le_refl _, ?_⟩
 show x.base ≤ 125
 omega
theorem wf_embed {x : X6} {k : Nat} {c : Int} (h : Wf x k) : Wf (embedX x c) (k + 1) := by
 obtain ⟨e, st, hst⟩ := h.top
 have hi := h.isos
 have he := h.embeds
 have hr := h.rng e (by rw [hst]; simp)
 have hb := h.base
 have hn := nextL_spec (k := e.lev) (d := dirOf c) (by omega) hr.2
 unfold embedX
 split
 ·rename_i h0; rw [hst] at h0; cases h0
 ·rename_i e' st' h0
  rw [hst] at h0
  injection h0 with h1 h2
  subst h1
  simp only
  split
  ·rename_i hf
   exact h.push (nextL e.lev (dirOf c)) (overOf c) false rfl rfl rfl (by show x.isos ≤ _; omega) (by show x.embeds ≤ _; omega) (by simp [pushX, h.levels]) (by simp [pushX, h.classes])
    (fun e2 st2 hs2 => by rw [hst] at hs2; injection hs2 with h3 _; subst h3; exact hn.1) (fits_le hf).1
  ·split
   ·exact h.tell rfl rfl rfl (by show x.isos ≤ _; omega) (by show x.embeds + 1 ≤ _; omega) (by simp [h.levels]) (by simp [h.classes])
   ·exact h.tell rfl rfl rfl (by show x.isos ≤ _; omega) (by show x.embeds ≤ _; omega) (by simp [h.levels]) (by simp [h.classes])
theorem wf_isolate {x : X6} {k : Nat} {l : List Int} {i c : Int} (h : Wf x k) : Wf (isolateX x l i c) (k + 1) := by
 obtain ⟨e, st, hst⟩ := h.top
 have hi := h.isos
 have he := h.embeds
 have hr := h.rng e (by rw [hst]; simp)
 have hb := h.base
 have hn := nextL_spec (k := e.lev) (d := isolate l i) (by omega) hr.2
 have hw := wf_put (c := c) h
 obtain ⟨p1, p2, p3, p4⟩ := putX_st x c
 have pb : (putX x c).base = x.base := by unfold putX; split <;> rfl
 unfold isolateX
 split
 ·rename_i h0; rw [hst] at h0; cases h0
 ·rename_i e' st' h0
  rw [hst] at h0
  injection h0 with h1 h2
  subst h1
  split
  ·rename_i hf
   exact h.push (nextL e.lev (isolate l i)) (-1) true pb (by show _ :: (putX x c).st = _; rw [p1]) (by show (putX x c).valid + 1 = _; rw [p2]; rfl) (by show (putX x c).isos ≤ _; omega) (by show (putX x c).embeds ≤ _; omega) hw.levels hw.classes
    (fun e2 st2 hs2 => by rw [hst] at hs2; injection hs2 with h3 _; subst h3; exact hn.1) (fits_le hf).1
  ·exact h.tell pb p1 p2 (by show (putX x c).isos + 1 ≤ _; omega) (by show (putX x c).embeds ≤ _; omega) hw.levels hw.classes
theorem wf_end {x : X6} {k : Nat} {c : Int} (h : Wf x k) : (∃ e st, (endX0 x).st = e :: st) ∧ Wf (endX x c) (k + 1) := by
 have hw := h.ended
 obtain ⟨e, st, hst⟩ := hw.top
 have hst' : (endX0 x).st = e :: st := hst
 have hl : (endX0 x).levels = x.levels ∧ (endX0 x).classes = x.classes := by unfold endX0; split <;> (try split) <;> exact ⟨rfl, rfl⟩
 refine ⟨⟨e, st, hst'⟩, ?_⟩
 unfold endX putX
 split
 ·rename_i h0; rw [hst'] at h0; cases h0
 ·exact ⟨hw.base, hw.ne, hw.mono, hw.rng, hw.bot, hw.isos, hw.embeds, hw.valid, by simp [hl, h.levels], by simp [hl, h.classes]⟩
theorem wf_back {x : X6} {k : Nat} (h : Wf x k) : Wf (backX x) (k + 1) := by
 obtain ⟨e, st, hst⟩ := h.top
 have hi := h.isos
 have he := h.embeds
 unfold backX
 split
 ·rename_i h0; rw [hst] at h0; cases h0
 ·rename_i e' st' h0
  rw [hst] at h0
  injection h0 with h1 h2
  subst h1
  subst h2
  simp only
  split
  ·exact h.tell rfl rfl rfl (by show x.isos ≤ _; omega) (by show x.embeds ≤ _; omega) (by simp [h.levels]) (by simp [h.classes])
  ·split
   ·exact h.tell rfl rfl rfl (by show x.isos ≤ _; omega) (by show x.embeds - 1 ≤ _; omega) (by simp [h.levels]) (by simp [h.classes])
   ·split
    ·rename_i hcond
     obtain ⟨s, b, a1, a2, a3, a4⟩ := h.bot
     have hv := h.valid
     have hs : ∃ s', s = e :: s' ∧ st = s' ++ [b] := by
      rw [hst] at a1
      cases s with
      | nil => simp at a1; have := a1.2; subst this; simp at hcond
      | cons a s' => simp at a1; exact ⟨s', by rw [a1.1], a1.2⟩
     obtain ⟨s', hs1, hs2⟩ := hs
     have hm := h.mono
     rw [hst] at hm
     refine ⟨h.base, ?_, (List.pairwise_cons.1 hm).2, fun a ha => h.rng a (by rw [hst]; exact List.mem_cons_of_mem _ ha), ⟨s', b, hs2, a2, a3, ?_⟩, by show x.isos ≤ _; omega, by show x.embeds ≤ _; omega, by show x.valid ≤ _; omega, by simp [h.levels], by simp [h.classes]⟩
     ·show st ≠ []
      rw [hs2]; simp
     ·rw [hs1, List.filter_cons, hcond.1] at a4
      simpa using a4
    ·exact h.tell rfl rfl rfl (by show x.isos ≤ _; omega) (by show x.embeds ≤ _; omega) (by simp [h.levels]) (by simp [h.classes])
theorem wf_step {x : X6} {k : Nat} (l : List Int) (c : Int) (h : Wf x k) : Wf (stepX l x k c) (k + 1) := by
 obtain ⟨e, st, hst⟩ := h.top
 unfold stepX
 split
 ·exact wf_embed h
 ·split
  ·exact wf_isolate h
  ·split
   ·exact (wf_end h).2
   ·split
    ·exact wf_back h
    ·split
     ·rw [hst]; exact wf_tellX h
     ·split
      ·exact wf_tellX (wf_start h.base h.levels h.classes)
      ·split
       ·exact wf_put h
       ·exact wf_put h
theorem wf_run (l : List Int) (base : Int) : ∀ k, Wf (runX l base k) k := by
 intro k
 induction k with
 | zero => exact wf_start (by show (if base = 0 then (0 : Int) else 1) = 0 ∨ (if base = 0 then (0 : Int) else 1) = 1; split <;> simp) rfl rfl
 | succ k ih => exact wf_step l _ ih
end Go.Proofs.YtcbaahlahohfmaaGreatDoor
