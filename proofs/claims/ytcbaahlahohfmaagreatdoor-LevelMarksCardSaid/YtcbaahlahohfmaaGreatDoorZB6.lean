/- Shared texts, shaken for one claim. -/
import Derived.Test.YtcbaahlahohfmaaGreatDoorZB2
import Derived.Test.YtcbaahlahohfmaaGreatDoorZB4
import Derived.Test.YtcbaahlahohfmaaGreatDoorZB5
namespace Go.Proofs.YtcbaahlahohfmaaGreatDoor
open Go.RowKit
def stepP (p : P6) (l : List Int) (i k : Int) : P6 := if k = 10 then resetP p else if isOut k then embedP p k else if isOpens k then isolateP p l i else if k = 22 then endP p else p
def tellP (p : P6) (k : Int) : Int × Int := match p.st with
 | [] => (0, 0)
 | e :: _ => if k = 10 then (p.base, k) else if isOut k then (e.lev, k) else if isOpens k then (e.lev, overE e k)
  else if k = 22 then (match (endP p).st with | [] => (0, 0) | e2 :: _ => (e2.lev, overE e2 k)) else (e.lev, overE e (knownI k))
theorem ret_2 {a : Int × Int} {x y : Int} (h : a = (x, y)) : Ending.returned (.tuple #[.int .i64 x, .int .i64 y]) = .returned (.tuple #[.int .i64 a.1, .int .i64 a.2]) := by rw [h]
theorem unwind_le (st : List Ent) : (unwind st).length ≤ st.length := by
 unfold unwind
 rw [List.length_tail]
 have := (List.dropWhile_sublist (l := st) (p := fun e => !e.iso)).length_le
 omega
theorem endP_len (p : P6) : (endP p).st.length ≤ p.st.length := by
 unfold endP
 split
 ·exact Nat.le_refl _
 ·split
  ·exact unwind_le _
  ·exact Nat.le_refl _
abbrev asideAt (w : World) (a : Nat) (e : Ent) : Prop := w.cell? ⟨a, 0, none⟩ = some (.int .i64 e.lev) ∧ w.cell? ⟨a, 1, none⟩ = some (.int .i64 e.over) ∧ w.cell? ⟨a, 2, none⟩ = some (.bool e.iso)
theorem LitAt.aside {w : World} {a : Nat} {e : Ent} (h : LitAt w a e.cells) : asideAt w a e := ⟨h.cells 0 _ rfl, h.cells 1 _ rfl, h.cells 2 _ rfl⟩
set_option maxRecDepth 20000 in
set_option maxHeartbeats 8000000 in
theorem step_any (w : World) (B g : Nat) (p : P6) (A : Option Addr) (l : List Int) (cap : Nat) (i : Nat) (hi : i < l.length) (k : Int) (hk : l[i] = k) (e : Ent) (st : List Ent) (hst : p.st = e :: st) (hp : HasP w B g p (.slice A l.length cap)) (hs : p.Small) (hc : Ctx w B A l) (hl : l.length ≤ 1000000) (hcap : l.length ≤ cap)
 (hend : ∃ e2 st2, (endP p).st = e2 :: st2) :
 Calls Tryz.prog 46 #[.pointer (some ⟨g, 0, none⟩), .int .i64 (i : Int)] w fun ed w' => ed = .returned (.tuple #[.int .i64 (tellP p k).1, .int .i64 (tellP p k).2]) ∧ HasP w' B g (stepP p l i k) (.slice A l.length cap) ∧ Below B w w' := by
 obtain ⟨sv, h⟩ := hp
 obtain ⟨r, hr⟩ : ∃ r, tellP p k = r := ⟨_, rfl⟩
 obtain ⟨q, hq⟩ : ∃ q, stepP p l i k = q := ⟨_, rfl⟩
 rw [hr, hq]
 have HR := Lib.hid hr
 have HQ := Lib.hid hq
 have HST := Lib.hid hst
 have HC := Lib.hid hc
 have HS := Lib.hid hs
 have hsm : p.st.length ≤ 1000000 := by have := hs.st; omega
 obtain ⟨pa, rfl, hpb, hcell⟩ := hc.list.int hi
 rw [hk] at hcell
 have h0 := h.field 0 (by omega)
 simp only [P6.cells, List.getElem?_cons_zero] at h0
 have b0 : (0 : Int) ≤ (i : Int) := by omega
 have b1 : (i : Int) < (l.length : Int) := by omega
 have HP := Lib.hid h
 have HE2 := Lib.hid hend
 clear hst h hs hc hr hq hend
 go_enter Tryz.func46, Tryz.ntmps46
 go_wp2_with fail
 refine (plast_any w B g p _ e st HST.out ⟨_, HP.out⟩ hsm).mono ?_
 rintro ed w1 ⟨rfl, b1_⟩
 have X1 := Lib.hid (HP.out.below b1_ (Nat.le_refl _))
 have B1 := Lib.hid (b1_.mono HP.out.le)
 clear b1_ hcell h0
 obtain ⟨w2, hw2⟩ : ∃ u, w1.alloc (.cells #[.int .i64 e.lev, .int .i64 e.over, .bool e.iso] 88) = u := ⟨_, rfl⟩
 have X2 : Hid (IsP w2 B g p (.slice (some pa) l.length cap) sv) := Lib.hid (hw2 ▸ X1.out.alloc _)
 have T2 : Hid (LitAt w2 w1.heap.size e.cells) := Lib.hid (hw2 ▸ LitAt.new w1 88 #[.int .i64 e.lev, .int .i64 e.over, .bool e.iso])
 have B2 : Hid (Below B w w2) := Lib.hid (hw2 ▸ B1.out.trans ((below_alloc w1 _).mono X1.out.le))
 have HW2 := Lib.hid hw2
 have FA : Hid (w1.heap.size ≠ g ∧ sv.ownBlock ≠ some w1.heap.size) := Lib.hid ⟨by have := X1.out.inside; omega, fun e1 => by have := (X1.out.stack.inside _ e1).2; omega⟩
 clear hw2
 rcases h10 : (k == 10) with _ | _
 ·have n10 : ¬ k = 10 := by simpa using h10
  rcases hO : isOut k with _ | _
  ·rcases hP : isOpens k with _ | _
   ·rcases h22 : (k == 22) with _ | _
    ·have HE : Hid (p = q ∧ r = (e.lev, overE e (knownI k))) := Lib.hid ⟨by rw [← HQ.out, stepP, if_neg n10, if_neg (by rw [hO]; simp), if_neg (by rw [hP]; simp), if_neg (by simpa using h22)], by
      rw [← HR.out]; unfold tellP; rw [HST.out]; simp only; rw [if_neg n10, if_neg (by rw [hO]; simp), if_neg (by rw [hP]; simp), if_neg (by simpa using h22)]⟩
     have HO := Lib.hid hO
     have HPN := Lib.hid hP
     clear n10 hO hP
     go_wp2_with fail
     rw [HW2.out]
     refine (out_any k w2).mono ?_
     rintro ed w3 ⟨rfl, b3⟩
     rw [HO.out]
     have X3 := Lib.hid (X2.out.below b3 (Nat.le_refl _))
     have T3 := Lib.hid (T2.out.below b3)
     have B3 := Lib.hid (B2.out.trans (b3.mono X2.out.le))
     clear b3
     go_wp2_with fail
     refine (opens_any k w3).mono ?_
     rintro ed w4 ⟨rfl, b4⟩
     rw [HPN.out]
     have X4 := Lib.hid (X3.out.below b4 (Nat.le_refl _))
     have T4 := Lib.hid (T3.out.below b4)
     have B4 := Lib.hid (B3.out.trans (b4.mono X3.out.le))
     clear b4
     go_wp2_with fail
     refine wp_region_E (S := fun w' => asideAt w' w1.heap.size e) [] (by kernel_rfl) (T4.out.aside) (fun hHeld hZ => ?_)
     refine' eY 0 hHeld hZ fun hZ => ?_
     try simp only [Act.put,ZA,ZB,ZD,ZE,ZF]
     refine' eY 1 hHeld hZ fun hZ => ?_
     try simp only [Act.put,ZA,ZB,ZC,ZD,ZE,ZF]
     refine' eY 2 hHeld hZ fun hZ => ?_
     try simp only [Act.put,ZA,ZB,ZC,ZD,ZE,ZF]
     refine' eY 3 hHeld hZ fun hZ => ?_
     try simp only [Act.put,ZA,ZB,ZC,ZD,ZE,ZF]
     have X4d := Lib.hid (X4.out.same (w' := w4.drew) rfl)
     have T4d : Hid (LitAt w4.drew w1.heap.size e.cells) := Lib.hid ⟨T4.out.lt, T4.out.cells⟩
     have B4d : Hid (Below B w w4.drew) := Lib.hid (below_drawn B4.out 1)
     generalize w4.drew = u0 at X4d T4d B4d hHeld ⊢
     refine eA 4 fun K hK => ?_
     go_simp
     refine (known_any k u0 (HC.out.below B4d.out).tabs).mono ?_
     rintro ed u1 ⟨rfl, rfl⟩
     refine eB hK hZ (T4d.out.aside) fun hHeld hZ => ?_
     clear hK K
     try simp only [Act.put,ZA,ZB,ZC,ZD,ZE,ZF]
     refine eA 5 fun K hK => ?_
     go_simp
     refine (over_any e (knownI k) u0).mono ?_
     rintro ed u2 ⟨rfl, b_⟩
     have X5 := Lib.hid (X4d.out.below b_ (Nat.le_refl _))
     have T5 := Lib.hid (T4d.out.below b_)
     have B5 := Lib.hid (B4d.out.trans (b_.mono X4d.out.le))
     clear b_
     refine eB hK hZ (T5.out.aside) fun hHeld hZ => ?_
     clear hK K
     try simp only [Act.put,ZA,ZB,ZC,ZD,ZE,ZF]
     refine' eX 6 hZ fun hZ => ?_
     try simp only [Act.put,ZA,ZB,ZC,ZD,ZE,ZF]
     refine' eX 7 hZ fun hZ => ?_
     try simp only [Act.put,ZA,ZB,ZC,ZD,ZE,ZF]
     refine wpAnyE_done (by kernel_rfl) ?_ _
     clear hZ
     go_wp2_with fail
     go_ret2
     exact ⟨ret_2 HE.out.2, by rw [← HE.out.1]; exact ⟨_, X5.out⟩, B5.out⟩
    ·obtain ⟨e2, st2, he2⟩ := HE2.out
     have HE2' := Lib.hid he2
     have HE : Hid (endP p = q ∧ r = (e2.lev, overE e2 k)) := Lib.hid ⟨by rw [← HQ.out, stepP, if_neg n10, if_neg (by rw [hO]; simp), if_neg (by rw [hP]; simp), if_pos (by simpa using h22)], by
      rw [← HR.out]; unfold tellP; rw [HST.out]; simp only; rw [if_neg n10, if_neg (by rw [hO]; simp), if_neg (by rw [hP]; simp), if_pos (by simpa using h22), he2]⟩
     have hel : (endP p).st.length ≤ 1000000 := Nat.le_trans (endP_len p) hsm
     have HO := Lib.hid hO
     have HPN := Lib.hid hP
     have hf0 := pfield0 e2.lev e2.over e2.iso
     clear n10 hO hP he2
     go_wp2_with fail
     rw [HW2.out]
     refine (out_any k w2).mono ?_
     rintro ed w3 ⟨rfl, b3⟩
     rw [HO.out]
     have X3 := Lib.hid (X2.out.below b3 (Nat.le_refl _))
     have B3 := Lib.hid (B2.out.trans (b3.mono X2.out.le))
     clear b3
     go_wp2_with fail
     refine (opens_any k w3).mono ?_
     rintro ed w4 ⟨rfl, b4⟩
     rw [HPN.out]
     have X4 := Lib.hid (X3.out.below b4 (Nat.le_refl _))
     have B4 := Lib.hid (B3.out.trans (b4.mono X3.out.le))
     clear b4
     go_wp2_with fail
     refine (endIsolate_any w4 B g p _ sv e2 st2 HE2'.out X4.out HS.out).mono ?_
     rintro ed w5 ⟨rfl, x5, b5⟩
     have X5 := Lib.hid x5
     have B5 := Lib.hid (B4.out.trans b5)
     clear x5 b5
     go_wp2_with fail
     refine (plast_any w5 B g (endP p) _ e2 st2 HE2'.out X5.out hel).mono ?_
     rintro ed w6 ⟨rfl, b6⟩
     have X6 := Lib.hid (X5.out.below b6)
     have B6 := Lib.hid (B5.out.trans (b6.mono X5.out.le))
     clear b6
     go_wp2_with fail
     refine (plast_any w6 B g (endP p) _ e2 st2 HE2'.out X6.out hel).mono ?_
     rintro ed w7 ⟨rfl, b7⟩
     have X7 := Lib.hid (X6.out.below b7)
     have B7 := Lib.hid (B6.out.trans (b7.mono X6.out.le))
     clear b7
     go_wp2_with fail
     refine (over_any e2 k w7).mono ?_
     rintro ed w8 ⟨rfl, b8⟩
     have X8 := Lib.hid (X7.out.below b8)
     have B8 := Lib.hid (B7.out.trans (b8.mono X7.out.le))
     clear b8
     go_wp2_with fail
     go_ret2
     exact ⟨ret_2 HE.out.2, by rw [← HE.out.1]; exact X8.out, B8.out⟩
   ·have HE : Hid (isolateP p l i = q ∧ r = (e.lev, overE e k)) := Lib.hid ⟨by rw [← HQ.out, stepP, if_neg n10, if_neg (by rw [hO]; simp), if_pos hP], by
     rw [← HR.out]; unfold tellP; rw [HST.out]; simp only; rw [if_neg n10, if_neg (by rw [hO]; simp), if_pos hP]⟩
    have HO := Lib.hid hO
    have HPN := Lib.hid hP
    clear n10 hO hP
    go_wp2_with fail
    rw [HW2.out]
    refine (out_any k w2).mono ?_
    rintro ed w3 ⟨rfl, b3⟩
    rw [HO.out]
    have X3 := Lib.hid (X2.out.below b3 (Nat.le_refl _))
    have T3 := Lib.hid (T2.out.below b3)
    have B3 := Lib.hid (B2.out.trans (b3.mono X2.out.le))
    clear b3
    go_wp2_with fail
    refine (opens_any k w3).mono ?_
    rintro ed w4 ⟨rfl, b4⟩
    rw [HPN.out]
    have X4 := Lib.hid (X3.out.below b4 (Nat.le_refl _))
    have T4 := Lib.hid (T3.out.below b4)
    have B4 := Lib.hid (B3.out.trans (b4.mono X3.out.le))
    clear b4
    go_wp2_with fail
    refine (pisolate_any w4 B g p (some pa) l cap sv i e st HST.out X4.out HS.out (HC.out.below B4.out) hl hcap).mono ?_
    rintro ed w5 ⟨rfl, ⟨sv5, x5, f5⟩, b5⟩
    have X5 := Lib.hid x5
    have B5 := Lib.hid (B4.out.trans b5)
    have T5 : Hid (LitAt w5 w1.heap.size e.cells) := Lib.hid ⟨Nat.lt_of_lt_of_le T4.out.lt f5.size, fun i u hu => (f5.cell T4.out.lt FA.out.1 FA.out.2).trans (T4.out.cells i u hu)⟩
    clear x5 b5 f5
    go_wp2_with fail
    refine wp_region_E (S := fun w' => asideAt w' w1.heap.size e) [] (by kernel_rfl) (T5.out.aside) (fun hHeld hZ => ?_)
    refine' eY 0 hHeld hZ fun hZ => ?_
    try simp only [Act.put,ZA,ZB,ZD,ZE,ZF]
    refine' eY 1 hHeld hZ fun hZ => ?_
    try simp only [Act.put,ZA,ZB,ZC,ZD,ZE,ZF]
    refine' eY 2 hHeld hZ fun hZ => ?_
    try simp only [Act.put,ZA,ZB,ZC,ZD,ZE,ZF]
    refine' eY 3 hHeld hZ fun hZ => ?_
    try simp only [Act.put,ZA,ZB,ZC,ZD,ZE,ZF]
    have X5d := Lib.hid (X5.out.same (w' := w5.drew) rfl)
    have T5d : Hid (LitAt w5.drew w1.heap.size e.cells) := Lib.hid ⟨T5.out.lt, T5.out.cells⟩
    have B5d : Hid (Below B w w5.drew) := Lib.hid (below_drawn B5.out 1)
    generalize w5.drew = u0 at X5d T5d B5d hHeld ⊢
    refine eA 4 fun K hK => ?_
    go_simp
    refine (over_any e k u0).mono ?_
    rintro ed u2 ⟨rfl, b_⟩
    have X6 := Lib.hid (X5d.out.below b_ (Nat.le_refl _))
    have T6 := Lib.hid (T5d.out.below b_)
    have B6 := Lib.hid (B5d.out.trans (b_.mono X5d.out.le))
    clear b_
    refine eB hK hZ (T6.out.aside) fun hHeld hZ => ?_
    clear hK K
    try simp only [Act.put,ZA,ZB,ZC,ZD,ZE,ZF]
    refine' eX 5 hZ fun hZ => ?_
    try simp only [Act.put,ZA,ZB,ZC,ZD,ZE,ZF]
    refine' eX 6 hZ fun hZ => ?_
    try simp only [Act.put,ZA,ZB,ZC,ZD,ZE,ZF]
    refine wpAnyE_done (by kernel_rfl) ?_ _
    clear hZ
    go_wp2_with fail
    go_ret2
    exact ⟨ret_2 HE.out.2, by rw [← HE.out.1]; exact ⟨_, X6.out⟩, B6.out⟩
  ·have HE : Hid (embedP p k = q ∧ r = (e.lev, k)) := Lib.hid ⟨by rw [← HQ.out, stepP, if_neg n10, if_pos hO], by
    rw [← HR.out]; unfold tellP; rw [HST.out]; simp only; rw [if_neg n10, if_pos hO]⟩
   have HO := Lib.hid hO
   clear n10 hO
   go_wp2_with fail
   rw [HW2.out]
   refine (out_any k w2).mono ?_
   rintro ed w3 ⟨rfl, b3⟩
   rw [HO.out]
   have X3 := Lib.hid (X2.out.below b3 (Nat.le_refl _))
   have T3 := Lib.hid (T2.out.below b3)
   have B3 := Lib.hid (B2.out.trans (b3.mono X2.out.le))
   clear b3
   go_wp2_with fail
   refine (pembed_any w3 B g p _ sv k e st HST.out X3.out HS.out).mono ?_
   rintro ed w4 ⟨rfl, ⟨sv4, x4, f4⟩, b4⟩
   have X4 := Lib.hid x4
   have B4 := Lib.hid (B3.out.trans b4)
   have hca : w4.cell? ⟨w1.heap.size, 0, none⟩ = some (.int .i64 e.lev) := (f4.cell T3.out.lt FA.out.1 FA.out.2).trans (T3.out.cells 0 _ rfl)
   clear x4 f4 b4
   go_wp2_with fail
   go_ret2
   exact ⟨ret_2 HE.out.2, by rw [← HE.out.1]; exact ⟨_, X4.out⟩, B4.out⟩
 ·have HE : Hid (resetP p = q ∧ r = (p.base, k)) := Lib.hid ⟨by rw [← HQ.out, stepP, if_pos (by simpa using h10)], by
   rw [← HR.out]; unfold tellP; rw [HST.out]; simp only; rw [if_pos (by simpa using h10)]⟩
  go_wp2_with fail
  rw [HW2.out]
  refine (reset_any w2 B g p _ sv X2.out (.inl (by rw [HST.out]; simp)) hsm).mono ?_
  rintro ed w3 ⟨rfl, ⟨sv3, x3⟩, b3⟩
  have h1 := x3.field 1 (by omega)
  simp only [P6.cells, resetP, List.getElem?_cons_succ, List.getElem?_cons_zero] at h1
  have X3 := Lib.hid x3
  have B3 := Lib.hid (B2.out.trans b3)
  clear x3 b3
  go_wp2_with fail
  go_ret2
  exact ⟨ret_2 HE.out.2, by rw [← HE.out.1]; exact ⟨_, X3.out⟩, B3.out⟩
end Go.Proofs.YtcbaahlahohfmaaGreatDoor
namespace Go.Proofs.YtcbaahlahohfmaaGreatDoor
open Go.RowKit
def backX (x : X6) : X6 := match x.st with
 | [] => x
 | e :: st =>
  let y : X6 := { x with levels := x.levels ++ [e.lev], classes := x.classes ++ [18] }
  if 0 < x.isos then y else if 0 < x.embeds then { y with embeds := x.embeds - 1 } else if e.iso = false ∧ 1 ≤ st.length then { y with st := st } else y
end Go.Proofs.YtcbaahlahohfmaaGreatDoor
namespace Go.Proofs.YtcbaahlahohfmaaGreatDoor
open Go.RowKit
def tellX (x : X6) (z c : Int) : X6 := { x with levels := x.levels ++ [z], classes := x.classes ++ [c] }
def stepX (l : List Int) (x : X6) (i : Nat) (c : Int) : X6 :=
 if c = 16 ∨ c = 14 ∨ c = 17 ∨ c = 15 then embedX x c
 else if isOpens c then isolateX x l i c
 else if c = 22 then endX x c
 else if c = 18 then backX x
 else if c = 9 then (match x.st with | [] => x | e :: _ => tellX x e.lev c)
 else if c = 10 then tellX (startX x) x.base c
 else if c < 0 ∨ 22 < c then putX x 0
 else putX x c
def beginX (base : Int) : X6 := startX { base := if base = 0 then 0 else 1, st := [], isos := 0, embeds := 0, valid := 0, most := 0, levels := [], classes := [] }
def runX (l : List Int) (base : Int) : Nat → X6
 | 0 => beginX base
 | k + 1 => stepX l (runX l base k) k (at0 l k)
structure Wf (x : X6) (k : Nat) : Prop where
 base : x.base = 0 ∨ x.base = 1
 ne : x.st ≠ []
 mono : x.st.Pairwise (fun a b => b.lev < a.lev)
 rng : ∀ e ∈ x.st, x.base ≤ e.lev ∧ e.lev ≤ 125
 bot : ∃ s b, x.st = s ++ [b] ∧ b.iso = false ∧ b.lev = x.base ∧ (s.filter (·.iso)).length = x.valid
 isos : x.isos ≤ k
 embeds : x.embeds ≤ k
 valid : x.valid ≤ k
 levels : x.levels.length = k
 classes : x.classes.length = k
theorem nextL_spec {k d : Int} (h0 : 0 ≤ k) (h1 : k ≤ 125) : k < nextL k d ∧ nextL k d ≤ k + 2 := by
 unfold nextL
 rw [if_neg (by omega)]
 repeat' split
 all_goals omega
theorem fits_le {x : X6} {n : Int} (h : fitsX x n = true) : n ≤ 125 ∧ x.isos = 0 ∧ x.embeds = 0 := by
 simp [fitsX] at h
 omega
theorem Wf.top {x : X6} {k : Nat} (h : Wf x k) : ∃ e st, x.st = e :: st := by
 cases hs : x.st with
 | nil => exact absurd hs h.ne
 | cons e st => exact ⟨e, st, rfl⟩
theorem Wf.tell {x y : X6} {k : Nat} (h : Wf x k) (h1 : y.base = x.base) (h2 : y.st = x.st) (h3 : y.valid = x.valid) (h4 : y.isos ≤ k + 1) (h5 : y.embeds ≤ k + 1) (h6 : y.levels.length = k + 1) (h7 : y.classes.length = k + 1) : Wf y (k + 1) := by
 refine ⟨by rw [h1]; exact h.base, by rw [h2]; exact h.ne, by rw [h2]; exact h.mono, by rw [h1, h2]; exact h.rng, ?_, h4, h5, by rw [h3]; have := h.valid; omega, h6, h7⟩
 obtain ⟨s, b, a1, a2, a3, a4⟩ := h.bot
 exact ⟨s, b, by rw [h2]; exact a1, a2, by rw [h1]; exact a3, by rw [h3]; exact a4⟩
theorem Wf.push {x y : X6} {k : Nat} (h : Wf x k) (n over : Int) (iso : Bool) (h1 : y.base = x.base) (h2 : y.st = ⟨n, over, iso⟩ :: x.st) (h3 : y.valid = x.valid + (if iso then 1 else 0)) (h4 : y.isos ≤ k + 1) (h5 : y.embeds ≤ k + 1) (h6 : y.levels.length = k + 1) (h7 : y.classes.length = k + 1)
 (hn : ∀ e st, x.st = e :: st → e.lev < n) (hn2 : n ≤ 125) : Wf y (k + 1) := by
 obtain ⟨e, st, hst⟩ := h.top
 have hlt := hn e st hst
 have hb := (h.rng e (by rw [hst]; simp)).1
 refine ⟨by rw [h1]; exact h.base, by rw [h2]; simp, ?_, ?_, ?_, h4, h5, by rw [h3]; have := h.valid; split <;> omega, h6, h7⟩
 ·rw [h2]
  refine List.Pairwise.cons (fun b hb => ?_) h.mono
  have hm := h.mono
  rw [hst] at hm hb
  rcases List.mem_cons.1 hb with rfl | hb
  ·exact hlt
  ·have := (List.pairwise_cons.1 hm).1 b hb
   show b.lev < n
   omega
 ·rw [h1, h2]
  intro a ha
  rcases List.mem_cons.1 ha with rfl | ha
  ·exact ⟨by show x.base ≤ n; omega, hn2⟩
  ·exact h.rng a ha
 ·obtain ⟨s, b, a1, a2, a3, a4⟩ := h.bot
  refine ⟨⟨n, over, iso⟩ :: s, b, by rw [h2, a1]; rfl, a2, by rw [h1]; exact a3, ?_⟩
  rw [h3, List.filter_cons]
  cases iso <;> simp [a4]
theorem drop_iso (s : List Ent) (b : Ent) (_hb : b.iso = false) (hv : 0 < (s.filter (·.iso)).length) :
 ∃ p e t, s = p ++ e :: t ∧ e.iso = true ∧ (∀ a ∈ p, a.iso = false) ∧ unwind (s ++ [b]) = t ++ [b] ∧ (t.filter (·.iso)).length + 1 = (s.filter (·.iso)).length := by
 induction s with
 | nil => simp at hv
 | cons a s ih =>
  cases ha : a.iso with
  | true => exact ⟨[], a, s, rfl, ha, (fun _ h => by cases h), by rw [List.cons_append, unwind_hit ha], by simp [ha]⟩
  | false =>
   have hf : (a :: s).filter (·.iso) = s.filter (·.iso) := by simp [ha]
   obtain ⟨p, e, t, h1, h2, h3, h4, h5⟩ := ih (by rw [hf] at hv; exact hv)
   refine ⟨a :: p, e, t, by rw [h1]; rfl, h2, fun c hc => ?_, by rw [List.cons_append, unwind_skip ha]; exact h4, by rw [hf]; exact h5⟩
   rcases List.mem_cons.1 hc with rfl | hc
   ·exact ha
   ·exact h3 c hc
theorem Wf.ended {x : X6} {k : Nat} (h : Wf x k) : Wf { endX0 x with levels := x.levels ++ [0], classes := x.classes ++ [0] } (k + 1) := by
 have h8 := h.levels
 have h9 := h.classes
 have hi := h.isos
 have he := h.embeds
 unfold endX0
 split
 ·exact h.tell rfl rfl rfl (by show x.isos - 1 ≤ _; omega) (by show x.embeds ≤ _; omega) (by simp [h8]) (by simp [h9])
 ·split
  ·rename_i h1 h2
   obtain ⟨s, b, a1, a2, a3, a4⟩ := h.bot
   obtain ⟨p, e, t, b1, b2, b3, b4, b5⟩ := drop_iso s b a2 (by omega)
   rw [← a1] at b4
   have hsub : (t ++ [b]).Sublist x.st := by
    rw [a1, b1, List.append_assoc]
    exact (List.Sublist.refl _).trans ((List.sublist_cons_self e (t ++ [b])).trans (List.sublist_append_right p _))
   have hv := h.valid
   refine ⟨h.base, ?_, ?_, ?_, ⟨t, b, b4, a2, a3, ?_⟩, by show x.isos ≤ _; omega, Nat.zero_le _, by show x.valid - 1 ≤ _; omega, by simp [h8], by simp [h9]⟩
   ·show unwind x.st ≠ []
    rw [b4]; simp
   ·show (unwind x.st).Pairwise _
    rw [b4]; exact h.mono.sublist hsub
   ·intro a ha
    have ha : a ∈ unwind x.st := ha
    rw [b4] at ha
    exact h.rng a (hsub.subset ha)
   ·show (t.filter (·.iso)).length = x.valid - 1
    omega
  ·exact h.tell rfl rfl rfl (by show x.isos ≤ _; omega) (by show x.embeds ≤ _; omega) (by simp [h8]) (by simp [h9])
theorem wf_put {x : X6} {k : Nat} {c : Int} (h : Wf x k) : Wf (putX x c) (k + 1) := by
 obtain ⟨e, st, hst⟩ := h.top
 have hi := h.isos
 have he := h.embeds
 unfold putX
 split
 ·rename_i h0; rw [hst] at h0; cases h0
 ·exact h.tell rfl rfl rfl (by show x.isos ≤ _; omega) (by show x.embeds ≤ _; omega) (by simp [h.levels]) (by simp [h.classes])
theorem wf_tellX {x : X6} {k : Nat} {z c : Int} (h : Wf x k) : Wf (tellX x z c) (k + 1) := by
 have hi := h.isos
 have he := h.embeds
 exact h.tell rfl rfl rfl (by show x.isos ≤ _; omega) (by show x.embeds ≤ _; omega) (by simp [tellX, h.levels]) (by simp [tellX, h.classes])
theorem wf_start {x : X6} {k : Nat} (h : x.base = 0 ∨ x.base = 1) (h1 : x.levels.length = k) (h2 : x.classes.length = k) : Wf (startX x) k := by
 refine ⟨h, by simp [startX], by simp [startX], ?_, ⟨[], ⟨x.base, -1, false⟩, rfl, rfl, rfl, rfl⟩, Nat.zero_le _, Nat.zero_le _, Nat.zero_le _, h1, h2⟩
 intro e he
 have : e = ⟨x.base, -1, false⟩ := by simpa [startX] using he
 subst this
 refine ⟨Int.le_refl _, ?_⟩
 show x.base ≤ 125
 omega
theorem wf_embed {x : X6} {k : Nat} {c : Int} (h : Wf x k) : Wf (embedX x c) (k + 1) := by
 obtain ⟨e, st, hst⟩ := h.top
 have hi := h.isos
 have he := h.embeds
 have hr := h.rng e (by rw [hst]; simp)
 have hb := h.base
 have hn := nextL_spec (k := e.lev) (d := dirOf c) (by omega) hr.2
 unfold embedX
 split
 ·rename_i h0; rw [hst] at h0; cases h0
 ·rename_i e' st' h0
  rw [hst] at h0
  injection h0 with h1 h2
  subst h1
  simp only
  split
  ·rename_i hf
   exact h.push (nextL e.lev (dirOf c)) (overOf c) false rfl rfl rfl (by show x.isos ≤ _; omega) (by show x.embeds ≤ _; omega) (by simp [pushX, h.levels]) (by simp [pushX, h.classes])
    (fun e2 st2 hs2 => by rw [hst] at hs2; injection hs2 with h3 _; subst h3; exact hn.1) (fits_le hf).1
  ·split
   ·exact h.tell rfl rfl rfl (by show x.isos ≤ _; omega) (by show x.embeds + 1 ≤ _; omega) (by simp [h.levels]) (by simp [h.classes])
   ·exact h.tell rfl rfl rfl (by show x.isos ≤ _; omega) (by show x.embeds ≤ _; omega) (by simp [h.levels]) (by simp [h.classes])
theorem wf_isolate {x : X6} {k : Nat} {l : List Int} {i c : Int} (h : Wf x k) : Wf (isolateX x l i c) (k + 1) := by
 obtain ⟨e, st, hst⟩ := h.top
 have hi := h.isos
 have he := h.embeds
 have hr := h.rng e (by rw [hst]; simp)
 have hb := h.base
 have hn := nextL_spec (k := e.lev) (d := isolate l i) (by omega) hr.2
 have hw := wf_put (c := c) h
 obtain ⟨p1, p2, p3, p4⟩ := putX_st x c
 have pb : (putX x c).base = x.base := by unfold putX; split <;> rfl
 unfold isolateX
 split
 ·rename_i h0; rw [hst] at h0; cases h0
 ·rename_i e' st' h0
  rw [hst] at h0
  injection h0 with h1 h2
  subst h1
  split
  ·rename_i hf
   exact h.push (nextL e.lev (isolate l i)) (-1) true pb (by show _ :: (putX x c).st = _; rw [p1]) (by show (putX x c).valid + 1 = _; rw [p2]; rfl) (by show (putX x c).isos ≤ _; omega) (by show (putX x c).embeds ≤ _; omega) hw.levels hw.classes
    (fun e2 st2 hs2 => by rw [hst] at hs2; injection hs2 with h3 _; subst h3; exact hn.1) (fits_le hf).1
  ·exact h.tell pb p1 p2 (by show (putX x c).isos + 1 ≤ _; omega) (by show (putX x c).embeds ≤ _; omega) hw.levels hw.classes
theorem wf_end {x : X6} {k : Nat} {c : Int} (h : Wf x k) : (∃ e st, (endX0 x).st = e :: st) ∧ Wf (endX x c) (k + 1) := by
 have hw := h.ended
 obtain ⟨e, st, hst⟩ := hw.top
 have hst' : (endX0 x).st = e :: st := hst
 have hl : (endX0 x).levels = x.levels ∧ (endX0 x).classes = x.classes := by unfold endX0; split <;> (try split) <;> exact ⟨rfl, rfl⟩
 refine ⟨⟨e, st, hst'⟩, ?_⟩
 unfold endX putX
 split
 ·rename_i h0; rw [hst'] at h0; cases h0
 ·exact ⟨hw.base, hw.ne, hw.mono, hw.rng, hw.bot, hw.isos, hw.embeds, hw.valid, by simp [hl, h.levels], by simp [hl, h.classes]⟩
theorem wf_back {x : X6} {k : Nat} (h : Wf x k) : Wf (backX x) (k + 1) := by
 obtain ⟨e, st, hst⟩ := h.top
 have hi := h.isos
 have he := h.embeds
 unfold backX
 split
 ·rename_i h0; rw [hst] at h0; cases h0
 ·rename_i e' st' h0
  rw [hst] at h0
  injection h0 with h1 h2
  subst h1
  subst h2
  simp only
  split
  ·exact h.tell rfl rfl rfl (by show x.isos ≤ _; omega) (by show x.embeds ≤ _; omega) (by simp [h.levels]) (by simp [h.classes])
  ·split
   ·exact h.tell rfl rfl rfl (by show x.isos ≤ _; omega) (by show x.embeds - 1 ≤ _; omega) (by simp [h.levels]) (by simp [h.classes])
   ·split
    ·rename_i hcond
     obtain ⟨s, b, a1, a2, a3, a4⟩ := h.bot
     have hv := h.valid
     have hs : ∃ s', s = e :: s' ∧ st = s' ++ [b] := by
      rw [hst] at a1
      cases s with
      | nil => simp at a1; have := a1.2; subst this; simp at hcond
      | cons a s' => simp at a1; exact ⟨s', by rw [a1.1], a1.2⟩
     obtain ⟨s', hs1, hs2⟩ := hs
     have hm := h.mono
     rw [hst] at hm
     refine ⟨h.base, ?_, (List.pairwise_cons.1 hm).2, fun a ha => h.rng a (by rw [hst]; exact List.mem_cons_of_mem _ ha), ⟨s', b, hs2, a2, a3, ?_⟩, by show x.isos ≤ _; omega, by show x.embeds ≤ _; omega, by show x.valid ≤ _; omega, by simp [h.levels], by simp [h.classes]⟩
     ·show st ≠ []
      rw [hs2]; simp
     ·rw [hs1, List.filter_cons, hcond.1] at a4
      simpa using a4
    ·exact h.tell rfl rfl rfl (by show x.isos ≤ _; omega) (by show x.embeds ≤ _; omega) (by simp [h.levels]) (by simp [h.classes])
theorem wf_step {x : X6} {k : Nat} (l : List Int) (c : Int) (h : Wf x k) : Wf (stepX l x k c) (k + 1) := by
 obtain ⟨e, st, hst⟩ := h.top
 unfold stepX
 split
 ·exact wf_embed h
 ·split
  ·exact wf_isolate h
  ·split
   ·exact (wf_end h).2
   ·split
    ·exact wf_back h
    ·split
     ·rw [hst]; exact wf_tellX h
     ·split
      ·exact wf_tellX (wf_start h.base h.levels h.classes)
      ·split
       ·exact wf_put h
       ·exact wf_put h
theorem wf_run (l : List Int) (base : Int) : ∀ k, Wf (runX l base k) k := by
 intro k
 induction k with
 | zero => exact wf_start (by show (if base = 0 then (0 : Int) else 1) = 0 ∨ (if base = 0 then (0 : Int) else 1) = 1; split <;> simp) rfl rfl
 | succ k ih => exact wf_step l _ ih
end Go.Proofs.YtcbaahlahohfmaaGreatDoor
namespace Go.Proofs.YtcbaahlahohfmaaGreatDoor
open Go.RowKit
theorem wf_small {x : X6} {k : Nat} (h : Wf x k) (hk : k ≤ 1000000) : x.Small := by
 have hlen : ∀ (st : List Ent) (b t : Int), st.Pairwise (fun a b => b.lev < a.lev) → (∀ e ∈ st, b ≤ e.lev ∧ e.lev ≤ t) → (st.length : Int) ≤ max (t - b + 1) 0 := by
  intro st
  induction st with
  | nil => intro b t _ _; simp; omega
  | cons e st ih =>
   intro b t hp hr
   obtain ⟨h1, h2⟩ := List.pairwise_cons.1 hp
   have h3 := hr e (by simp)
   have := ih b (e.lev - 1) h2 (fun a ha => ⟨(hr a (by simp [ha])).1, by have := h1 a ha; omega⟩)
   simp only [List.length_cons]
   omega
 have h1 := hlen x.st x.base 125 h.mono h.rng
 have hb := h.base
 exact ⟨by omega, by rw [h.levels]; exact hk, by rw [h.classes]; exact hk, by have := h.isos; omega, by have := h.embeds; omega, by have := h.valid; omega⟩
end Go.Proofs.YtcbaahlahohfmaaGreatDoor
namespace Go.Proofs.YtcbaahlahohfmaaGreatDoor
open Go.RowKit
def X6.core (x : X6) : P6 := ⟨x.base, x.st, x.isos, x.embeds, x.valid⟩
def OvOk (x : X6) : Prop := ∀ e ∈ x.st, e.over = -1 ∨ e.over = 0 ∨ e.over = 1
theorem overE_eq {e : Ent} (h : e.over = -1 ∨ e.over = 0 ∨ e.over = 1) (c : Int) : (if 0 ≤ e.over then e.over else c) = overE e c := by
 unfold overE
 rcases h with h | h | h <;> rw [h] <;> simp
theorem isOut_cases (c : Int) : isOut c = true ↔ c = 14 ∨ c = 15 ∨ c = 16 ∨ c = 17 ∨ c = 18 ∨ c = 9 := by simp [isOut]
theorem isOpens_cases (c : Int) : isOpens c = true ↔ c = 19 ∨ c = 20 ∨ c = 21 := by simp [isOpens]
theorem core_put (x : X6) (c : Int) : (putX x c).core = x.core := by unfold putX; split <;> rfl
theorem fits_core (x : X6) (n : Int) : fitsX x n = (decide (n ≤ 125) && !overP x.core) := by
 unfold fitsX overP X6.core
 cases h1 : x.isos <;> cases h2 : x.embeds <;> simp <;> omega
theorem core_embed {x : X6} {e : Ent} {st : List Ent} (hst : x.st = e :: st) (c : Int) :
 (embedX x c).core = beginP x.core (dirOf c) (overOf c) := by
 have hcs : x.core.st = e :: st := hst
 have hF : fitP x.core (dirOf c) = decide (nextL e.lev (dirOf c) ≤ 125) := by unfold fitP; rw [hcs]
 have hU : pushP x.core (dirOf c) (overOf c) false = if nextL e.lev (dirOf c) ≤ 125 then { x.core with st := ⟨nextL e.lev (dirOf c), overOf c, false⟩ :: x.core.st } else x.core := by unfold pushP; rw [hcs]
 unfold embedX beginP
 split
 ·rename_i h; rw [hst] at h; cases h
 ·rename_i e' st' h
  rw [hst] at h
  injection h with h1 h2
  subst h1
  simp only
  rw [fits_core, hF, hU]
  have hc : ({ x with levels := x.levels ++ [e.lev], classes := x.classes ++ [c] } : X6).core = x.core := rfl
  rw [hc]
  cases hO : overP x.core with
  | true =>
   simp only [Bool.not_true, Bool.and_false, Bool.true_or, if_true]
   rw [if_neg (by simp)]
   by_cases h0 : x.isos = 0
   ·rw [if_pos h0, if_pos (show x.core.isos = 0 from h0)]; rfl
   ·rw [if_neg h0, if_neg (show ¬ x.core.isos = 0 from h0)]; rfl
  | false =>
   have hi : x.isos = 0 := by unfold overP X6.core at hO; simp at hO; omega
   by_cases hn : nextL e.lev (dirOf c) ≤ 125
   ·rw [if_pos (by simp [hn]), if_neg (by simp [hn]), if_pos hn]; rfl
   ·rw [if_neg (show ¬ (decide (nextL e.lev (dirOf c) ≤ 125) && !false) = true by simp [hn]), if_pos (show (false || !decide (nextL e.lev (dirOf c) ≤ 125)) = true by simp [hn]), if_pos hi, if_pos (show x.core.isos = 0 from hi)]; rfl
theorem core_isolate {x : X6} {e : Ent} {st : List Ent} (hst : x.st = e :: st) (l : List Int) (i c : Int) :
 (isolateX x l i c).core = isolateP x.core l i := by
 have hcs : x.core.st = e :: st := hst
 have hF : fitP x.core (isolate l i) = decide (nextL e.lev (isolate l i) ≤ 125) := by unfold fitP; rw [hcs]
 have hU : pushP x.core (isolate l i) (-1) true = if nextL e.lev (isolate l i) ≤ 125 then { x.core with st := ⟨nextL e.lev (isolate l i), -1, true⟩ :: x.core.st } else x.core := by unfold pushP; rw [hcs]
 have hp := core_put x c
 obtain ⟨p1, p2, p3, p4⟩ := putX_st x c
 unfold isolateX isolateP
 split
 ·rename_i h; rw [hst] at h; cases h
 ·rename_i e' st' h
  rw [hst] at h
  injection h with h1 h2
  subst h1
  rw [fits_core, hp, hF, hU]
  cases hO : overP x.core with
  | true =>
   simp only [Bool.not_true, Bool.and_false, Bool.true_or, if_true]
   rw [if_neg (by simp)]
   show P6.mk _ _ _ _ _ = P6.mk _ _ _ _ _
   rw [p1, p2, p3, p4]
   have : (putX x c).base = x.base := congrArg P6.base hp
   rw [this]; rfl
  | false =>
   by_cases hn : nextL e.lev (isolate l i) ≤ 125
   ·rw [if_pos (by simp [hn]), if_neg (by simp [hn]), if_pos hn]
    show P6.mk _ _ _ _ _ = P6.mk _ _ _ _ _
    have : (putX x c).base = x.base := congrArg P6.base hp
    show P6.mk (putX x c).base (_ :: (putX x c).st) (putX x c).isos (putX x c).embeds ((putX x c).valid + 1) = _
    rw [p1, p2, p3, p4, this]; rfl
   ·rw [if_neg (by simp [hn]), if_pos (by simp [hn])]
    show P6.mk (putX x c).base (putX x c).st ((putX x c).isos + 1) (putX x c).embeds (putX x c).valid = _
    have : (putX x c).base = x.base := congrArg P6.base hp
    rw [p1, p2, p3, p4, this]; rfl
theorem core_end (x : X6) (c : Int) : (endX x c).core = endP x.core := by
 rw [endX, core_put]
 unfold endX0 endP
 by_cases h : 0 < x.isos
 ·rw [if_pos h, if_pos (show 0 < x.core.isos from h)]; rfl
 ·rw [if_neg h, if_neg (show ¬ 0 < x.core.isos from h)]
  by_cases h2 : 0 < x.valid
  ·rw [if_pos h2, if_pos (show 0 < x.core.valid from h2)]; rfl
  ·rw [if_neg h2, if_neg (show ¬ 0 < x.core.valid from h2)]
theorem core_back {x : X6} {e : Ent} {st : List Ent} (hst : x.st = e :: st) : (backX x).core = backP x.core := by
 have hB : backP x.core = if 0 < x.isos then x.core else if 0 < x.embeds then { x.core with embeds := x.embeds - 1 } else if e.iso = false ∧ 1 ≤ st.length then { x.core with st := st } else x.core := by
  have hcs : x.core.st = e :: st := hst
  unfold backP
  by_cases h : 0 < x.core.isos
  ·rw [if_pos h, if_pos (show 0 < x.isos from h)]
  ·rw [if_neg h, if_neg (show ¬ 0 < x.isos from h)]
   by_cases h2 : 0 < x.core.embeds
   ·rw [if_pos h2, if_pos (show 0 < x.embeds from h2)]; rfl
   ·rw [if_neg h2, if_neg (show ¬ 0 < x.embeds from h2), hcs]
 rw [hB]
 unfold backX
 split
 ·rename_i h; rw [hst] at h; cases h
 ·rename_i e' st' h
  rw [hst] at h
  injection h with h1 h2
  subst h1
  subst h2
  simp only
  by_cases h : 0 < x.isos
  ·rw [if_pos h, if_pos h]; rfl
  ·rw [if_neg h, if_neg h]
   by_cases h2 : 0 < x.embeds
   ·rw [if_pos h2, if_pos h2]; rfl
   ·rw [if_neg h2, if_neg h2]
    by_cases h3 : e.iso = false ∧ 1 ≤ st.length
    ·rw [if_pos h3, if_pos h3]; rfl
    ·rw [if_neg h3, if_neg h3]; rfl
theorem core_step {x : X6} {e : Ent} {st : List Ent} (hst : x.st = e :: st) (l : List Int) (i : Nat) (c : Int) : (stepX l x i c).core = stepP x.core l i c := by
 unfold stepX stepP
 by_cases h1 : c = 16 ∨ c = 14 ∨ c = 17 ∨ c = 15
 ·have hO : isOut c = true := (isOut_cases c).2 (by omega)
  rw [if_pos h1, if_neg (by omega), if_pos hO, core_embed hst]
  unfold embedP
  rcases h1 with h | h | h | h <;> subst h <;> simp [dirOf, overOf]
 ·rw [if_neg h1]
  by_cases h2 : isOpens c = true
  ·have h2' := (isOpens_cases c).1 h2
   have hO : ¬ isOut c = true := fun h => by have := (isOut_cases c).1 h; omega
   rw [if_pos h2, if_neg (by omega), if_neg hO, if_pos h2, core_isolate hst]
  ·have h2' : ¬ (c = 19 ∨ c = 20 ∨ c = 21) := fun h => h2 ((isOpens_cases c).2 h)
   rw [if_neg h2]
   by_cases h3 : c = 22
   ·have hO : ¬ isOut c = true := fun h => by have := (isOut_cases c).1 h; omega
    rw [if_pos h3, if_neg (by omega), if_neg hO, if_neg h2, if_pos h3, core_end]
   ·rw [if_neg h3]
    by_cases h4 : c = 18
    ·have hO : isOut c = true := (isOut_cases c).2 (by omega)
     rw [if_pos h4, if_neg (by omega), if_pos hO, core_back hst]
     subst h4; simp [embedP]
    ·rw [if_neg h4]
     by_cases h5 : c = 9
     ·have hO : isOut c = true := (isOut_cases c).2 (by omega)
      rw [if_pos h5, if_neg (by omega), if_pos hO, hst]
      subst h5; simp [embedP, tellX]; rfl
     ·rw [if_neg h5]
      by_cases h6 : c = 10
      ·rw [if_pos h6, if_pos h6]; rfl
      ·have hO : ¬ isOut c = true := fun h => by have := (isOut_cases c).1 h; omega
       rw [if_neg h6, if_neg h6, if_neg hO, if_neg h2, if_neg h3]
       split <;> exact core_put _ _
structure Told (x y : X6) (r : Int × Int) : Prop where
 levels : y.levels = x.levels ++ [r.1]
 classes : y.classes = x.classes ++ [r.2]
theorem told_put {x : X6} {e : Ent} {st : List Ent} (hst : x.st = e :: st) (ho : OvOk x) (c : Int) : Told x (putX x c) (e.lev, overE e c) := by
 have he := ho e (by rw [hst]; simp)
 unfold putX
 split
 ·rename_i h; rw [hst] at h; cases h
 ·rename_i e' st' h
  rw [hst] at h
  injection h with h1 _
  subst h1
  exact ⟨rfl, by rw [overE_eq he]⟩
theorem ov_end {x : X6} (ho : OvOk x) : OvOk (endX0 x) := by
 have hsub : ∀ st : List Ent, ∀ e ∈ unwind st, e ∈ st := fun st e he => (List.dropWhile_sublist (l := st) (p := fun e => !e.iso)).subset (List.mem_of_mem_tail he)
 unfold endX0
 split
 ·exact ho
 ·split
  ·exact fun e he => ho e (hsub _ e he)
  ·exact ho
theorem told_step {x : X6} {k : Nat} (hw : Wf x k) (ho : OvOk x) (l : List Int) (c : Int) : Told x (stepX l x k c) (tellP x.core c) := by
 obtain ⟨e, st, hst⟩ := hw.top
 obtain ⟨⟨e2, st2, he2⟩, _⟩ := wf_end (c := c) hw
 have hT : tellP x.core c = if c = 10 then (x.base, c) else if isOut c then (e.lev, c) else if isOpens c then (e.lev, overE e c)
  else if c = 22 then (e2.lev, overE e2 c) else (e.lev, overE e (knownI c)) := by
  have hcs : x.core.st = e :: st := hst
  have hes : (endP x.core).st = e2 :: st2 := by rw [← core_end x c, endX, core_put]; exact he2
  unfold tellP
  rw [hcs]
  simp only [hes]
  rfl
 rw [hT]
 unfold stepX
 by_cases h1 : c = 16 ∨ c = 14 ∨ c = 17 ∨ c = 15
 ·have hO : isOut c = true := (isOut_cases c).2 (by omega)
  rw [if_pos h1, if_neg (by omega), if_pos hO]
  unfold embedX
  split
  ·rename_i h; rw [hst] at h; cases h
  ·rename_i e' st' h
   rw [hst] at h
   injection h with h3 _
   subst h3
   simp only
   split
   ·exact ⟨rfl, rfl⟩
   ·split <;> exact ⟨rfl, rfl⟩
 ·rw [if_neg h1]
  by_cases h2 : isOpens c = true
  ·have h2' := (isOpens_cases c).1 h2
   have hO : ¬ isOut c = true := fun h => by have := (isOut_cases c).1 h; omega
   rw [if_pos h2, if_neg (by omega), if_neg hO, if_pos h2]
   have ht := told_put hst ho c
   unfold isolateX
   split
   ·rename_i h; rw [hst] at h; cases h
   ·split <;> exact ⟨ht.levels, ht.classes⟩
  ·have h2' : ¬ (c = 19 ∨ c = 20 ∨ c = 21) := fun h => h2 ((isOpens_cases c).2 h)
   rw [if_neg h2]
   by_cases h3 : c = 22
   ·have hO : ¬ isOut c = true := fun h => by have := (isOut_cases c).1 h; omega
    rw [if_pos h3, if_neg (by omega), if_neg hO, if_neg h2, if_pos h3, endX]
    have ht := told_put he2 (ov_end ho) c
    have hl : (endX0 x).levels = x.levels ∧ (endX0 x).classes = x.classes := by unfold endX0; split <;> (try split) <;> exact ⟨rfl, rfl⟩
    exact ⟨by rw [ht.levels, hl.1], by rw [ht.classes, hl.2]⟩
   ·rw [if_neg h3]
    by_cases h4 : c = 18
    ·have hO : isOut c = true := (isOut_cases c).2 (by omega)
     rw [if_pos h4, if_neg (by omega), if_pos hO]
     unfold backX
     split
     ·rename_i h; rw [hst] at h; cases h
     ·rename_i e' st' h
      rw [hst] at h
      injection h with h3 _
      subst h3
      subst h4
      simp only
      split
      ·exact ⟨rfl, rfl⟩
      ·split
       ·exact ⟨rfl, rfl⟩
       ·split <;> exact ⟨rfl, rfl⟩
    ·rw [if_neg h4]
     by_cases h5 : c = 9
     ·have hO : isOut c = true := (isOut_cases c).2 (by omega)
      rw [if_pos h5, if_neg (by omega), if_pos hO, hst]
      exact ⟨rfl, rfl⟩
     ·rw [if_neg h5]
      by_cases h6 : c = 10
      ·rw [if_pos h6, if_pos h6]; exact ⟨rfl, rfl⟩
      ·have hO : ¬ isOut c = true := fun h => by have := (isOut_cases c).1 h; omega
       rw [if_neg h6, if_neg h6, if_neg hO, if_neg h2, if_neg h3]
       unfold knownI
       split
       ·exact told_put hst ho 0
       ·exact told_put hst ho c
theorem ov_step {x : X6} {k : Nat} (hw : Wf x k) (ho : OvOk x) (l : List Int) (c : Int) : OvOk (stepX l x k c) := by
 obtain ⟨e, st, hst⟩ := hw.top
 have hcore : (stepX l x k c).st = (stepP x.core l k c).st := by rw [← core_step hst l k c]; rfl
 have hpush : ∀ (p : P6) (d o : Int) (i : Bool), (∀ e ∈ p.st, e.over = -1 ∨ e.over = 0 ∨ e.over = 1) → (o = -1 ∨ o = 0 ∨ o = 1) → ∀ e ∈ (pushP p d o i).st, e.over = -1 ∨ e.over = 0 ∨ e.over = 1 := by
  intro p d o i hp hov e he
  unfold pushP at he
  split at he
  ·exact hp e he
  ·split at he
   ·rcases List.mem_cons.1 he with rfl | he
    ·exact hov
    ·exact hp e he
   ·exact hp e he
 have hbeg : ∀ (p : P6) (d o : Int), (∀ e ∈ p.st, e.over = -1 ∨ e.over = 0 ∨ e.over = 1) → (o = -1 ∨ o = 0 ∨ o = 1) → ∀ e ∈ (beginP p d o).st, e.over = -1 ∨ e.over = 0 ∨ e.over = 1 := by
  intro p d o hp hov e he
  unfold beginP at he
  split at he
  ·split at he <;> exact hp e he
  ·exact hpush p d o false hp hov e he
 have hc : ∀ e ∈ x.core.st, e.over = -1 ∨ e.over = 0 ∨ e.over = 1 := ho
 have hend : ∀ e ∈ (endP x.core).st, e.over = -1 ∨ e.over = 0 ∨ e.over = 1 := by
  rw [← core_end x c, endX, core_put]; exact ov_end ho
 intro a ha
 rw [hcore] at ha
 unfold stepP at ha
 split at ha
 ·have : a = ⟨x.core.base, -1, false⟩ := by simpa [resetP] using ha
  rw [this]; exact .inl rfl
 ·split at ha
  ·unfold embedP at ha
   split at ha
   ·exact hbeg _ _ _ hc (by decide) a ha
   ·split at ha
    ·exact hbeg _ _ _ hc (by decide) a ha
    ·split at ha
     ·exact hbeg _ _ _ hc (by decide) a ha
     ·split at ha
      ·exact hbeg _ _ _ hc (by decide) a ha
      ·split at ha
       ·unfold backP at ha
        split at ha
        ·exact hc a ha
        ·split at ha
         ·exact hc a ha
         ·split at ha
          ·exact hc a ha
          ·rename_i e' st' h
           split at ha
           ·exact hc a (by rw [h]; exact List.mem_cons_of_mem _ ha)
           ·exact hc a ha
       ·exact hc a ha
  ·split at ha
   ·unfold isolateP at ha
    split at ha
    ·exact hc a ha
    ·exact hpush _ _ _ _ hc (by decide) a ha
   ·split at ha
    ·exact hend a ha
    ·exact hc a ha
theorem ov_run (l : List Int) (base : Int) : ∀ k, OvOk (runX l base k) := by
 intro k
 induction k with
 | zero =>
  intro e he
  have : e = ⟨if base = 0 then 0 else 1, -1, false⟩ := by simpa [runX, beginX, startX] using he
  rw [this]; exact .inl rfl
 | succ k ih => exact ov_step (wf_run l base k) ih l _
end Go.Proofs.YtcbaahlahohfmaaGreatDoor
