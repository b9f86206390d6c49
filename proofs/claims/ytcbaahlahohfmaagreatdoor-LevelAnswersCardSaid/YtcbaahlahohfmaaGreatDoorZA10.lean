/- Shared texts, shaken for one claim. -/
import Derived.Test.YtcbaahlahohfmaaGreatDoorZA5
import Derived.Test.YtcbaahlahohfmaaGreatDoorZA9
namespace Go.Proofs.YtcbaahlahohfmaaGreatDoor
open Go.RowKit
def stepP (p : P6) (l : List Int) (i k : Int) : P6 := if k = 10 then resetP p else if isOut k then embedP p k else if isOpens k then isolateP p l i else if k = 22 then endP p else p
def tellP (p : P6) (k : Int) : Int × Int := match p.st with
 | [] => (0, 0)
 | e :: _ => if k = 10 then (p.base, k) else if isOut k then (e.lev, k) else if isOpens k then (e.lev, overE e k)
  else if k = 22 then (match (endP p).st with | [] => (0, 0) | e2 :: _ => (e2.lev, overE e2 k)) else (e.lev, overE e (knownI k))
theorem ret_2 {a : Int × Int} {x y : Int} (h : a = (x, y)) : Ending.returned (.tuple #[.int .i64 x, .int .i64 y]) = .returned (.tuple #[.int .i64 a.1, .int .i64 a.2]) := by rw [h]
theorem unwind_le (st : List Ent) : (unwind st).length ≤ st.length := by
 unfold unwind
 rw [List.length_tail]
 have := (List.dropWhile_sublist (l := st) (p := fun e => !e.iso)).length_le
 omega
theorem endP_len (p : P6) : (endP p).st.length ≤ p.st.length := by
 unfold endP
 split
 ·exact Nat.le_refl _
 ·split
  ·exact unwind_le _
  ·exact Nat.le_refl _
abbrev asideAt (w : World) (a : Nat) (e : Ent) : Prop := w.cell? ⟨a, 0, none⟩ = some (.int .i64 e.lev) ∧ w.cell? ⟨a, 1, none⟩ = some (.int .i64 e.over) ∧ w.cell? ⟨a, 2, none⟩ = some (.bool e.iso)
theorem LitAt.aside {w : World} {a : Nat} {e : Ent} (h : LitAt w a e.cells) : asideAt w a e := ⟨h.cells 0 _ rfl, h.cells 1 _ rfl, h.cells 2 _ rfl⟩
set_option maxRecDepth 20000 in
set_option maxHeartbeats 8000000 in
theorem step_any (w : World) (B g : Nat) (p : P6) (A : Option Addr) (l : List Int) (cap : Nat) (i : Nat) (hi : i < l.length) (k : Int) (hk : l[i] = k) (e : Ent) (st : List Ent) (hst : p.st = e :: st) (hp : HasP w B g p (.slice A l.length cap)) (hs : p.Small) (hc : Ctx w B A l) (hl : l.length ≤ 1000000) (hcap : l.length ≤ cap)
 (hend : ∃ e2 st2, (endP p).st = e2 :: st2) :
 Calls Tryz.prog 46 #[.pointer (some ⟨g, 0, none⟩), .int .i64 (i : Int)] w fun ed w' => ed = .returned (.tuple #[.int .i64 (tellP p k).1, .int .i64 (tellP p k).2]) ∧ HasP w' B g (stepP p l i k) (.slice A l.length cap) ∧ Below B w w' := by
 obtain ⟨sv, h⟩ := hp
 obtain ⟨r, hr⟩ : ∃ r, tellP p k = r := ⟨_, rfl⟩
 obtain ⟨q, hq⟩ : ∃ q, stepP p l i k = q := ⟨_, rfl⟩
 rw [hr, hq]
 have HR := Lib.hid hr
 have HQ := Lib.hid hq
 have HST := Lib.hid hst
 have HC := Lib.hid hc
 have HS := Lib.hid hs
 have hsm : p.st.length ≤ 1000000 := by have := hs.st; omega
 obtain ⟨pa, rfl, hpb, hcell⟩ := hc.list.int hi
 rw [hk] at hcell
 have h0 := h.field 0 (by omega)
 simp only [P6.cells, List.getElem?_cons_zero] at h0
 have b0 : (0 : Int) ≤ (i : Int) := by omega
 have b1 : (i : Int) < (l.length : Int) := by omega
 have HP := Lib.hid h
 have HE2 := Lib.hid hend
 clear hst h hs hc hr hq hend
 go_enter Tryz.func46, Tryz.ntmps46
 go_wp2_with fail
 refine (plast_any w B g p _ e st HST.out ⟨_, HP.out⟩ hsm).mono ?_
 rintro ed w1 ⟨rfl, b1_⟩
 have X1 := Lib.hid (HP.out.below b1_ (Nat.le_refl _))
 have B1 := Lib.hid (b1_.mono HP.out.le)
 clear b1_ hcell h0
 obtain ⟨w2, hw2⟩ : ∃ u, w1.alloc (.cells #[.int .i64 e.lev, .int .i64 e.over, .bool e.iso] 88) = u := ⟨_, rfl⟩
 have X2 : Hid (IsP w2 B g p (.slice (some pa) l.length cap) sv) := Lib.hid (hw2 ▸ X1.out.alloc _)
 have T2 : Hid (LitAt w2 w1.heap.size e.cells) := Lib.hid (hw2 ▸ LitAt.new w1 88 #[.int .i64 e.lev, .int .i64 e.over, .bool e.iso])
 have B2 : Hid (Below B w w2) := Lib.hid (hw2 ▸ B1.out.trans ((below_alloc w1 _).mono X1.out.le))
 have HW2 := Lib.hid hw2
 have FA : Hid (w1.heap.size ≠ g ∧ sv.ownBlock ≠ some w1.heap.size) := Lib.hid ⟨by have := X1.out.inside; omega, fun e1 => by have := (X1.out.stack.inside _ e1).2; omega⟩
 clear hw2
 rcases h10 : (k == 10) with _ | _
 ·have n10 : ¬ k = 10 := by simpa using h10
  rcases hO : isOut k with _ | _
  ·rcases hP : isOpens k with _ | _
   ·rcases h22 : (k == 22) with _ | _
    ·have HE : Hid (p = q ∧ r = (e.lev, overE e (knownI k))) := Lib.hid ⟨by rw [← HQ.out, stepP, if_neg n10, if_neg (by rw [hO]; simp), if_neg (by rw [hP]; simp), if_neg (by simpa using h22)], by
      rw [← HR.out]; unfold tellP; rw [HST.out]; simp only; rw [if_neg n10, if_neg (by rw [hO]; simp), if_neg (by rw [hP]; simp), if_neg (by simpa using h22)]⟩
     have HO := Lib.hid hO
     have HPN := Lib.hid hP
     clear n10 hO hP
     go_wp2_with fail
     rw [HW2.out]
     refine (out_any k w2).mono ?_
     rintro ed w3 ⟨rfl, b3⟩
     rw [HO.out]
     have X3 := Lib.hid (X2.out.below b3 (Nat.le_refl _))
     have T3 := Lib.hid (T2.out.below b3)
     have B3 := Lib.hid (B2.out.trans (b3.mono X2.out.le))
     clear b3
     go_wp2_with fail
     refine (opens_any k w3).mono ?_
     rintro ed w4 ⟨rfl, b4⟩
     rw [HPN.out]
     have X4 := Lib.hid (X3.out.below b4 (Nat.le_refl _))
     have T4 := Lib.hid (T3.out.below b4)
     have B4 := Lib.hid (B3.out.trans (b4.mono X3.out.le))
     clear b4
     go_wp2_with fail
     refine wp_region_E (S := fun w' => asideAt w' w1.heap.size e) [] (by kernel_rfl) (T4.out.aside) (fun hHeld hZ => ?_)
     refine' eY 0 hHeld hZ fun hZ => ?_
     try simp only [Act.put,ZA,ZB,ZD,ZE,ZF]
     refine' eY 1 hHeld hZ fun hZ => ?_
     try simp only [Act.put,ZA,ZB,ZC,ZD,ZE,ZF]
     refine' eY 2 hHeld hZ fun hZ => ?_
     try simp only [Act.put,ZA,ZB,ZC,ZD,ZE,ZF]
     refine' eY 3 hHeld hZ fun hZ => ?_
     try simp only [Act.put,ZA,ZB,ZC,ZD,ZE,ZF]
     have X4d := Lib.hid (X4.out.same (w' := w4.drew) rfl)
     have T4d : Hid (LitAt w4.drew w1.heap.size e.cells) := Lib.hid ⟨T4.out.lt, T4.out.cells⟩
     have B4d : Hid (Below B w w4.drew) := Lib.hid (below_drawn B4.out 1)
     generalize w4.drew = u0 at X4d T4d B4d hHeld ⊢
     refine eA 4 fun K hK => ?_
     go_simp
     refine (known_any k u0 (HC.out.below B4d.out).tabs).mono ?_
     rintro ed u1 ⟨rfl, rfl⟩
     refine eB hK hZ (T4d.out.aside) fun hHeld hZ => ?_
     clear hK K
     try simp only [Act.put,ZA,ZB,ZC,ZD,ZE,ZF]
     refine eA 5 fun K hK => ?_
     go_simp
     refine (over_any e (knownI k) u0).mono ?_
     rintro ed u2 ⟨rfl, b_⟩
     have X5 := Lib.hid (X4d.out.below b_ (Nat.le_refl _))
     have T5 := Lib.hid (T4d.out.below b_)
     have B5 := Lib.hid (B4d.out.trans (b_.mono X4d.out.le))
     clear b_
     refine eB hK hZ (T5.out.aside) fun hHeld hZ => ?_
     clear hK K
     try simp only [Act.put,ZA,ZB,ZC,ZD,ZE,ZF]
     refine' eX 6 hZ fun hZ => ?_
     try simp only [Act.put,ZA,ZB,ZC,ZD,ZE,ZF]
     refine' eX 7 hZ fun hZ => ?_
     try simp only [Act.put,ZA,ZB,ZC,ZD,ZE,ZF]
     refine wpAnyE_done (by kernel_rfl) ?_ _
     clear hZ
     go_wp2_with fail
     go_ret2
     exact ⟨ret_2 HE.out.2, by rw [← HE.out.1]; exact ⟨_, X5.out⟩, B5.out⟩
    ·obtain ⟨e2, st2, he2⟩ := HE2.out
     have HE2' := Lib.hid he2
     have HE : Hid (endP p = q ∧ r = (e2.lev, overE e2 k)) := Lib.hid ⟨by rw [← HQ.out, stepP, if_neg n10, if_neg (by rw [hO]; simp), if_neg (by rw [hP]; simp), if_pos (by simpa using h22)], by
      rw [← HR.out]; unfold tellP; rw [HST.out]; simp only; rw [if_neg n10, if_neg (by rw [hO]; simp), if_neg (by rw [hP]; simp), if_pos (by simpa using h22), he2]⟩
     have hel : (endP p).st.length ≤ 1000000 := Nat.le_trans (endP_len p) hsm
     have HO := Lib.hid hO
     have HPN := Lib.hid hP
     have hf0 := pfield0 e2.lev e2.over e2.iso
     clear n10 hO hP he2
     go_wp2_with fail
     rw [HW2.out]
     refine (out_any k w2).mono ?_
     rintro ed w3 ⟨rfl, b3⟩
     rw [HO.out]
     have X3 := Lib.hid (X2.out.below b3 (Nat.le_refl _))
     have B3 := Lib.hid (B2.out.trans (b3.mono X2.out.le))
     clear b3
     go_wp2_with fail
     refine (opens_any k w3).mono ?_
     rintro ed w4 ⟨rfl, b4⟩
     rw [HPN.out]
     have X4 := Lib.hid (X3.out.below b4 (Nat.le_refl _))
     have B4 := Lib.hid (B3.out.trans (b4.mono X3.out.le))
     clear b4
     go_wp2_with fail
     refine (endIsolate_any w4 B g p _ sv e2 st2 HE2'.out X4.out HS.out).mono ?_
     rintro ed w5 ⟨rfl, x5, b5⟩
     have X5 := Lib.hid x5
     have B5 := Lib.hid (B4.out.trans b5)
     clear x5 b5
     go_wp2_with fail
     refine (plast_any w5 B g (endP p) _ e2 st2 HE2'.out X5.out hel).mono ?_
     rintro ed w6 ⟨rfl, b6⟩
     have X6 := Lib.hid (X5.out.below b6)
     have B6 := Lib.hid (B5.out.trans (b6.mono X5.out.le))
     clear b6
     go_wp2_with fail
     refine (plast_any w6 B g (endP p) _ e2 st2 HE2'.out X6.out hel).mono ?_
     rintro ed w7 ⟨rfl, b7⟩
     have X7 := Lib.hid (X6.out.below b7)
     have B7 := Lib.hid (B6.out.trans (b7.mono X6.out.le))
     clear b7
     go_wp2_with fail
     refine (over_any e2 k w7).mono ?_
     rintro ed w8 ⟨rfl, b8⟩
     have X8 := Lib.hid (X7.out.below b8)
     have B8 := Lib.hid (B7.out.trans (b8.mono X7.out.le))
     clear b8
     go_wp2_with fail
     go_ret2
     exact ⟨ret_2 HE.out.2, by rw [← HE.out.1]; exact X8.out, B8.out⟩
   ·have HE : Hid (isolateP p l i = q ∧ r = (e.lev, overE e k)) := Lib.hid ⟨by rw [← HQ.out, stepP, if_neg n10, if_neg (by rw [hO]; simp), if_pos hP], by
     rw [← HR.out]; unfold tellP; rw [HST.out]; simp only; rw [if_neg n10, if_neg (by rw [hO]; simp), if_pos hP]⟩
    have HO := Lib.hid hO
    have HPN := Lib.hid hP
    clear n10 hO hP
    go_wp2_with fail
    rw [HW2.out]
    refine (out_any k w2).mono ?_
    rintro ed w3 ⟨rfl, b3⟩
    rw [HO.out]
    have X3 := Lib.hid (X2.out.below b3 (Nat.le_refl _))
    have T3 := Lib.hid (T2.out.below b3)
    have B3 := Lib.hid (B2.out.trans (b3.mono X2.out.le))
    clear b3
    go_wp2_with fail
    refine (opens_any k w3).mono ?_
    rintro ed w4 ⟨rfl, b4⟩
    rw [HPN.out]
    have X4 := Lib.hid (X3.out.below b4 (Nat.le_refl _))
    have T4 := Lib.hid (T3.out.below b4)
    have B4 := Lib.hid (B3.out.trans (b4.mono X3.out.le))
    clear b4
    go_wp2_with fail
    refine (pisolate_any w4 B g p (some pa) l cap sv i e st HST.out X4.out HS.out (HC.out.below B4.out) hl hcap).mono ?_
    rintro ed w5 ⟨rfl, ⟨sv5, x5, f5⟩, b5⟩
    have X5 := Lib.hid x5
    have B5 := Lib.hid (B4.out.trans b5)
    have T5 : Hid (LitAt w5 w1.heap.size e.cells) := Lib.hid ⟨Nat.lt_of_lt_of_le T4.out.lt f5.size, fun i u hu => (f5.cell T4.out.lt FA.out.1 FA.out.2).trans (T4.out.cells i u hu)⟩
    clear x5 b5 f5
    go_wp2_with fail
    refine wp_region_E (S := fun w' => asideAt w' w1.heap.size e) [] (by kernel_rfl) (T5.out.aside) (fun hHeld hZ => ?_)
    refine' eY 0 hHeld hZ fun hZ => ?_
    try simp only [Act.put,ZA,ZB,ZD,ZE,ZF]
    refine' eY 1 hHeld hZ fun hZ => ?_
    try simp only [Act.put,ZA,ZB,ZC,ZD,ZE,ZF]
    refine' eY 2 hHeld hZ fun hZ => ?_
    try simp only [Act.put,ZA,ZB,ZC,ZD,ZE,ZF]
    refine' eY 3 hHeld hZ fun hZ => ?_
    try simp only [Act.put,ZA,ZB,ZC,ZD,ZE,ZF]
    have X5d := Lib.hid (X5.out.same (w' := w5.drew) rfl)
    have T5d : Hid (LitAt w5.drew w1.heap.size e.cells) := Lib.hid ⟨T5.out.lt, T5.out.cells⟩
    have B5d : Hid (Below B w w5.drew) := Lib.hid (below_drawn B5.out 1)
    generalize w5.drew = u0 at X5d T5d B5d hHeld ⊢
    refine eA 4 fun K hK => ?_
    go_simp
    refine (over_any e k u0).mono ?_
    rintro ed u2 ⟨rfl, b_⟩
    have X6 := Lib.hid (X5d.out.below b_ (Nat.le_refl _))
    have T6 := Lib.hid (T5d.out.below b_)
    have B6 := Lib.hid (B5d.out.trans (b_.mono X5d.out.le))
    clear b_
    refine eB hK hZ (T6.out.aside) fun hHeld hZ => ?_
    clear hK K
    try simp only [Act.put,ZA,ZB,ZC,ZD,ZE,ZF]
    refine' eX 5 hZ fun hZ => ?_
    try simp only [Act.put,ZA,ZB,ZC,ZD,ZE,ZF]
    refine' eX 6 hZ fun hZ => ?_
    try simp only [Act.put,ZA,ZB,ZC,ZD,ZE,ZF]
    refine wpAnyE_done (by kernel_rfl) ?_ _
    clear hZ
    go_wp2_with fail
    go_ret2
    exact ⟨ret_2 HE.out.2, by rw [← HE.out.1]; exact ⟨_, X6.out⟩, B6.out⟩
  ·have HE : Hid (embedP p k = q ∧ r = (e.lev, k)) := Lib.hid ⟨by rw [← HQ.out, stepP, if_neg n10, if_pos hO], by
    rw [← HR.out]; unfold tellP; rw [HST.out]; simp only; rw [if_neg n10, if_pos hO]⟩
   have HO := Lib.hid hO
   clear n10 hO
   go_wp2_with fail
   rw [HW2.out]
   refine (out_any k w2).mono ?_
   rintro ed w3 ⟨rfl, b3⟩
   rw [HO.out]
   have X3 := Lib.hid (X2.out.below b3 (Nat.le_refl _))
   have T3 := Lib.hid (T2.out.below b3)
   have B3 := Lib.hid (B2.out.trans (b3.mono X2.out.le))
   clear b3
   go_wp2_with fail
   refine (pembed_any w3 B g p _ sv k e st HST.out X3.out HS.out).mono ?_
   rintro ed w4 ⟨rfl, ⟨sv4, x4, f4⟩, b4⟩
   have X4 := Lib.hid x4
   have B4 := Lib.hid (B3.out.trans b4)
   have hca : w4.cell? ⟨w1.heap.size, 0, none⟩ = some (.int .i64 e.lev) := (f4.cell T3.out.lt FA.out.1 FA.out.2).trans (T3.out.cells 0 _ rfl)
   clear x4 f4 b4
   go_wp2_with fail
   go_ret2
   exact ⟨ret_2 HE.out.2, by rw [← HE.out.1]; exact ⟨_, X4.out⟩, B4.out⟩
 ·have HE : Hid (resetP p = q ∧ r = (p.base, k)) := Lib.hid ⟨by rw [← HQ.out, stepP, if_pos (by simpa using h10)], by
   rw [← HR.out]; unfold tellP; rw [HST.out]; simp only; rw [if_pos (by simpa using h10)]⟩
  go_wp2_with fail
  rw [HW2.out]
  refine (reset_any w2 B g p _ sv X2.out (.inl (by rw [HST.out]; simp)) hsm).mono ?_
  rintro ed w3 ⟨rfl, ⟨sv3, x3⟩, b3⟩
  have h1 := x3.field 1 (by omega)
  simp only [P6.cells, resetP, List.getElem?_cons_succ, List.getElem?_cons_zero] at h1
  have X3 := Lib.hid x3
  have B3 := Lib.hid (B2.out.trans b3)
  clear x3 b3
  go_wp2_with fail
  go_ret2
  exact ⟨ret_2 HE.out.2, by rw [← HE.out.1]; exact ⟨_, X3.out⟩, B3.out⟩
end Go.Proofs.YtcbaahlahohfmaaGreatDoor
namespace Go.Proofs.YtcbaahlahohfmaaGreatDoor
open Go.RowKit
def backX (x : X6) : X6 := match x.st with
 | [] => x
 | e :: st =>
  let y : X6 := { x with levels := x.levels ++ [e.lev], classes := x.classes ++ [18] }
  if 0 < x.isos then y else if 0 < x.embeds then { y with embeds := x.embeds - 1 } else if e.iso = false ∧ 1 ≤ st.length then { y with st := st } else y
set_option maxRecDepth 20000 in
set_option maxHeartbeats 8000000 in
theorem back_any (w : World) (B g : Nat) (x : X6) (lsl : Value) (e : Ent) (st : List Ent) (hst : x.st = e :: st) (hx : HasX w B g x lsl) (hs : x.Small) :
 Calls Tryz.prog 109 #[.pointer (some ⟨g, 0, none⟩)] w fun ed w' => ed = .returned (.tuple #[]) ∧ HasX w' B g (backX x) lsl ∧ Below B w w' := by
 obtain ⟨sv, lv, cv, h⟩ := hx
 have hsm : x.st.length ≤ 1000000 := by have := hs.st; omega
 obtain ⟨Al, cl, rfl, _, _, _⟩ := h.levels.form
 obtain ⟨Ac, cc, rfl, _, _, _⟩ := h.classes.form
 have H := Lib.hid h
 have HST := Lib.hid hst
 have HS := Lib.hid hs
 have BW : Hid (Below B w w) := Lib.hid (Below.refl _ _)
 have hin := h.inside
 have hll := hs.lev
 have hcl := hs.cls
 clear h hst hs
 have hf0 := field0 e.lev e.over e.iso
 go_enter Tryz.func109, Tryz.ntmps109
 go_upto_region 0 with fail
 go_cut [] (fun wx => (∃ lv' cv', IsX wx B g { x with levels := x.levels ++ [e.lev], classes := x.classes ++ [18] } lsl sv lv' cv') ∧ Below B w wx)
 case first =>
  refine wp_region_E (S := fun w' => fieldsAt w' g x (.slice Al x.levels.length cl) (.slice Ac x.classes.length cc)) [19, 22] (by kernel_rfl) (H.out.seen) (fun hHeld hZ => ?_)
  refine' eX 0 hZ fun hZ => ?_
  try simp only [Act.put,ZA,ZB,ZD,ZE,ZF]
  refine' eX 1 hZ fun hZ => ?_
  try simp only [Act.put,ZA,ZB,ZC,ZD,ZE,ZF]
  refine' eX 2 hZ fun hZ => ?_
  try simp only [Act.put,ZA,ZB,ZC,ZD,ZE,ZF]
  refine' eX 3 hZ fun hZ => ?_
  try simp only [Act.put,ZA,ZB,ZC,ZD,ZE,ZF]
  refine' eX 4 hZ fun hZ => ?_
  try simp only [Act.put,ZA,ZB,ZC,ZD,ZE,ZF]
  refine' eX 6 hZ fun hZ => ?_
  try simp only [Act.put,ZA,ZB,ZC,ZD,ZE,ZF]
  refine' eX 11 hZ fun hZ => ?_
  try simp only [Act.put,ZA,ZB,ZC,ZD,ZE,ZF]
  refine' eX 12 hZ fun hZ => ?_
  try simp only [Act.put,ZA,ZB,ZC,ZD,ZE,ZF]
  refine' eX 13 hZ fun hZ => ?_
  try simp only [Act.put,ZA,ZB,ZC,ZD,ZE,ZF]
  refine' eY 5 hHeld hZ fun hZ => ?_
  try simp only [Act.put,ZA,ZB,ZC,ZD,ZE,ZF]
  refine' eY 14 hHeld hZ fun hZ => ?_
  try simp only [Act.put,ZA,ZB,ZC,ZD,ZE,ZF]
  have X0 := Lib.hid (H.out.same (w' := w.drew) rfl)
  have B0 : Hid (Below B w w.drew) := Lib.hid (below_drawn BW.out 1)
  generalize w.drew = u0 at X0 B0 hHeld ⊢
  refine wpAnyE_ready (rs := [7, 15]) (by kernel_rfl) (by simp) ?_
  refine AllReadyE.cons rfl (fun K hK => ?_) (AllReadyE.cons rfl (fun K hK => ?_) AllReadyE.nil)
  ·go_simp
   refine (top_any u0 B g _ lsl sv _ _ e st HST.out X0.out hsm).mono ?_
   rintro ed u1 ⟨rfl, b_⟩
   have X1 := Lib.hid (X0.out.below b_ (Nat.le_refl _))
   have B1 := Lib.hid (B0.out.trans (b_.mono X0.out.le))
   clear b_
   refine eB hK hZ (X1.out.seen) fun hHeld hZ => ?_
   clear hK K
   try simp only [Act.put,ZA,ZB,ZC,ZD,ZE,ZF]
   refine' eX 8 hZ fun hZ => ?_
   try simp only [Act.put,ZA,ZB,ZC,ZD,ZE,ZF]
   refine wpAnyE_ready (rs := [9, 15]) (by kernel_rfl) (by simp) ?_
   refine AllReadyE.cons rfl (fun K hK => ?_) (AllReadyE.cons rfl (fun K hK => ?_) AllReadyE.nil)
   ·go_simp
    have X2 := Lib.hid (X1.out.alloc (.cells #[.int .i64 e.lev] 3))
    have T2 := Lib.hid (LitAt.new u1 3 #[.int .i64 e.lev])
    have B2 := Lib.hid (B1.out.trans ((below_alloc u1 (.cells #[.int .i64 e.lev] 3)).mono X1.out.le))
    refine eB hK hZ (X2.out.seen) fun hHeld hZ => ?_
    clear hK K
    try simp only [Act.put,ZA,ZB,ZC,ZD,ZE,ZF]
    generalize u1.alloc (.cells #[.int .i64 e.lev] 3) = u2 at X2 T2 B2 hHeld ⊢
    refine wpAnyE_ready (rs := [10, 15]) (by kernel_rfl) (by simp) ?_
    refine AllReadyE.cons rfl (fun K hK => ?_) (AllReadyE.cons rfl (fun K hK => ?_) AllReadyE.nil)
    ·refine step_appN intsN u2 u2 B _ (.tmp 7) (.tmp 11) _ x.levels.length 1 (ints .i64 x.levels) [.int .i64 e.lev] _ _ rfl rfl rfl rfl X2.out.levels T2.out.lies rfl (by simp [Value.oneCell']) (Below.refl _ _) X2.out.le (by unfold maxLen; omega) (by omega) ?_
     intro v3 u3 o_ b_ g_ e_
     obtain ⟨A3, c3, rfl, _, _, _⟩ := o_.form
     have X3 := Lib.hid (X2.out.appL o_ g_ e_)
     have B3 := Lib.hid (B2.out.trans b_)
     clear o_ b_ g_ e_
     refine eB hK hZ (X3.out.seen) fun hHeld hZ => ?_
     clear hK K
     try simp only [Act.put,ZA,ZB,ZC,ZD,ZE,ZF]
     refine eA 15 fun K hK => ?_
     go_simp
     have X4 := Lib.hid (X3.out.alloc (.cells #[.int .i64 18] 3))
     have T4 := Lib.hid (LitAt.new u3 3 #[.int .i64 18])
     have B4 := Lib.hid (B3.out.trans ((below_alloc u3 (.cells #[.int .i64 18] 3)).mono X3.out.le))
     refine eB hK hZ (X4.out.seen) fun hHeld hZ => ?_
     clear hK K
     try simp only [Act.put,ZA,ZB,ZC,ZD,ZE,ZF]
     generalize u3.alloc (.cells #[.int .i64 18] 3) = u4 at X4 T4 B4 hHeld ⊢
     refine eA 16 fun K hK => ?_
     refine step_appN intsN u4 u4 B _ (.tmp 16) (.tmp 17) _ x.classes.length 1 (ints .i64 x.classes) [.int .i64 18] _ _ rfl rfl rfl rfl X4.out.classes T4.out.lies rfl (by simp [Value.oneCell']) (Below.refl _ _) X4.out.le (by unfold maxLen; omega) (by omega) ?_
     intro v5 u5 o_ b_ g_ e_
     obtain ⟨A5, c5, rfl, _, _, _⟩ := o_.form
     have X5 := Lib.hid (X4.out.appC o_ g_ e_)
     have B5 := Lib.hid (B4.out.trans b_)
     clear o_ b_ g_ e_
     refine eB hK hZ (X5.out.seen) fun hHeld hZ => ?_
     clear hK K
     try simp only [Act.put,ZA,ZB,ZC,ZD,ZE,ZF]
     refine' eX 17 hZ fun hZ => ?_
     try simp only [Act.put,ZA,ZB,ZC,ZD,ZE,ZF]
     refine' eX 18 hZ fun hZ => ?_
     try simp only [Act.put,ZA,ZB,ZC,ZD,ZE,ZF]
     refine eA 19 fun K hK => ?_
     refine step_store u5 B (.tmp 20) (.tmp 12) g 6 9 _ _ u5 rfl rfl rfl (by kernel_rfl) rfl rfl rfl X5.out.row (by simp [X6.cells]) (Below.refl _ _) ?_
     intro u6 r_ b_ g_
     have R6 := Lib.hid r_
     have G6 := Lib.hid g_
     have B6 := Lib.hid (B5.out.trans b_)
     clear r_ b_ g_
     refine eE hK hZ fun hZ => ?_
     clear hK K
     try simp only [Act.put,ZA,ZB,ZC,ZD,ZE,ZF]
     refine' eX 20 hZ fun hZ => ?_
     try simp only [Act.put,ZA,ZB,ZC,ZD,ZE,ZF]
     refine' eX 21 hZ fun hZ => ?_
     try simp only [Act.put,ZA,ZB,ZC,ZD,ZE,ZF]
     refine eA 22 fun K hK => ?_
     refine step_store u6 B (.tmp 22) (.tmp 18) g 7 9 _ _ u6 rfl rfl rfl (by kernel_rfl) rfl rfl rfl R6.out (by simp [X6.cells]) (Below.refl _ _) ?_
     intro u7 r_ b_ g_
     have XF := Lib.hid (X5.out.done R6.out G6.out r_ g_)
     have BF := Lib.hid (B6.out.trans b_)
     clear r_ b_ g_
     refine eE hK hZ fun hZ => ?_
     clear hK K
     try simp only [Act.put,ZA,ZB,ZC,ZD,ZE,ZF]
     refine wpAnyE_done (by kernel_rfl) ?_ _
     clear hZ
     go_wp2_with fail
     go_meet
     exact ⟨⟨_, _, XF.out⟩, BF.out⟩
    ·have N3 := Lib.hid (X2.out.newL)
     go_simp
     have X3 := Lib.hid (X2.out.alloc (.cells #[.int .i64 18] 3))
     have T3 := Lib.hid (LitAt.new u2 3 #[.int .i64 18])
     have B3 := Lib.hid (B2.out.trans ((below_alloc u2 (.cells #[.int .i64 18] 3)).mono X2.out.le))
     have T2_3 := Lib.hid (T2.out.alloc (.cells #[.int .i64 18] 3))
     refine eB hK hZ (X3.out.seen) fun hHeld hZ => ?_
     clear hK K
     try simp only [Act.put,ZA,ZB,ZC,ZD,ZE,ZF]
     generalize u2.alloc (.cells #[.int .i64 18] 3) = u3 at X3 T3 B3 T2_3 hHeld ⊢
     refine eA 10 fun K hK => ?_
     refine step_appN intsN u3 u3 B _ (.tmp 7) (.tmp 11) _ x.levels.length 1 (ints .i64 x.levels) [.int .i64 e.lev] _ _ rfl rfl rfl rfl X3.out.levels T2_3.out.lies rfl (by simp [Value.oneCell']) (Below.refl _ _) X3.out.le (by unfold maxLen; omega) (by omega) ?_
     intro v4 u4 o_ b_ g_ e_
     obtain ⟨A4, c4, rfl, _, _, _⟩ := o_.form
     have X4 := Lib.hid (X3.out.appL o_ g_ e_)
     have B4 := Lib.hid (B3.out.trans b_)
     have T3_4 := Lib.hid (T3.out.grown g_ N3.out)
     clear o_ b_ g_ e_
     refine eB hK hZ (X4.out.seen) fun hHeld hZ => ?_
     clear hK K
     try simp only [Act.put,ZA,ZB,ZC,ZD,ZE,ZF]
     refine eA 16 fun K hK => ?_
     refine step_appN intsN u4 u4 B _ (.tmp 16) (.tmp 17) _ x.classes.length 1 (ints .i64 x.classes) [.int .i64 18] _ _ rfl rfl rfl rfl X4.out.classes T3_4.out.lies rfl (by simp [Value.oneCell']) (Below.refl _ _) X4.out.le (by unfold maxLen; omega) (by omega) ?_
     intro v5 u5 o_ b_ g_ e_
     obtain ⟨A5, c5, rfl, _, _, _⟩ := o_.form
     have X5 := Lib.hid (X4.out.appC o_ g_ e_)
     have B5 := Lib.hid (B4.out.trans b_)
     clear o_ b_ g_ e_
     refine eB hK hZ (X5.out.seen) fun hHeld hZ => ?_
     clear hK K
     try simp only [Act.put,ZA,ZB,ZC,ZD,ZE,ZF]
     refine' eX 17 hZ fun hZ => ?_
     try simp only [Act.put,ZA,ZB,ZC,ZD,ZE,ZF]
     refine' eX 18 hZ fun hZ => ?_
     try simp only [Act.put,ZA,ZB,ZC,ZD,ZE,ZF]
     refine eA 19 fun K hK => ?_
     refine step_store u5 B (.tmp 20) (.tmp 12) g 6 9 _ _ u5 rfl rfl rfl (by kernel_rfl) rfl rfl rfl X5.out.row (by simp [X6.cells]) (Below.refl _ _) ?_
     intro u6 r_ b_ g_
     have R6 := Lib.hid r_
     have G6 := Lib.hid g_
     have B6 := Lib.hid (B5.out.trans b_)
     clear r_ b_ g_
     refine eE hK hZ fun hZ => ?_
     clear hK K
     try simp only [Act.put,ZA,ZB,ZC,ZD,ZE,ZF]
     refine' eX 20 hZ fun hZ => ?_
     try simp only [Act.put,ZA,ZB,ZC,ZD,ZE,ZF]
     refine' eX 21 hZ fun hZ => ?_
     try simp only [Act.put,ZA,ZB,ZC,ZD,ZE,ZF]
     refine eA 22 fun K hK => ?_
     refine step_store u6 B (.tmp 22) (.tmp 18) g 7 9 _ _ u6 rfl rfl rfl (by kernel_rfl) rfl rfl rfl R6.out (by simp [X6.cells]) (Below.refl _ _) ?_
     intro u7 r_ b_ g_
     have XF := Lib.hid (X5.out.done R6.out G6.out r_ g_)
     have BF := Lib.hid (B6.out.trans b_)
     clear r_ b_ g_
     refine eE hK hZ fun hZ => ?_
     clear hK K
     try simp only [Act.put,ZA,ZB,ZC,ZD,ZE,ZF]
     refine wpAnyE_done (by kernel_rfl) ?_ _
     clear hZ
     go_wp2_with fail
     go_meet
     exact ⟨⟨_, _, XF.out⟩, BF.out⟩
   ·have N2 := Lib.hid (X1.out.newL)
    go_simp
    have X2 := Lib.hid (X1.out.alloc (.cells #[.int .i64 18] 3))
    have T2 := Lib.hid (LitAt.new u1 3 #[.int .i64 18])
    have B2 := Lib.hid (B1.out.trans ((below_alloc u1 (.cells #[.int .i64 18] 3)).mono X1.out.le))
    refine eB hK hZ (X2.out.seen) fun hHeld hZ => ?_
    clear hK K
    try simp only [Act.put,ZA,ZB,ZC,ZD,ZE,ZF]
    generalize u1.alloc (.cells #[.int .i64 18] 3) = u2 at X2 T2 B2 hHeld ⊢
    refine eA 9 fun K hK => ?_
    go_simp
    have X3 := Lib.hid (X2.out.alloc (.cells #[.int .i64 e.lev] 3))
    have T3 := Lib.hid (LitAt.new u2 3 #[.int .i64 e.lev])
    have B3 := Lib.hid (B2.out.trans ((below_alloc u2 (.cells #[.int .i64 e.lev] 3)).mono X2.out.le))
    have T2_3 := Lib.hid (T2.out.alloc (.cells #[.int .i64 e.lev] 3))
    refine eB hK hZ (X3.out.seen) fun hHeld hZ => ?_
    clear hK K
    try simp only [Act.put,ZA,ZB,ZC,ZD,ZE,ZF]
    generalize u2.alloc (.cells #[.int .i64 e.lev] 3) = u3 at X3 T3 B3 T2_3 hHeld ⊢
    refine eA 10 fun K hK => ?_
    refine step_appN intsN u3 u3 B _ (.tmp 7) (.tmp 11) _ x.levels.length 1 (ints .i64 x.levels) [.int .i64 e.lev] _ _ rfl rfl rfl rfl X3.out.levels T3.out.lies rfl (by simp [Value.oneCell']) (Below.refl _ _) X3.out.le (by unfold maxLen; omega) (by omega) ?_
    intro v4 u4 o_ b_ g_ e_
    obtain ⟨A4, c4, rfl, _, _, _⟩ := o_.form
    have X4 := Lib.hid (X3.out.appL o_ g_ e_)
    have B4 := Lib.hid (B3.out.trans b_)
    have T2_3_4 := Lib.hid (T2_3.out.grown g_ N2.out)
    clear o_ b_ g_ e_
    refine eB hK hZ (X4.out.seen) fun hHeld hZ => ?_
    clear hK K
    try simp only [Act.put,ZA,ZB,ZC,ZD,ZE,ZF]
    refine eA 16 fun K hK => ?_
    refine step_appN intsN u4 u4 B _ (.tmp 16) (.tmp 17) _ x.classes.length 1 (ints .i64 x.classes) [.int .i64 18] _ _ rfl rfl rfl rfl X4.out.classes T2_3_4.out.lies rfl (by simp [Value.oneCell']) (Below.refl _ _) X4.out.le (by unfold maxLen; omega) (by omega) ?_
    intro v5 u5 o_ b_ g_ e_
    obtain ⟨A5, c5, rfl, _, _, _⟩ := o_.form
    have X5 := Lib.hid (X4.out.appC o_ g_ e_)
    have B5 := Lib.hid (B4.out.trans b_)
    clear o_ b_ g_ e_
    refine eB hK hZ (X5.out.seen) fun hHeld hZ => ?_
    clear hK K
    try simp only [Act.put,ZA,ZB,ZC,ZD,ZE,ZF]
    refine' eX 17 hZ fun hZ => ?_
    try simp only [Act.put,ZA,ZB,ZC,ZD,ZE,ZF]
    refine' eX 18 hZ fun hZ => ?_
    try simp only [Act.put,ZA,ZB,ZC,ZD,ZE,ZF]
    refine eA 19 fun K hK => ?_
    refine step_store u5 B (.tmp 20) (.tmp 12) g 6 9 _ _ u5 rfl rfl rfl (by kernel_rfl) rfl rfl rfl X5.out.row (by simp [X6.cells]) (Below.refl _ _) ?_
    intro u6 r_ b_ g_
    have R6 := Lib.hid r_
    have G6 := Lib.hid g_
    have B6 := Lib.hid (B5.out.trans b_)
    clear r_ b_ g_
    refine eE hK hZ fun hZ => ?_
    clear hK K
    try simp only [Act.put,ZA,ZB,ZC,ZD,ZE,ZF]
    refine' eX 20 hZ fun hZ => ?_
    try simp only [Act.put,ZA,ZB,ZC,ZD,ZE,ZF]
    refine' eX 21 hZ fun hZ => ?_
    try simp only [Act.put,ZA,ZB,ZC,ZD,ZE,ZF]
    refine eA 22 fun K hK => ?_
    refine step_store u6 B (.tmp 22) (.tmp 18) g 7 9 _ _ u6 rfl rfl rfl (by kernel_rfl) rfl rfl rfl R6.out (by simp [X6.cells]) (Below.refl _ _) ?_
    intro u7 r_ b_ g_
    have XF := Lib.hid (X5.out.done R6.out G6.out r_ g_)
    have BF := Lib.hid (B6.out.trans b_)
    clear r_ b_ g_
    refine eE hK hZ fun hZ => ?_
    clear hK K
    try simp only [Act.put,ZA,ZB,ZC,ZD,ZE,ZF]
    refine wpAnyE_done (by kernel_rfl) ?_ _
    clear hZ
    go_wp2_with fail
    go_meet
    exact ⟨⟨_, _, XF.out⟩, BF.out⟩
  ·have N1 := Lib.hid (X0.out.newL)
   go_simp
   have X1 := Lib.hid (X0.out.alloc (.cells #[.int .i64 18] 3))
   have T1 := Lib.hid (LitAt.new u0 3 #[.int .i64 18])
   have B1 := Lib.hid (B0.out.trans ((below_alloc u0 (.cells #[.int .i64 18] 3)).mono X0.out.le))
   refine eB hK hZ (X1.out.seen) fun hHeld hZ => ?_
   clear hK K
   try simp only [Act.put,ZA,ZB,ZC,ZD,ZE,ZF]
   generalize u0.alloc (.cells #[.int .i64 18] 3) = u1 at X1 T1 B1 hHeld ⊢
   refine eA 7 fun K hK => ?_
   go_simp
   refine (top_any u1 B g _ lsl sv _ _ e st HST.out X1.out hsm).mono ?_
   rintro ed u2 ⟨rfl, b_⟩
   have X2 := Lib.hid (X1.out.below b_ (Nat.le_refl _))
   have B2 := Lib.hid (B1.out.trans (b_.mono X1.out.le))
   have T1_2 := Lib.hid (T1.out.below b_)
   clear b_
   refine eB hK hZ (X2.out.seen) fun hHeld hZ => ?_
   clear hK K
   try simp only [Act.put,ZA,ZB,ZC,ZD,ZE,ZF]
   refine' eX 8 hZ fun hZ => ?_
   try simp only [Act.put,ZA,ZB,ZC,ZD,ZE,ZF]
   refine eA 9 fun K hK => ?_
   go_simp
   have X3 := Lib.hid (X2.out.alloc (.cells #[.int .i64 e.lev] 3))
   have T3 := Lib.hid (LitAt.new u2 3 #[.int .i64 e.lev])
   have B3 := Lib.hid (B2.out.trans ((below_alloc u2 (.cells #[.int .i64 e.lev] 3)).mono X2.out.le))
   have T1_2_3 := Lib.hid (T1_2.out.alloc (.cells #[.int .i64 e.lev] 3))
   refine eB hK hZ (X3.out.seen) fun hHeld hZ => ?_
   clear hK K
   try simp only [Act.put,ZA,ZB,ZC,ZD,ZE,ZF]
   generalize u2.alloc (.cells #[.int .i64 e.lev] 3) = u3 at X3 T3 B3 T1_2_3 hHeld ⊢
   refine eA 10 fun K hK => ?_
   refine step_appN intsN u3 u3 B _ (.tmp 7) (.tmp 11) _ x.levels.length 1 (ints .i64 x.levels) [.int .i64 e.lev] _ _ rfl rfl rfl rfl X3.out.levels T3.out.lies rfl (by simp [Value.oneCell']) (Below.refl _ _) X3.out.le (by unfold maxLen; omega) (by omega) ?_
   intro v4 u4 o_ b_ g_ e_
   obtain ⟨A4, c4, rfl, _, _, _⟩ := o_.form
   have X4 := Lib.hid (X3.out.appL o_ g_ e_)
   have B4 := Lib.hid (B3.out.trans b_)
   have T1_2_3_4 := Lib.hid (T1_2_3.out.grown g_ N1.out)
   clear o_ b_ g_ e_
   refine eB hK hZ (X4.out.seen) fun hHeld hZ => ?_
   clear hK K
   try simp only [Act.put,ZA,ZB,ZC,ZD,ZE,ZF]
   refine eA 16 fun K hK => ?_
   refine step_appN intsN u4 u4 B _ (.tmp 16) (.tmp 17) _ x.classes.length 1 (ints .i64 x.classes) [.int .i64 18] _ _ rfl rfl rfl rfl X4.out.classes T1_2_3_4.out.lies rfl (by simp [Value.oneCell']) (Below.refl _ _) X4.out.le (by unfold maxLen; omega) (by omega) ?_
   intro v5 u5 o_ b_ g_ e_
   obtain ⟨A5, c5, rfl, _, _, _⟩ := o_.form
   have X5 := Lib.hid (X4.out.appC o_ g_ e_)
   have B5 := Lib.hid (B4.out.trans b_)
   clear o_ b_ g_ e_
   refine eB hK hZ (X5.out.seen) fun hHeld hZ => ?_
   clear hK K
   try simp only [Act.put,ZA,ZB,ZC,ZD,ZE,ZF]
   refine' eX 17 hZ fun hZ => ?_
   try simp only [Act.put,ZA,ZB,ZC,ZD,ZE,ZF]
   refine' eX 18 hZ fun hZ => ?_
   try simp only [Act.put,ZA,ZB,ZC,ZD,ZE,ZF]
   refine eA 19 fun K hK => ?_
   refine step_store u5 B (.tmp 20) (.tmp 12) g 6 9 _ _ u5 rfl rfl rfl (by kernel_rfl) rfl rfl rfl X5.out.row (by simp [X6.cells]) (Below.refl _ _) ?_
   intro u6 r_ b_ g_
   have R6 := Lib.hid r_
   have G6 := Lib.hid g_
   have B6 := Lib.hid (B5.out.trans b_)
   clear r_ b_ g_
   refine eE hK hZ fun hZ => ?_
   clear hK K
   try simp only [Act.put,ZA,ZB,ZC,ZD,ZE,ZF]
   refine' eX 20 hZ fun hZ => ?_
   try simp only [Act.put,ZA,ZB,ZC,ZD,ZE,ZF]
   refine' eX 21 hZ fun hZ => ?_
   try simp only [Act.put,ZA,ZB,ZC,ZD,ZE,ZF]
   refine eA 22 fun K hK => ?_
   refine step_store u6 B (.tmp 22) (.tmp 18) g 7 9 _ _ u6 rfl rfl rfl (by kernel_rfl) rfl rfl rfl R6.out (by simp [X6.cells]) (Below.refl _ _) ?_
   intro u7 r_ b_ g_
   have XF := Lib.hid (X5.out.done R6.out G6.out r_ g_)
   have BF := Lib.hid (B6.out.trans b_)
   clear r_ b_ g_
   refine eE hK hZ fun hZ => ?_
   clear hK K
   try simp only [Act.put,ZA,ZB,ZC,ZD,ZE,ZF]
   refine wpAnyE_done (by kernel_rfl) ?_ _
   clear hZ
   go_wp2_with fail
   go_meet
   exact ⟨⟨_, _, XF.out⟩, BF.out⟩
 case rest =>
  obtain ⟨⟨lv1, cv1, x1⟩, b1⟩ := hcut
  obtain ⟨y, hy⟩ : ∃ y : X6, { x with levels := x.levels ++ [e.lev], classes := x.classes ++ [18] } = y := ⟨_, rfl⟩
  rw [hy] at x1
  have hyst : y.st = e :: st := by rw [← hy]; exact HST.out
  have hyi : y.isos = x.isos := by rw [← hy]
  have hye : y.embeds = x.embeds := by rw [← hy]
  have hyl : y.st.length ≤ 1000000 := by rw [← hy]; exact hsm
  have HEX : Hid (backX x = if 0 < y.isos then y else if 0 < y.embeds then { y with embeds := y.embeds - 1 } else if e.iso = false ∧ 1 ≤ st.length then { y with st := st } else y) := Lib.hid (by
   unfold backX
   split
   ·rename_i h; rw [HST.out] at h; cases h
   ·rename_i e' st' h
    rw [HST.out] at h
    injection h with h1 h2
    subst h1
    subst h2
    simp only [hy, hyi, hye]
    rw [← hy])
  have hyb : y.embeds ≤ 1000000 := by rw [hye]; exact HS.out.embeds
  have HY := Lib.hid hyst
  have X1 := Lib.hid x1
  have B1 := Lib.hid b1
  have h2 := x1.field 2 (by omega)
  have h3 := x1.field 3 (by omega)
  have h1' := x1.field 1 (by omega)
  obtain ⟨As, cs, rfl, _, _, _⟩ := x1.stack.form
  simp only [X6.cells, List.getElem?_cons_succ, List.getElem?_cons_zero] at h2 h3 h1'
  clear hy hyst x1 b1 hf0 hyi hye h1'
  rcases hA : decide (0 < y.isos) with _ | _
  ·rcases hB : decide (0 < y.embeds) with _ | _
   ·have hf2 := field2 e.lev e.over e.iso
    rcases hio : e.iso with _ | _
    ·rw [hio] at hf2
     have HIO := Lib.hid hio
     clear hio
     have hlen : y.st.length = st.length + 1 := by rw [HY.out]; rfl
     rcases hC : decide (1 ≤ st.length) with _ | _
     ·have HZ : Hid (backX x = y) := Lib.hid (by rw [HEX.out, if_neg (by simpa using hA), if_neg (by simpa using hB), if_neg (fun h => (of_decide_eq_false hC) h.2)])
      have hge : decide ((2 : Int) ≤ (y.st.length : Int)) = false := by have := of_decide_eq_false hC; rw [decide_eq_false_iff_not]; omega
      go_wp2_with fail
      refine (top_any wc B g y lsl _ lv1 cv1 e st HY.out X1.out hyl).mono ?_
      rintro ed w2 ⟨rfl, b2⟩
      rw [HIO.out]
      have X2 := Lib.hid (X1.out.below b2 (Nat.le_refl _))
      have B2 := Lib.hid (B1.out.trans (b2.mono X1.out.le))
      have h1 := X2.out.field 1 (by omega)
      simp only [X6.cells, List.getElem?_cons_succ, List.getElem?_cons_zero] at h1
      clear b2 hlen
      go_wp2_with fail
      (try simp only [Exit.inBlock, Exit.then])
      exact bodyPost_end (results_none rfl _ _ _) rfl ⟨rfl, by rw [HZ.out]; exact ⟨_, _, _, X2.out⟩, B2.out⟩
     ·have HZ : Hid (backX x = { y with st := st }) := Lib.hid (by rw [HEX.out, if_neg (by simpa using hA), if_neg (by simpa using hB), if_pos ⟨HIO.out, by simpa using hC⟩])
      have hge : decide ((2 : Int) ≤ (y.st.length : Int)) = true := by have := of_decide_eq_true hC; rw [decide_eq_true_iff]; omega
      go_wp2_with fail
      refine (top_any wc B g y lsl _ lv1 cv1 e st HY.out X1.out hyl).mono ?_
      rintro ed w2 ⟨rfl, b2⟩
      rw [HIO.out]
      have X2 := Lib.hid (X1.out.below b2 (Nat.le_refl _))
      have B2 := Lib.hid (B1.out.trans (b2.mono X1.out.le))
      have h1 := X2.out.field 1 (by omega)
      simp only [X6.cells, List.getElem?_cons_succ, List.getElem?_cons_zero] at h1
      clear b2 hlen
      go_wp2_with fail
      refine (pop_any w2 B g y lsl _ lv1 cv1 e st HY.out X2.out hyl).mono ?_
      rintro ed w3 ⟨rfl, ⟨sv3, x3⟩, b3⟩
      have X3 := Lib.hid x3
      have B3 := Lib.hid (B2.out.trans b3)
      clear x3 b3
      go_wp2_with fail
      (try simp only [Exit.inBlock, Exit.then])
      exact bodyPost_end (results_none rfl _ _ _) rfl ⟨rfl, by rw [HZ.out]; exact ⟨_, _, _, X3.out⟩, B3.out⟩
    ·have HZ : Hid (backX x = y) := Lib.hid (by rw [HEX.out, if_neg (by simpa using hA), if_neg (by simpa using hB), if_neg (by rw [hio]; simp)])
     rw [hio] at hf2
     have HIO := Lib.hid hio
     clear hio
     go_wp2_with fail
     refine (top_any wc B g y lsl _ lv1 cv1 e st HY.out X1.out hyl).mono ?_
     rintro ed w2 ⟨rfl, b2⟩
     rw [HIO.out]
     have X2 := Lib.hid (X1.out.below b2 (Nat.le_refl _))
     have B2 := Lib.hid (B1.out.trans (b2.mono X1.out.le))
     clear b2
     go_wp2_with fail
     (try simp only [Exit.inBlock, Exit.then])
     exact bodyPost_end (results_none rfl _ _ _) rfl ⟨rfl, by rw [HZ.out]; exact ⟨_, _, _, X2.out⟩, B2.out⟩
   ·have HZ : Hid (backX x = { y with embeds := y.embeds - 1 }) := Lib.hid (by rw [HEX.out, if_neg (by simpa using hA), if_pos (by simpa using hB)])
    have hpos : 0 < y.embeds := by simpa using hB
    have hw1 : IntKind.i64.wrap ((y.embeds : Int) - 1) = ((y.embeds - 1 : Nat) : Int) := by rw [IntWalk.i64_in _ (by omega)]; omega
    clear hpos
    go_wp2_with (first
     | (refine store_cell wc B _ _ g 3 9 (.int .i64 ((y.embeds - 1 : Nat) : Int)) _ wc rfl rfl rfl (by kernel_rfl) rfl rfl rfl X1.out.row (by simp [X6.cells]) (Below.refl _ _) ?_; intro w5 r5 b5 g5; have X5 := Lib.hid (X1.out.stored (x' := { y with embeds := y.embeds - 1 }) r5 g5 rfl rfl rfl rfl); have B5 := Lib.hid (B1.out.trans b5); clear r5 b5 g5)
     | fail)
    (try simp only [Exit.inBlock, Exit.then])
    exact bodyPost_end (results_none rfl _ _ _) rfl ⟨rfl, by rw [HZ.out]; exact ⟨_, _, _, X5.out⟩, B5.out⟩
  ·have HZ : Hid (backX x = y) := Lib.hid (by rw [HEX.out, if_pos (by simpa using hA)])
   go_wp2_with fail
   (try simp only [Exit.inBlock, Exit.then])
   exact bodyPost_end (results_none rfl _ _ _) rfl ⟨rfl, by rw [HZ.out]; exact ⟨_, _, _, X1.out⟩, B1.out⟩
end Go.Proofs.YtcbaahlahohfmaaGreatDoor
