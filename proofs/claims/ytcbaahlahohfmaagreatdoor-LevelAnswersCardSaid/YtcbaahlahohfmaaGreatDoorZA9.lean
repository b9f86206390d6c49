/- Shared texts, shaken for one claim. -/
import Derived.Deep.LoopGhost
import Derived.Test.YtcbaahlahohfmaaGreatDoorZA4
import Derived.Test.YtcbaahlahohfmaaGreatDoorZA8
namespace Go.Proofs.YtcbaahlahohfmaaGreatDoor
open Go.RowKit
def unwind (st : List Ent) : List Ent := (st.dropWhile fun e => !e.iso).tail
theorem unwind_skip {e : Ent} {st : List Ent} (h : e.iso = false) : unwind (e :: st) = unwind st := by simp [unwind, List.dropWhile, h]
theorem unwind_hit {e : Ent} {st : List Ent} (h : e.iso = true) : unwind (e :: st) = st := by simp [unwind, List.dropWhile, h]
def endX0 (x : X6) : X6 := if 0 < x.isos then { x with isos := x.isos - 1 } else if 0 < x.valid then { x with embeds := 0, st := unwind x.st, valid := x.valid - 1 } else x
def endX (x : X6) (c : Int) : X6 := putX (endX0 x) c
set_option maxRecDepth 20000 in
set_option maxHeartbeats 4000000 in
theorem endX_any (w : World) (B g : Nat) (x : X6) (lsl : Value) (c : Int) (e : Ent) (st : List Ent) (hst : (endX0 x).st = e :: st) (hx : HasX w B g x lsl) (hs : x.Small) :
 Calls Tryz.prog 108 #[.pointer (some ⟨g, 0, none⟩), .int .i64 c] w fun ed w' => ed = .returned (.tuple #[]) ∧ HasX w' B g (endX x c) lsl ∧ Below B w w' := by
 obtain ⟨sv, lv, cv, h⟩ := hx
 have h2 := h.field 2 (by omega)
 have h4 := h.field 4 (by omega)
 simp only [X6.cells, List.getElem?_cons_succ, List.getElem?_cons_zero] at h2 h4
 have H := Lib.hid h
 have hi := hs.isos
 have hv := hs.valid
 have HS := Lib.hid hs
 obtain ⟨y, hy⟩ : ∃ y, endX0 x = y := ⟨_, rfl⟩
 have HEY : Hid (endX x c = putX y c) := Lib.hid (by rw [endX, hy])
 have HYS : y.Small := by
  rw [← hy]
  have := hs.st; have := hs.lev; have := hs.cls; have := hs.isos; have := hs.embeds; have := hs.valid
  unfold endX0
  split
  ·exact ⟨hs.st, hs.lev, hs.cls, by show x.isos - 1 ≤ _; omega, hs.embeds, hs.valid⟩
  ·split
   ·refine ⟨?_, hs.lev, hs.cls, hs.isos, Nat.zero_le _, by show x.valid - 1 ≤ _; omega⟩
    have h1 : (unwind x.st).length ≤ x.st.length := by
     unfold unwind
     rw [List.length_tail]
     have := (List.dropWhile_sublist (l := x.st) (p := fun e => !e.iso)).length_le
     omega
    show (unwind x.st).length ≤ _
    omega
   ·exact hs
 have HYSt := Lib.hid HYS
 rw [hy] at hst
 have HST := Lib.hid hst
 have hf2 := fun e : Ent => field2 e.lev e.over e.iso
 have HF2 := Lib.hid hf2
 rcases h0 : decide (0 < x.isos) with _ | _
 ·have n0 : ¬ 0 < x.isos := by simp at h0; omega
  rcases h1 : decide (0 < x.valid) with _ | _
  ·have n1 : ¬ 0 < x.valid := by simp at h1; omega
   obtain rfl : x = y := by rw [← hy, endX0, if_neg n0, if_neg n1]
   clear h hst hs hy HYS hf2 n0 n1
   go_enter Tryz.func108, Tryz.ntmps108
   go_wp2_with fail
   refine (put_any w B g x lsl c e st HST.out ⟨_, _, _, H.out⟩ HS.out).mono ?_
   rintro ed w9 ⟨rfl, x9, b9⟩
   have X9 := Lib.hid x9
   have B9 := Lib.hid b9
   clear x9 b9
   go_wp2_with fail
   (try simp only [Exit.inBlock, Exit.then])
   exact bodyPost_end (results_none rfl _ _ _) rfl ⟨rfl, by rw [HEY.out]; exact X9.out, B9.out⟩
  ·have n1 : 0 < x.valid := by simp at h1; omega
   have hyy : y = { x with embeds := 0, st := unwind x.st, valid := x.valid - 1 } := by rw [← hy, endX0, if_neg n0, if_pos n1]
   have HYY := Lib.hid hyy
   have hun : unwind x.st = e :: st := by rw [hyy] at hst; exact hst
   have HUN := Lib.hid hun
   have hw1 : IntKind.i64.wrap ((x.valid : Int) - 1) = ((x.valid - 1 : Nat) : Int) := by rw [IntWalk.i64_in _ (by omega)]; omega
   clear h hst hs hy HYS hf2 n0 hyy hun
   go_enter Tryz.func108, Tryz.ntmps108
   go_wp2_with (first
    | (refine store_cell w B _ _ g 3 9 (.int .i64 0) _ w rfl rfl rfl (by kernel_rfl) rfl rfl rfl H.out.row (by simp [X6.cells]) (Below.refl _ _) ?_; intro w1 r1 b1 g1; have X1 := Lib.hid (H.out.stored (x' := { x with embeds := 0 }) r1 g1 rfl rfl rfl rfl); have B1 := Lib.hid b1; clear r1 b1 g1)
    | fail)
   clear h2 h4
   go_loopg [] x.st.length (fun k wr => ∃ s sv', s.length = k ∧ s.length ≤ 100000 ∧ unwind s = e :: st ∧ IsX wr B g { x with embeds := 0, st := s } lsl sv' lv cv ∧ Below B w wr)
   case atStart => exact ⟨x.st, sv, rfl, HS.out.st, HUN.out, X1.out, B1.out⟩
   case round =>
    obtain ⟨s, sv', hsk, hsl, hsu, hx, hb⟩ := hrel
    cases s with
    | nil => simp [unwind] at hsu
    | cons e1 s1 =>
     have X2 := Lib.hid hx
     have B2 := Lib.hid hb
     have hf := HF2.out e1
     have hsl' : (e1 :: s1).length ≤ 1000000 := by omega
     rcases hio : e1.iso with _ | _
     ·have HU := Lib.hid ((unwind_skip hio).symm.trans hsu)
      have HIO := Lib.hid hio
      rw [hio] at hf
      clear hsu hx hb hio
      go_wp2_with fail
      refine (top_any wr B g { x with embeds := 0, st := e1 :: s1 } lsl sv' lv cv e1 s1 rfl X2.out hsl').mono ?_
      rintro ed w3 ⟨rfl, b3⟩
      rw [HIO.out]
      have X3 := Lib.hid (X2.out.below b3 (Nat.le_refl _))
      have B3 := Lib.hid (B2.out.trans (b3.mono X2.out.le))
      clear b3
      go_wp2_with fail
      refine (pop_any w3 B g { x with embeds := 0, st := e1 :: s1 } lsl sv' lv cv e1 s1 rfl X3.out hsl').mono ?_
      rintro ed w4 ⟨rfl, ⟨sv4, x4⟩, b4⟩
      have X4 := Lib.hid x4
      have B4 := Lib.hid (B3.out.trans b4)
      clear x4 b4
      go_wp2_with fail
      go_roundg s1.length
      case measure => simp at hsk; omega
      case rel => exact ⟨s1, sv4, rfl, by simp at hsl; omega, HU.out, X4.out, B4.out⟩
     ·have HU := Lib.hid ((unwind_hit hio).symm.trans hsu)
      have HIO := Lib.hid hio
      rw [hio] at hf
      clear hsu hx hb hio
      go_wp2_with fail
      refine (top_any wr B g { x with embeds := 0, st := e1 :: s1 } lsl sv' lv cv e1 s1 rfl X2.out hsl').mono ?_
      rintro ed w3 ⟨rfl, b3⟩
      rw [HIO.out]
      have X3 := Lib.hid (X2.out.below b3 (Nat.le_refl _))
      have B3 := Lib.hid (B2.out.trans (b3.mono X2.out.le))
      clear b3
      go_wp2_with fail
      refine (pop_any w3 B g { x with embeds := 0, st := e1 :: s1 } lsl sv' lv cv e1 s1 rfl X3.out hsl').mono ?_
      rintro ed w4 ⟨rfl, ⟨sv4, x4⟩, b4⟩
      have X4 := Lib.hid x4
      have B4 := Lib.hid (B3.out.trans b4)
      have h4 := x4.field 4 (by omega)
      simp only [X6.cells, List.getElem?_cons_succ, List.getElem?_cons_zero] at h4
      clear x4 b4
      have HYE : Hid (y = { x with embeds := 0, st := s1, valid := x.valid - 1 }) := Lib.hid (by rw [HYY.out, HUN.out, HU.out])
      go_wp2_with (first
       | (refine store_cell w4 B _ _ g 4 9 (.int .i64 ((x.valid - 1 : Nat) : Int)) _ w4 rfl rfl rfl (by kernel_rfl) rfl rfl rfl X4.out.row (by simp [X6.cells]) (Below.refl _ _) ?_; intro w5 r5 b5 g5; have X5 := Lib.hid (X4.out.stored (x' := { x with embeds := 0, st := s1, valid := x.valid - 1 }) r5 g5 rfl rfl rfl rfl); have B5 := Lib.hid (B4.out.trans b5); clear r5 b5 g5)
       | fail)
      refine (put_any w5 B g y lsl c e st HST.out (by rw [HYE.out]; exact ⟨_, _, _, X5.out⟩) HYSt.out).mono ?_
      rintro ed w9 ⟨rfl, x9, b9⟩
      have X9 := Lib.hid x9
      have B9 := Lib.hid (B5.out.trans b9)
      clear x9 b9
      go_wp2_with fail
      (try simp only [Exit.inBlock, Exit.then])
      exact bodyPost_end (results_none rfl _ _ _) rfl ⟨rfl, by rw [HEY.out]; exact X9.out, B9.out⟩
 ·have n0 : 0 < x.isos := by simp at h0; omega
  have hyy : y = { x with isos := x.isos - 1 } := by rw [← hy, endX0, if_pos n0]
  have HYY := Lib.hid hyy
  have hw1 : IntKind.i64.wrap ((x.isos : Int) - 1) = ((x.isos - 1 : Nat) : Int) := by rw [IntWalk.i64_in _ (by omega)]; omega
  clear h hst hs hy HYS hf2 hyy
  go_enter Tryz.func108, Tryz.ntmps108
  go_wp2_with (first
   | (refine store_cell w B _ _ g 2 9 (.int .i64 ((x.isos - 1 : Nat) : Int)) _ w rfl rfl rfl (by kernel_rfl) rfl rfl rfl H.out.row (by simp [X6.cells]) (Below.refl _ _) ?_; intro w5 r5 b5 g5; have X5 := Lib.hid (H.out.stored (x' := { x with isos := x.isos - 1 }) r5 g5 rfl rfl rfl rfl); have B5 := Lib.hid b5; clear r5 b5 g5)
   | fail)
  refine (put_any w5 B g y lsl c e st HST.out (by rw [HYY.out]; exact ⟨_, _, _, X5.out⟩) HYSt.out).mono ?_
  rintro ed w9 ⟨rfl, x9, b9⟩
  have X9 := Lib.hid x9
  have B9 := Lib.hid (B5.out.trans b9)
  clear x9 b9
  go_wp2_with fail
  (try simp only [Exit.inBlock, Exit.then])
  exact bodyPost_end (results_none rfl _ _ _) rfl ⟨rfl, by rw [HEY.out]; exact X9.out, B9.out⟩
end Go.Proofs.YtcbaahlahohfmaaGreatDoor
namespace Go.Proofs.YtcbaahlahohfmaaGreatDoor
open Go.RowKit
theorem HasP.le {w : World} {B g : Nat} {p : P6} {lsl : Value} (h : HasP w B g p lsl) : B ≤ w.heap.size := by obtain ⟨sv, h⟩ := h; exact h.le
theorem HasP.below {w w' : World} {B g : Nat} {p : P6} {lsl : Value} (h : HasP w B g p lsl) (hb : Below w.heap.size w w') : HasP w' B g p lsl := by obtain ⟨sv, h⟩ := h; exact ⟨sv, h.below hb (Nat.le_refl _)⟩
def resetP (p : P6) : P6 := { p with st := [⟨p.base, -1, false⟩], isos := 0, embeds := 0, valid := 0 }
set_option maxRecDepth 20000 in
set_option maxHeartbeats 4000000 in
theorem reset_any (w : World) (B g : Nat) (p : P6) (lsl sv : Value) (h : IsP w B g p lsl sv) (hz : p.st ≠ [] ∨ sv = .slice none 0 0) (hsm : p.st.length ≤ 1000000) :
 Calls Tryz.prog 80 #[.pointer (some ⟨g, 0, none⟩)] w fun ed w' => ed = .returned (.tuple #[]) ∧ HasP w' B g (resetP p) lsl ∧ Below B w w' := by
 have hin := h.inside
 obtain ⟨n, hn⟩ : ∃ n, p.st.length = n := ⟨_, rfl⟩
 obtain ⟨A, c, rfl, hnc, hsh⟩ := h.stack.short (j := 0) (by omega)
 have hA : (A = none ∧ c = 0 ∧ n = 0) ∨ (∃ gs, A = some ⟨gs, 0, none⟩ ∧ ¬ c = 0) := by
  by_cases h0 : 0 < p.st.length
  ·obtain ⟨gs, c', hv, _⟩ := h.stack.block h0
   injection hv with hv
   exact .inr ⟨gs, hv, by omega⟩
  ·rcases hz with hz | hz
   ·cases hs : p.st with
    | nil => exact absurd hs hz
    | cons a b => rw [hs] at h0; simp at h0
   ·injection hz with h1 h2 h3
    exact .inl ⟨h1, h3, by omega⟩
 have h1 := h.field 2 (by omega)
 have h0 := h.field 1 (by omega)
 simp only [P6.cells, List.getElem?_cons_succ, List.getElem?_cons_zero] at h1 h0
 rw [hn] at h1
 obtain ⟨b, hb⟩ : ∃ b, p.base = b := ⟨_, rfl⟩
 rw [hb] at h0
 have HB := Lib.hid hb
 have HN := Lib.hid hn
 have b0 : (0 : Int) ≤ (c : Int) := by omega
 have H := Lib.hid h
 have F1 : Hid ((Value.slice A 0 c).ownBlock ≠ some g) := Lib.hid (by
  have := h.far
  rcases hA with ⟨rfl, rfl, rfl⟩ | ⟨gs, rfl, _⟩
  ·simp [Value.ownBlock]
  ·simpa [Value.ownBlock] using this)
 have HSH : Hid (OwnN w B 88 3 (.slice A 0 c) 0 []) := Lib.hid (by simpa using hsh)
 have HBB : Hid (B ≤ w.heap.size) := Lib.hid h.le
 have hk : w.drew.cell? ⟨g, 2, none⟩ = some (.slice A n c) ∧ w.drew.cell? ⟨g, 1, none⟩ = some (.int .i64 b) := ⟨h1, h0⟩
 have SK : Hid (∀ w', Below w.heap.size w w' → w'.cell? ⟨g, 2, none⟩ = some (.slice A n c) ∧ w'.cell? ⟨g, 1, none⟩ = some (.int .i64 b)) :=
  Lib.hid fun w' hb => ⟨by rw [hb.cell (show g < w.heap.size by omega)]; exact h1, by rw [hb.cell (show g < w.heap.size by omega)]; exact h0⟩
 clear h hsh hz hsm hb hn h1 h0
 rcases hA with ⟨rfl, rfl, rfl⟩ | ⟨gs, rfl, hcc⟩
 all_goals
  go_enter Tryz.func80, Tryz.ntmps80
  go_wp2_with fail
  refine wp_region_E (S := fun w' => w'.cell? ⟨g, 2, none⟩ = some (.slice _ _ _) ∧ w'.cell? ⟨g, 1, none⟩ = some (.int .i64 b)) [15] (by kernel_rfl) (hk) (fun hHeld hZ => ?_)
  refine' eY 0 hHeld hZ fun hZ => ?_
  try simp only [Act.put,ZA,ZB,ZD,ZE,ZF]
  refine' eY 1 hHeld hZ fun hZ => ?_
  try simp only [Act.put,ZA,ZB,ZC,ZD,ZE,ZF]
  refine' eY 2 hHeld hZ fun hZ => ?_
  try simp only [Act.put,ZA,ZB,ZC,ZD,ZE,ZF]
  refine' eY 3 hHeld hZ fun hZ => ?_
  try simp only [Act.put,ZA,ZB,ZC,ZD,ZE,ZF]
  refine' eY 4 hHeld hZ fun hZ => ?_
  try simp only [Act.put,ZA,ZB,ZC,ZD,ZE,ZF]
  refine' eY 5 hHeld hZ fun hZ => ?_
  try simp only [Act.put,ZA,ZB,ZC,ZD,ZE,ZF]
  refine' eY 6 hHeld hZ fun hZ => ?_
  try simp only [Act.put,ZA,ZB,ZC,ZD,ZE,ZF]
  refine' eY 7 hHeld hZ fun hZ => ?_
  try simp only [Act.put,ZA,ZB,ZC,ZD,ZE,ZF]
  refine' eY 8 hHeld hZ fun hZ => ?_
  try simp only [Act.put,ZA,ZB,ZC,ZD,ZE,ZF]
  refine' eY 9 hHeld hZ fun hZ => ?_
  try simp only [Act.put,ZA,ZB,ZC,ZD,ZE,ZF]
  refine' eY 10 hHeld hZ fun hZ => ?_
  try simp only [Act.put,ZA,ZB,ZC,ZD,ZE,ZF]
  refine eA 11 fun K hK => ?_
  go_simp
  refine eB hK hZ (SK.out _ (by exact below_same (below_alloc w _) rfl rfl rfl rfl)) fun hHeld hZ => ?_
  clear hK K
  try simp only [Act.put,ZA,ZB,ZC,ZD,ZE,ZF]
  refine eA 12 fun K hK => ?_
  refine step_appN pentsT w _ B _ (.tmp 7) (.tmp 13) (.slice _ 0 _) 0 1 [] (Ent.cells ⟨b, -1, false⟩) _ _ rfl rfl rfl rfl (OwnN.same (HSH.out.alloc _) rfl) (Lies.sameHeap (ent_lies w ⟨b, -1, false⟩) rfl) rfl (cells_one _) (by exact below_same ((below_alloc w _).mono HBB.out) rfl rfl rfl rfl) (by have := HBB.out; simp; omega) (by unfold maxLen; omega) (by omega) ?_
  intro v2 w2 o2 b2 g2 e2
  obtain ⟨A2, c2, rfl, _, _, _⟩ := o2.form
  have O2 := Lib.hid o2
  have B2 := Lib.hid b2
  have G2 := Lib.hid g2
  have E2 := Lib.hid e2
  have RW : Hid (OwnN w2 B 86 1 (.slice (some ⟨g, 0, none⟩) 6 6) 6 (p.cells lsl _)) := Lib.hid (OwnN.keep (w := (w.alloc (.cells #[.int .i64 b, .int .i64 (-1), .bool false] 88)).drew) (OwnN.same (H.out.row.alloc _) rfl) g2 (.inr (fun e => F1.out e.symm)))
  clear o2 b2 g2 e2
  have hk2 : w2.cell? ⟨g, 2, none⟩ = some (.slice _ _ _) ∧ w2.cell? ⟨g, 1, none⟩ = some (.int .i64 b) := ⟨by have := World.ownsRow.cellAt RW.out 2 (by omega); rw [this]; simp only [P6.cells, List.getElem?_cons_succ, List.getElem?_cons_zero, HN.out]; rfl, by have := World.ownsRow.cellAt RW.out 1 (by omega); rw [this, ← HB.out]; rfl⟩
  refine eB hK hZ (hk2) fun hHeld hZ => ?_
  clear hK K
  try simp only [Act.put,ZA,ZB,ZC,ZD,ZE,ZF]
  refine' eY 13 hHeld hZ fun hZ => ?_
  try simp only [Act.put,ZA,ZB,ZC,ZD,ZE,ZF]
  refine' eY 14 hHeld hZ fun hZ => ?_
  try simp only [Act.put,ZA,ZB,ZC,ZD,ZE,ZF]
  refine eA 15 fun K hK => ?_
  refine step_store w2 B (.tmp 16) (.tmp 14) g 2 6 (.slice A2 (0 + 1) c2) _ w2 rfl rfl rfl (by kernel_rfl) rfl rfl rfl RW.out (by simp [P6.cells]) (Below.refl _ _) ?_
  intro w3 r3 b3 g3
  have X3 : Hid (IsP w3 B g { p with st := [⟨b, -1, false⟩] } lsl (.slice A2 (0 + 1) c2)) := Lib.hid ⟨r3, by
   have := O2.out.keep g3 (.inr (grown_ne E2.out F1.out (by have := hin.2; simp; omega)))
   simpa [ents] using this⟩
  have B3 := Lib.hid (B2.out.trans b3)
  clear r3 b3 g3 hk2
  refine eE hK hZ fun hZ => ?_
  clear hK K
  try simp only [Act.put,ZA,ZB,ZC,ZD,ZE,ZF]
  refine wpAnyE_done (by kernel_rfl) ?_ _
  clear hZ
  go_wp2_with (first
   | (refine store_cell w3 B _ _ g 3 6 (.int .i64 0) _ w3 rfl rfl rfl (by kernel_rfl) rfl rfl rfl X3.out.row (by simp [P6.cells]) (Below.refl _ _) ?_; intro w4 r4 b4 g4; have X4 := Lib.hid (X3.out.stored (p' := { p with st := [⟨b, -1, false⟩], isos := 0 }) r4 g4 rfl rfl); have B4 := Lib.hid (B3.out.trans b4); clear r4 b4 g4)
   | (refine store_cell w4 B _ _ g 4 6 (.int .i64 0) _ w4 rfl rfl rfl (by kernel_rfl) rfl rfl rfl X4.out.row (by simp [P6.cells]) (Below.refl _ _) ?_; intro w5 r5 b5 g5; have X5 := Lib.hid (X4.out.stored (p' := { p with st := [⟨b, -1, false⟩], isos := 0, embeds := 0 }) r5 g5 rfl rfl); have B5 := Lib.hid (B4.out.trans b5); clear r5 b5 g5)
   | (refine store_cell w5 B _ _ g 5 6 (.int .i64 0) _ w5 rfl rfl rfl (by kernel_rfl) rfl rfl rfl X5.out.row (by simp [P6.cells]) (Below.refl _ _) ?_; intro w6 r6 b6 g6; have X6 := Lib.hid (X5.out.stored (p' := { p with st := [⟨b, -1, false⟩], isos := 0, embeds := 0, valid := 0 }) r6 g6 rfl rfl); have B6 := Lib.hid (B5.out.trans b6); clear r6 b6 g6)
   | fail)
  (try simp only [Exit.inBlock, Exit.then])
  exact bodyPost_end (results_none rfl _ _ _) rfl ⟨rfl, ⟨_, by have := X6.out; rw [← HB.out] at this; exact this⟩, B6.out⟩
def beginP (p : P6) (d o : Int) : P6 := if (overP p || !fitP p d) = true then (if p.isos = 0 then { p with embeds := p.embeds + 1 } else p) else pushP p d o false
set_option maxRecDepth 20000 in
set_option maxHeartbeats 4000000 in
theorem beginEmbed_any (w : World) (B g : Nat) (p : P6) (lsl sv : Value) (d o : Int) (e : Ent) (st : List Ent) (hst : p.st = e :: st) (hp : IsP w B g p lsl sv) (hs : p.Small) :
 Calls Tryz.prog 125 #[.pointer (some ⟨g, 0, none⟩), .int .i64 d, .int .i64 o] w fun ed w' => ed = .returned (.tuple #[]) ∧ Went w w' B g (beginP p d o) lsl sv ∧ Below B w w' := by
 have HP := Lib.hid hp
 have HST := Lib.hid hst
 have hsm : p.st.length ≤ 1000000 := by have := hs.st; omega
 have hem := hs.embeds
 have BW : Hid (Below B w w) := Lib.hid (Below.refl _ _)
 obtain ⟨q, hq⟩ : ∃ q, beginP p d o = q := ⟨_, rfl⟩
 have HQ := Lib.hid hq
 rw [hq]
 have hw1 : IntKind.i64.wrap ((p.embeds : Int) + 1) = ((p.embeds + 1 : Nat) : Int) := by rw [IntWalk.i64_in _ (by omega)]; omega
 clear hp hst hs hq
 rcases hO : overP p with _ | _
 ·have HO := Lib.hid hO
  clear hO
  go_enter Tryz.func125, Tryz.ntmps125
  go_wp2_with fail
  refine (overflows_any w B g p lsl ⟨_, HP.out⟩).mono ?_
  rintro e wq ⟨rfl, rfl⟩
  rw [HO.out]
  go_wp2_with fail
  refine (ppush_any w B g p lsl sv d o false e st HST.out HP.out hsm).mono ?_
  rintro ed w1 ⟨rfl, x1, b1⟩
  have X1 := Lib.hid x1
  have B1 := Lib.hid b1
  clear x1 b1
  rcases hF : fitP p d with _ | _
  ·have HU : Hid (pushP p d o false = p) := Lib.hid (by unfold fitP at hF; unfold pushP; rw [HST.out] at hF ⊢; simp only [decide_eq_false_iff_not] at hF; simp only; rw [if_neg hF])
   have X2 : Hid (Went w w1 B g p lsl sv) := Lib.hid (HU.out ▸ X1.out)
   obtain ⟨sv2, h, fr⟩ := X2.out
   have FR := Lib.hid fr
   have h3 := h.field 3 (by omega)
   have h4 := h.field 4 (by omega)
   simp only [P6.cells, List.getElem?_cons_succ, List.getElem?_cons_zero] at h3 h4
   have H := Lib.hid h
   have HF := Lib.hid hF
   clear h hF fr
   rcases hI : ((p.isos : Int) == 0) with _ | _
   ·have HE : Hid (p = q) := Lib.hid (by rw [← HQ.out, beginP, HO.out, HF.out, if_pos (by rfl), if_neg (by simp at hI; omega)])
    go_wp2_with fail
    (try simp only [Exit.inBlock, Exit.then])
    exact bodyPost_end (results_none rfl _ _ _) rfl ⟨rfl, by rw [← HE.out]; exact X2.out, B1.out⟩
   ·have HE : Hid ({ p with embeds := p.embeds + 1 } = q) := Lib.hid (by rw [← HQ.out, beginP, HO.out, HF.out, if_pos (by rfl), if_pos (by simp at hI; omega)])
    go_wp2_with (first
     | (refine store_cell w1 B _ _ g 4 6 (.int .i64 ((p.embeds + 1 : Nat) : Int)) _ w1 rfl rfl rfl (by kernel_rfl) rfl rfl rfl H.out.row (by simp [P6.cells]) (Below.refl _ _) ?_; intro w3 r3 b3 g3; have X3 := Lib.hid (H.out.stored (p' := { p with embeds := p.embeds + 1 }) r3 g3 rfl rfl); have B3 := Lib.hid (B1.out.trans b3); have G3 := Lib.hid g3; clear r3 b3 g3)
     | fail)
    (try simp only [Exit.inBlock, Exit.then])
    exact bodyPost_end (results_none rfl _ _ _) rfl ⟨rfl, by rw [← HE.out]; exact ⟨_, X3.out, FR.out.trans (Frame.store G3.out)⟩, B3.out⟩
  ·have HE : Hid (pushP p d o false = q) := Lib.hid (by rw [← HQ.out, beginP, HO.out, hF, if_neg (by simp)])
   clear hF
   go_wp2_with fail
   (try simp only [Exit.inBlock, Exit.then])
   exact bodyPost_end (results_none rfl _ _ _) rfl ⟨rfl, by rw [← HE.out]; exact X1.out, B1.out⟩
 ·have h := HP.out
  have h3 := h.field 3 (by omega)
  have h4 := h.field 4 (by omega)
  simp only [P6.cells, List.getElem?_cons_succ, List.getElem?_cons_zero] at h3 h4
  have H := Lib.hid h
  have HO := Lib.hid hO
  clear h hO
  rcases hI : ((p.isos : Int) == 0) with _ | _
  ·have HE : Hid (p = q) := Lib.hid (by rw [← HQ.out, beginP, HO.out, if_pos (by rfl), if_neg (by simp at hI; omega)])
   go_enter Tryz.func125, Tryz.ntmps125
   go_wp2_with fail
   refine (overflows_any w B g p lsl ⟨_, HP.out⟩).mono ?_
   rintro e wq ⟨rfl, rfl⟩
   rw [HO.out]
   go_wp2_with fail
   (try simp only [Exit.inBlock, Exit.then])
   exact bodyPost_end (results_none rfl _ _ _) rfl ⟨rfl, by rw [← HE.out]; exact ⟨_, HP.out, Frame.refl _ _ _⟩, BW.out⟩
  ·have HE : Hid ({ p with embeds := p.embeds + 1 } = q) := Lib.hid (by rw [← HQ.out, beginP, HO.out, if_pos (by rfl), if_pos (by simp at hI; omega)])
   go_enter Tryz.func125, Tryz.ntmps125
   go_wp2_with fail
   refine (overflows_any w B g p lsl ⟨_, HP.out⟩).mono ?_
   rintro e wq ⟨rfl, rfl⟩
   rw [HO.out]
   go_wp2_with (first
    | (refine store_cell w B _ _ g 4 6 (.int .i64 ((p.embeds + 1 : Nat) : Int)) _ w rfl rfl rfl (by kernel_rfl) rfl rfl rfl H.out.row (by simp [P6.cells]) (Below.refl _ _) ?_; intro w3 r3 b3 g3; have X3 := Lib.hid (H.out.stored (p' := { p with embeds := p.embeds + 1 }) r3 g3 rfl rfl); have B3 := Lib.hid b3; have G3 := Lib.hid g3; clear r3 b3 g3)
    | fail)
   (try simp only [Exit.inBlock, Exit.then])
   exact bodyPost_end (results_none rfl _ _ _) rfl ⟨rfl, by rw [← HE.out]; exact ⟨_, X3.out, Frame.store G3.out⟩, B3.out⟩
def backP (p : P6) : P6 := if 0 < p.isos then p else if 0 < p.embeds then { p with embeds := p.embeds - 1 } else match p.st with
 | [] => p
 | e :: st => if e.iso = false ∧ 1 ≤ st.length then { p with st := st } else p
set_option maxRecDepth 20000 in
set_option maxHeartbeats 4000000 in
theorem endEmbed_any (w : World) (B g : Nat) (p : P6) (lsl sv : Value) (e : Ent) (st : List Ent) (hst : p.st = e :: st) (x1 : IsP w B g p lsl sv) (hs : p.Small) :
 Calls Tryz.prog 126 #[.pointer (some ⟨g, 0, none⟩)] w fun ed w' => ed = .returned (.tuple #[]) ∧ Went w w' B g (backP p) lsl sv ∧ Below B w w' := by
 have hyl : p.st.length ≤ 1000000 := by have := hs.st; omega
 have hyb := hs.embeds
 have HY := Lib.hid hst
 have HEX : Hid (backP p = if 0 < p.isos then p else if 0 < p.embeds then { p with embeds := p.embeds - 1 } else if e.iso = false ∧ 1 ≤ st.length then { p with st := st } else p) := Lib.hid (by unfold backP; rw [hst])
 have h2 := x1.field 3 (by omega)
 have h3 := x1.field 4 (by omega)
 have X1 := Lib.hid x1
 have BW : Hid (Below B w w) := Lib.hid (Below.refl _ _)
 obtain ⟨As, cs, rfl, _, _, _⟩ := x1.stack.form
 simp only [P6.cells, List.getElem?_cons_succ, List.getElem?_cons_zero] at h2 h3
 clear hst x1 hs
 rcases hA : decide (0 < p.isos) with _ | _
 ·rcases hB : decide (0 < p.embeds) with _ | _
  ·have hf2 := pfield2 e.lev e.over e.iso
   rcases hio : e.iso with _ | _
   ·rw [hio] at hf2
    have HIO := Lib.hid hio
    clear hio
    have hlen : p.st.length = st.length + 1 := by rw [HY.out]; rfl
    rcases hC : decide (1 ≤ st.length) with _ | _
    ·have HZ : Hid (backP p = p) := Lib.hid (by rw [HEX.out, if_neg (by simpa using hA), if_neg (by simpa using hB), if_neg (fun h => (of_decide_eq_false hC) h.2)])
     have hge : decide ((2 : Int) ≤ (p.st.length : Int)) = false := by have := of_decide_eq_false hC; rw [decide_eq_false_iff_not]; omega
     go_enter Tryz.func126, Tryz.ntmps126
     go_wp2_with fail
     refine (plast_any w B g p lsl e st HY.out ⟨_, X1.out⟩ hyl).mono ?_
     rintro ed w2 ⟨rfl, b2⟩
     rw [HIO.out]
     have X2 := Lib.hid (X1.out.below b2 (Nat.le_refl _))
     have B2 : Hid (Below B w w2) := Lib.hid (b2.mono X1.out.le)
     have FR2 : Hid (Frame w w2 g (.slice As p.st.length cs) (.slice As p.st.length cs)) := Lib.hid (Frame.below b2)
     have h1 := X2.out.field 2 (by omega)
     simp only [P6.cells, List.getElem?_cons_succ, List.getElem?_cons_zero] at h1
     clear b2 hlen
     go_wp2_with fail
     (try simp only [Exit.inBlock, Exit.then])
     exact bodyPost_end (results_none rfl _ _ _) rfl ⟨rfl, by rw [HZ.out]; exact ⟨_, X2.out, FR2.out⟩, B2.out⟩
    ·have HZ : Hid (backP p = { p with st := st }) := Lib.hid (by rw [HEX.out, if_neg (by simpa using hA), if_neg (by simpa using hB), if_pos ⟨HIO.out, by simpa using hC⟩])
     have hge : decide ((2 : Int) ≤ (p.st.length : Int)) = true := by have := of_decide_eq_true hC; rw [decide_eq_true_iff]; omega
     go_enter Tryz.func126, Tryz.ntmps126
     go_wp2_with fail
     refine (plast_any w B g p lsl e st HY.out ⟨_, X1.out⟩ hyl).mono ?_
     rintro ed w2 ⟨rfl, b2⟩
     rw [HIO.out]
     have X2 := Lib.hid (X1.out.below b2 (Nat.le_refl _))
     have B2 : Hid (Below B w w2) := Lib.hid (b2.mono X1.out.le)
     have FR2 : Hid (Frame w w2 g (.slice As p.st.length cs) (.slice As p.st.length cs)) := Lib.hid (Frame.below b2)
     have h1 := X2.out.field 2 (by omega)
     simp only [P6.cells, List.getElem?_cons_succ, List.getElem?_cons_zero] at h1
     clear b2 hlen
     go_wp2_with fail
     refine (ppop_any w2 B g p lsl _ e st HY.out X2.out hyl).mono ?_
     rintro ed w3 ⟨rfl, x3, b3⟩
     have X3 := Lib.hid x3
     have B3 := Lib.hid (B2.out.trans b3)
     clear x3 b3
     go_wp2_with fail
     (try simp only [Exit.inBlock, Exit.then])
     exact bodyPost_end (results_none rfl _ _ _) rfl ⟨rfl, by rw [HZ.out]; (obtain ⟨sv3, x3, f3⟩ := X3.out; exact ⟨_, x3, FR2.out.trans f3⟩), B3.out⟩
   ·have HZ : Hid (backP p = p) := Lib.hid (by rw [HEX.out, if_neg (by simpa using hA), if_neg (by simpa using hB), if_neg (by rw [hio]; simp)])
    rw [hio] at hf2
    have HIO := Lib.hid hio
    clear hio
    go_enter Tryz.func126, Tryz.ntmps126
    go_wp2_with fail
    refine (plast_any w B g p lsl e st HY.out ⟨_, X1.out⟩ hyl).mono ?_
    rintro ed w2 ⟨rfl, b2⟩
    rw [HIO.out]
    have X2 := Lib.hid (X1.out.below b2 (Nat.le_refl _))
    have B2 : Hid (Below B w w2) := Lib.hid (b2.mono X1.out.le)
    have FR2 : Hid (Frame w w2 g (.slice As p.st.length cs) (.slice As p.st.length cs)) := Lib.hid (Frame.below b2)
    clear b2
    go_wp2_with fail
    (try simp only [Exit.inBlock, Exit.then])
    exact bodyPost_end (results_none rfl _ _ _) rfl ⟨rfl, by rw [HZ.out]; exact ⟨_, X2.out, FR2.out⟩, B2.out⟩
  ·have HZ : Hid (backP p = { p with embeds := p.embeds - 1 }) := Lib.hid (by rw [HEX.out, if_neg (by simpa using hA), if_pos (by simpa using hB)])
   have hpos : 0 < p.embeds := by simpa using hB
   have hw1 : IntKind.i64.wrap ((p.embeds : Int) - 1) = ((p.embeds - 1 : Nat) : Int) := by rw [IntWalk.i64_in _ (by omega)]; omega
   clear hpos
   go_enter Tryz.func126, Tryz.ntmps126
   go_wp2_with (first
    | (refine store_cell w B _ _ g 4 6 (.int .i64 ((p.embeds - 1 : Nat) : Int)) _ w rfl rfl rfl (by kernel_rfl) rfl rfl rfl X1.out.row (by simp [P6.cells]) (Below.refl _ _) ?_; intro w5 r5 b5 g5; have X5 := Lib.hid (X1.out.stored (p' := { p with embeds := p.embeds - 1 }) r5 g5 rfl rfl); have B5 := Lib.hid b5; have G5 := Lib.hid g5; clear r5 b5 g5)
    | fail)
   (try simp only [Exit.inBlock, Exit.then])
   exact bodyPost_end (results_none rfl _ _ _) rfl ⟨rfl, by rw [HZ.out]; exact ⟨_, X5.out, Frame.store G5.out⟩, B5.out⟩
 ·have HZ : Hid (backP p = p) := Lib.hid (by rw [HEX.out, if_pos (by simpa using hA)])
  go_enter Tryz.func126, Tryz.ntmps126
  go_wp2_with fail
  (try simp only [Exit.inBlock, Exit.then])
  exact bodyPost_end (results_none rfl _ _ _) rfl ⟨rfl, by rw [HZ.out]; exact ⟨_, X1.out, Frame.refl _ _ _⟩, BW.out⟩
end Go.Proofs.YtcbaahlahohfmaaGreatDoor
namespace Go.Proofs.YtcbaahlahohfmaaGreatDoor
open Go.RowKit
structure Ctx (w : World) (B : Nat) (A : Option Addr) (l : List Int) : Prop where
 tabs : ClsTabs w
 big : 0 < B
 list : Lies w B A (ints .i64 l)
theorem Ctx.below {w w' : World} {B : Nat} {A : Option Addr} {l : List Int} (h : Ctx w B A l) (hb : Below B w w') : Ctx w' B A l := ⟨h.tabs.below hb h.big, h.big, h.list.below hb⟩
def overE (e : Ent) (k : Int) : Int := if e.over = -1 then k else e.over
set_option maxRecDepth 20000 in
set_option maxHeartbeats 1000000 in
theorem over_any (e : Ent) (k : Int) (w : World) :
 Calls Tryz.prog 84 #[.agg #[.int .i64 e.lev, .int .i64 e.over, .bool e.iso], .int .i64 k] w fun ed w' => ed = .returned (.int .i64 (overE e k)) ∧ Below w.heap.size w w' := by
 rcases h : (e.over == -1) with _ | _
 ·have hz : overE e k = e.over := by rw [overE, if_neg (by simpa using h)]
  rw [hz]
  go_enter Tryz.func84, Tryz.ntmps84
  go_wp2
  go_ret
  exact ⟨rfl, below_alloc _ _⟩
 ·have hz : overE e k = k := by rw [overE, if_pos (by simpa using h)]
  rw [hz]
  go_enter Tryz.func84, Tryz.ntmps84
  go_wp2
  go_ret
  exact ⟨rfl, below_alloc _ _⟩
def knownI (k : Int) : Int := if k < 0 ∨ 22 < k then 0 else k
set_option maxRecDepth 20000 in
set_option maxHeartbeats 1000000 in
theorem known_any (k : Int) (w : World) (hT : ClsTabs w) : Calls Tryz.prog 86 #[.int .i64 k] w fun ed w' => ed = .returned (.int .i64 (knownI k)) ∧ w = w' := by
 have hw := wordOf_isEmpty k
 by_cases h : k < 0 ∨ 22 < k
 ·rw [decide_eq_true h] at hw
  have hz : knownI k = 0 := by rw [knownI, if_pos h]
  rw [hz]
  clear h
  go_enter Tryz.func86, Tryz.ntmps86
  go_wp2_with fail
  refine (word_any k w hT).mono ?_
  rintro e wq ⟨rfl, rfl⟩
  go_wp2_with fail
  go_ret
  exact ⟨rfl, rfl⟩
 ·rw [decide_eq_false h] at hw
  have hz : knownI k = k := by rw [knownI, if_neg h]
  rw [hz]
  clear h
  go_enter Tryz.func86, Tryz.ntmps86
  go_wp2_with fail
  refine (word_any k w hT).mono ?_
  rintro e wq ⟨rfl, rfl⟩
  go_wp2_with fail
  go_ret
  exact ⟨rfl, rfl⟩
def embedP (p : P6) (k : Int) : P6 := if k = 16 then beginP p 1 (-1) else if k = 14 then beginP p 0 (-1) else if k = 17 then beginP p 1 1 else if k = 15 then beginP p 0 0 else if k = 18 then backP p else p
set_option maxRecDepth 20000 in
set_option maxHeartbeats 2000000 in
theorem pembed_any (w : World) (B g : Nat) (p : P6) (lsl sv : Value) (k : Int) (e : Ent) (st : List Ent) (hst : p.st = e :: st) (hp : IsP w B g p lsl sv) (hs : p.Small) :
 Calls Tryz.prog 82 #[.pointer (some ⟨g, 0, none⟩), .int .i64 k] w fun ed w' => ed = .returned (.tuple #[]) ∧ Went w w' B g (embedP p k) lsl sv ∧ Below B w w' := by
 have HP := Lib.hid hp
 have BW : Hid (Below B w w) := Lib.hid (Below.refl _ _)
 clear hp
 rcases h1 : (k == 16) with _ | _
 ·rcases h2 : (k == 14) with _ | _
  ·rcases h3 : (k == 17) with _ | _
   ·rcases h4 : (k == 15) with _ | _
    ·rcases h5 : (k == 18) with _ | _
     ·have HE : Hid (embedP p k = p) := Lib.hid (by rw [embedP, if_neg (by simpa using h1), if_neg (by simpa using h2), if_neg (by simpa using h3), if_neg (by simpa using h4), if_neg (by simpa using h5)])
      go_enter Tryz.func82, Tryz.ntmps82
      go_wp2_with fail
      (try simp only [Exit.inBlock, Exit.then])
      exact bodyPost_end (results_none rfl _ _ _) rfl ⟨rfl, by rw [HE.out]; exact ⟨_, HP.out, Frame.refl _ _ _⟩, BW.out⟩
     ·have HE : Hid (embedP p k = backP p) := Lib.hid (by rw [embedP, if_neg (by simpa using h1), if_neg (by simpa using h2), if_neg (by simpa using h3), if_neg (by simpa using h4), if_pos (by simpa using h5)])
      go_enter Tryz.func82, Tryz.ntmps82
      go_wp2_with fail
      refine (endEmbed_any w B g p lsl sv e st hst HP.out hs).mono ?_
      rintro ed w1 ⟨rfl, x1, b1⟩
      have X1 := Lib.hid x1
      have B1 := Lib.hid b1
      clear x1 b1
      go_wp2_with fail
      (try simp only [Exit.inBlock, Exit.then])
      exact bodyPost_end (results_none rfl _ _ _) rfl ⟨rfl, by rw [HE.out]; exact X1.out, B1.out⟩
    ·have HE : Hid (embedP p k = beginP p 0 0) := Lib.hid (by rw [embedP, if_neg (by simpa using h1), if_neg (by simpa using h2), if_neg (by simpa using h3), if_pos (by simpa using h4)])
     go_enter Tryz.func82, Tryz.ntmps82
     go_wp2_with fail
     refine (beginEmbed_any w B g p lsl sv 0 0 e st hst HP.out hs).mono ?_
     rintro ed w1 ⟨rfl, x1, b1⟩
     have X1 := Lib.hid x1
     have B1 := Lib.hid b1
     clear x1 b1
     go_wp2_with fail
     (try simp only [Exit.inBlock, Exit.then])
     exact bodyPost_end (results_none rfl _ _ _) rfl ⟨rfl, by rw [HE.out]; exact X1.out, B1.out⟩
   ·have HE : Hid (embedP p k = beginP p 1 1) := Lib.hid (by rw [embedP, if_neg (by simpa using h1), if_neg (by simpa using h2), if_pos (by simpa using h3)])
    go_enter Tryz.func82, Tryz.ntmps82
    go_wp2_with fail
    refine (beginEmbed_any w B g p lsl sv 1 1 e st hst HP.out hs).mono ?_
    rintro ed w1 ⟨rfl, x1, b1⟩
    have X1 := Lib.hid x1
    have B1 := Lib.hid b1
    clear x1 b1
    go_wp2_with fail
    (try simp only [Exit.inBlock, Exit.then])
    exact bodyPost_end (results_none rfl _ _ _) rfl ⟨rfl, by rw [HE.out]; exact X1.out, B1.out⟩
  ·have HE : Hid (embedP p k = beginP p 0 (-1)) := Lib.hid (by rw [embedP, if_neg (by simpa using h1), if_pos (by simpa using h2)])
   go_enter Tryz.func82, Tryz.ntmps82
   go_wp2_with fail
   refine (beginEmbed_any w B g p lsl sv 0 (-1) e st hst HP.out hs).mono ?_
   rintro ed w1 ⟨rfl, x1, b1⟩
   have X1 := Lib.hid x1
   have B1 := Lib.hid b1
   clear x1 b1
   go_wp2_with fail
   (try simp only [Exit.inBlock, Exit.then])
   exact bodyPost_end (results_none rfl _ _ _) rfl ⟨rfl, by rw [HE.out]; exact X1.out, B1.out⟩
 ·have HE : Hid (embedP p k = beginP p 1 (-1)) := Lib.hid (by rw [embedP, if_pos (by simpa using h1)])
  go_enter Tryz.func82, Tryz.ntmps82
  go_wp2_with fail
  refine (beginEmbed_any w B g p lsl sv 1 (-1) e st hst HP.out hs).mono ?_
  rintro ed w1 ⟨rfl, x1, b1⟩
  have X1 := Lib.hid x1
  have B1 := Lib.hid b1
  clear x1 b1
  go_wp2_with fail
  (try simp only [Exit.inBlock, Exit.then])
  exact bodyPost_end (results_none rfl _ _ _) rfl ⟨rfl, by rw [HE.out]; exact X1.out, B1.out⟩
def isolateP (p : P6) (l : List Int) (i : Int) : P6 := if (overP p || !fitP p (isolate l i)) = true then { p with isos := p.isos + 1 } else { pushP p (isolate l i) (-1) true with valid := p.valid + 1 }
set_option maxRecDepth 20000 in
set_option maxHeartbeats 4000000 in
theorem pisolate_any (w : World) (B g : Nat) (p : P6) (A : Option Addr) (l : List Int) (cap : Nat) (sv : Value) (i : Int) (e : Ent) (st : List Ent) (hst : p.st = e :: st) (hp : IsP w B g p (.slice A l.length cap) sv) (hs : p.Small) (hc : Ctx w B A l) (hl : l.length ≤ 1000000) (hcap : l.length ≤ cap) :
 Calls Tryz.prog 83 #[.pointer (some ⟨g, 0, none⟩), .int .i64 i] w fun ed w' => ed = .returned (.tuple #[]) ∧ Went w w' B g (isolateP p l i) (.slice A l.length cap) sv ∧ Below B w w' := by
 have HP := Lib.hid hp
 have HST := Lib.hid hst
 have HC := Lib.hid hc
 have hsm : p.st.length ≤ 1000000 := by have := hs.st; omega
 have hisos := hs.isos
 have hval := hs.valid
 obtain ⟨q, hq⟩ : ∃ q, isolateP p l i = q := ⟨_, rfl⟩
 have HQ := Lib.hid hq
 rw [hq]
 obtain ⟨d, hd⟩ : ∃ d, isolate l i = d := ⟨_, rfl⟩
 have HD := Lib.hid hd
 have hw1 : IntKind.i64.wrap ((p.isos : Int) + 1) = ((p.isos + 1 : Nat) : Int) := by rw [IntWalk.i64_in _ (by omega)]; omega
 have hw2 : IntKind.i64.wrap ((p.valid : Int) + 1) = ((p.valid + 1 : Nat) : Int) := by rw [IntWalk.i64_in _ (by omega)]; omega
 have h0 := hp.field 0 (by omega)
 simp only [P6.cells, List.getElem?_cons_zero] at h0
 clear hp hst hs hq hd hc
 rcases hO : overP p with _ | _
 ·have HO := Lib.hid hO
  clear hO
  go_enter Tryz.func83, Tryz.ntmps83
  go_wp2_with fail
  refine (overflows_any w B g p _ ⟨_, HP.out⟩).mono ?_
  rintro e wq ⟨rfl, rfl⟩
  rw [HO.out]
  go_wp2_with fail
  refine (isolate_any A l cap i w HC.out.tabs (HC.out.list.wider HP.out.le) hl hcap).mono ?_
  rintro ed w1 ⟨rfl, b1⟩
  rw [HD.out]
  have X1 := Lib.hid (HP.out.below b1 (Nat.le_refl _))
  have F1 : Hid (Frame w w1 g sv sv) := Lib.hid (Frame.below b1)
  have B1 := Lib.hid (b1.mono HP.out.le)
  clear b1
  go_wp2_with fail
  refine (ppush_any w1 B g p _ sv d (-1) true e st HST.out X1.out hsm).mono ?_
  rintro ed w2 ⟨rfl, x2, b2⟩
  have X2 := Lib.hid x2
  have B2 := Lib.hid (B1.out.trans b2)
  clear x2 b2
  rcases hF : fitP p d with _ | _
  ·have HU : Hid (pushP p d (-1) true = p) := Lib.hid (by unfold fitP at hF; unfold pushP; rw [HST.out] at hF ⊢; simp only [decide_eq_false_iff_not] at hF; simp only; rw [if_neg hF])
   have X3 : Hid (Went w1 w2 B g p (.slice A l.length cap) sv) := Lib.hid (HU.out ▸ X2.out)
   obtain ⟨sv2, h, fr⟩ := X3.out
   have h3 := h.field 3 (by omega)
   simp only [P6.cells, List.getElem?_cons_succ, List.getElem?_cons_zero] at h3
   have H := Lib.hid h
   have FR := Lib.hid (F1.out.trans fr)
   have HE : Hid ({ p with isos := p.isos + 1 } = q) := Lib.hid (by rw [← HQ.out, isolateP, HO.out, HD.out, hF, if_pos (by rfl)])
   clear h hF fr h0
   go_wp2_with (first
    | (refine store_cell w2 B _ _ g 3 6 (.int .i64 ((p.isos + 1 : Nat) : Int)) _ w2 rfl rfl rfl (by kernel_rfl) rfl rfl rfl H.out.row (by simp [P6.cells]) (Below.refl _ _) ?_; intro w3 r3 b3 g3; have X4 := Lib.hid (H.out.stored (p' := { p with isos := p.isos + 1 }) r3 g3 rfl rfl); have B3 := Lib.hid (B2.out.trans b3); have G3 := Lib.hid g3; clear r3 b3 g3)
    | fail)
   (try simp only [Exit.inBlock, Exit.then])
   exact bodyPost_ret (v := .tuple #[]) (results_none rfl _ _ _) rfl ⟨rfl, by rw [← HE.out]; exact ⟨_, X4.out, FR.out.trans (Frame.store G3.out)⟩, B3.out⟩
  ·have HE : Hid ({ pushP p d (-1) true with valid := p.valid + 1 } = q) := Lib.hid (by rw [← HQ.out, isolateP, HO.out, HD.out, hF, if_neg (by simp)])
   obtain ⟨sv2, h, fr⟩ := X2.out
   have hv : (pushP p d (-1) true).valid = p.valid := by unfold pushP; split <;> (try split) <;> rfl
   have h3 := h.field 5 (by omega)
   simp only [P6.cells, List.getElem?_cons_succ, List.getElem?_cons_zero] at h3
   rw [hv] at h3
   have H := Lib.hid h
   have FR := Lib.hid (F1.out.trans fr)
   clear h hF fr h0 hv
   go_wp2_with (first
    | (refine store_cell w2 B _ _ g 5 6 (.int .i64 ((p.valid + 1 : Nat) : Int)) _ w2 rfl rfl rfl (by kernel_rfl) rfl rfl rfl H.out.row (by simp [P6.cells]) (Below.refl _ _) ?_; intro w3 r3 b3 g3; have X4 := Lib.hid (H.out.stored (p' := { pushP p d (-1) true with valid := p.valid + 1 }) r3 g3 rfl rfl); have B3 := Lib.hid (B2.out.trans b3); have G3 := Lib.hid g3; clear r3 b3 g3)
    | fail)
   (try simp only [Exit.inBlock, Exit.then])
   exact bodyPost_end (results_none rfl _ _ _) rfl ⟨rfl, by rw [← HE.out]; exact ⟨_, X4.out, FR.out.trans (Frame.store G3.out)⟩, B3.out⟩
 ·have h3 := HP.out.field 3 (by omega)
  simp only [P6.cells, List.getElem?_cons_succ, List.getElem?_cons_zero] at h3
  have HO := Lib.hid hO
  have HE : Hid ({ p with isos := p.isos + 1 } = q) := Lib.hid (by rw [← HQ.out, isolateP, HO.out, if_pos (by rfl)])
  clear hO h0
  go_enter Tryz.func83, Tryz.ntmps83
  go_wp2_with fail
  refine (overflows_any w B g p _ ⟨_, HP.out⟩).mono ?_
  rintro e wq ⟨rfl, rfl⟩
  rw [HO.out]
  go_wp2_with (first
   | (refine store_cell w B _ _ g 3 6 (.int .i64 ((p.isos + 1 : Nat) : Int)) _ w rfl rfl rfl (by kernel_rfl) rfl rfl rfl HP.out.row (by simp [P6.cells]) (Below.refl _ _) ?_; intro w3 r3 b3 g3; have X4 := Lib.hid (HP.out.stored (p' := { p with isos := p.isos + 1 }) r3 g3 rfl rfl); have B3 := Lib.hid b3; have G3 := Lib.hid g3; clear r3 b3 g3)
   | fail)
  (try simp only [Exit.inBlock, Exit.then])
  exact bodyPost_ret (v := .tuple #[]) (results_none rfl _ _ _) rfl ⟨rfl, by rw [← HE.out]; exact ⟨_, X4.out, Frame.store G3.out⟩, B3.out⟩
def endP (p : P6) : P6 := if 0 < p.isos then { p with isos := p.isos - 1 } else if 0 < p.valid then { p with embeds := 0, st := unwind p.st, valid := p.valid - 1 } else p
set_option maxRecDepth 20000 in
set_option maxHeartbeats 4000000 in
theorem endIsolate_any (w : World) (B g : Nat) (p : P6) (lsl sv : Value) (e : Ent) (st : List Ent) (hst : (endP p).st = e :: st) (h : IsP w B g p lsl sv) (hs : p.Small) :
 Calls Tryz.prog 85 #[.pointer (some ⟨g, 0, none⟩)] w fun ed w' => ed = .returned (.tuple #[]) ∧ HasP w' B g (endP p) lsl ∧ Below B w w' := by
 have h2 := h.field 3 (by omega)
 have h4 := h.field 5 (by omega)
 simp only [P6.cells, List.getElem?_cons_succ, List.getElem?_cons_zero] at h2 h4
 have H := Lib.hid h
 have BW : Hid (Below B w w) := Lib.hid (Below.refl _ _)
 have hi := hs.isos
 have hv := hs.valid
 have HS := Lib.hid hs
 have hf2 := fun e : Ent => pfield2 e.lev e.over e.iso
 have HF2 := Lib.hid hf2
 rcases h0 : decide (0 < p.isos) with _ | _
 ·have n0 : ¬ 0 < p.isos := by simp at h0; omega
  rcases h1 : decide (0 < p.valid) with _ | _
  ·have n1 : ¬ 0 < p.valid := by simp at h1; omega
   have HZ : Hid (endP p = p) := Lib.hid (by rw [endP, if_neg n0, if_neg n1])
   clear h hst hs hf2 n0 n1
   go_enter Tryz.func85, Tryz.ntmps85
   go_wp2_with fail
   (try simp only [Exit.inBlock, Exit.then])
   exact bodyPost_end (results_none rfl _ _ _) rfl ⟨rfl, by rw [HZ.out]; exact ⟨_, H.out⟩, BW.out⟩
  ·have n1 : 0 < p.valid := by simp at h1; omega
   have hyy : endP p = { p with embeds := 0, st := unwind p.st, valid := p.valid - 1 } := by rw [endP, if_neg n0, if_pos n1]
   have hun : unwind p.st = e :: st := by rw [hyy] at hst; exact hst
   have HZ : Hid (endP p = { p with embeds := 0, st := e :: st, valid := p.valid - 1 }) := Lib.hid (by rw [hyy, hun])
   have HUN := Lib.hid hun
   have hw1 : IntKind.i64.wrap ((p.valid : Int) - 1) = ((p.valid - 1 : Nat) : Int) := by rw [IntWalk.i64_in _ (by omega)]; omega
   clear h hst hs hf2 n0 hyy hun
   go_enter Tryz.func85, Tryz.ntmps85
   go_wp2_with (first
    | (refine store_cell w B _ _ g 4 6 (.int .i64 0) _ w rfl rfl rfl (by kernel_rfl) rfl rfl rfl H.out.row (by simp [P6.cells]) (Below.refl _ _) ?_; intro w1 r1 b1 g1; have X1 := Lib.hid (H.out.stored (p' := { p with embeds := 0 }) r1 g1 rfl rfl); have B1 := Lib.hid b1; clear r1 b1 g1)
    | fail)
   clear h2 h4
   go_loopg [] p.st.length (fun k wr => ∃ s sv', s.length = k ∧ s.length ≤ 100000 ∧ unwind s = e :: st ∧ IsP wr B g { p with embeds := 0, st := s } lsl sv' ∧ Below B w wr)
   case atStart => exact ⟨p.st, sv, rfl, HS.out.st, HUN.out, X1.out, B1.out⟩
   case round =>
    obtain ⟨s, sv', hsk, hsl, hsu, hx, hb⟩ := hrel
    cases s with
    | nil => simp [unwind] at hsu
    | cons e1 s1 =>
     have X2 := Lib.hid hx
     have B2 := Lib.hid hb
     have hf := HF2.out e1
     have hsl' : (e1 :: s1).length ≤ 1000000 := by omega
     rcases hio : e1.iso with _ | _
     ·have HU := Lib.hid ((unwind_skip hio).symm.trans hsu)
      have HIO := Lib.hid hio
      rw [hio] at hf
      clear hsu hx hb hio
      go_wp2_with fail
      refine (plast_any wr B g { p with embeds := 0, st := e1 :: s1 } lsl e1 s1 rfl ⟨_, X2.out⟩ hsl').mono ?_
      rintro ed w3 ⟨rfl, b3⟩
      rw [HIO.out]
      have X3 := Lib.hid (X2.out.below b3 (Nat.le_refl _))
      have B3 := Lib.hid (B2.out.trans (b3.mono X2.out.le))
      clear b3
      go_wp2_with fail
      refine (ppop_any w3 B g { p with embeds := 0, st := e1 :: s1 } lsl sv' e1 s1 rfl X3.out hsl').mono ?_
      rintro ed w4 ⟨rfl, ⟨sv4, x4, _⟩, b4⟩
      have X4 := Lib.hid x4
      have B4 := Lib.hid (B3.out.trans b4)
      clear x4 b4
      go_wp2_with fail
      go_roundg s1.length
      case measure => simp at hsk; omega
      case rel => exact ⟨s1, sv4, rfl, by simp at hsl; omega, HU.out, X4.out, B4.out⟩
     ·have HU := Lib.hid ((unwind_hit hio).symm.trans hsu)
      have HIO := Lib.hid hio
      rw [hio] at hf
      clear hsu hx hb hio
      go_wp2_with fail
      refine (plast_any wr B g { p with embeds := 0, st := e1 :: s1 } lsl e1 s1 rfl ⟨_, X2.out⟩ hsl').mono ?_
      rintro ed w3 ⟨rfl, b3⟩
      rw [HIO.out]
      have X3 := Lib.hid (X2.out.below b3 (Nat.le_refl _))
      have B3 := Lib.hid (B2.out.trans (b3.mono X2.out.le))
      clear b3
      go_wp2_with fail
      refine (ppop_any w3 B g { p with embeds := 0, st := e1 :: s1 } lsl sv' e1 s1 rfl X3.out hsl').mono ?_
      rintro ed w4 ⟨rfl, ⟨sv4, x4, _⟩, b4⟩
      have X4 := Lib.hid x4
      have B4 := Lib.hid (B3.out.trans b4)
      have h4 := x4.field 5 (by omega)
      simp only [P6.cells, List.getElem?_cons_succ, List.getElem?_cons_zero] at h4
      clear x4 b4
      go_wp2_with (first
       | (refine store_cell w4 B _ _ g 5 6 (.int .i64 ((p.valid - 1 : Nat) : Int)) _ w4 rfl rfl rfl (by kernel_rfl) rfl rfl rfl X4.out.row (by simp [P6.cells]) (Below.refl _ _) ?_; intro w5 r5 b5 g5; have X5 := Lib.hid (X4.out.stored (p' := { p with embeds := 0, st := s1, valid := p.valid - 1 }) r5 g5 rfl rfl); have B5 := Lib.hid (B4.out.trans b5); clear r5 b5 g5)
       | fail)
      (try simp only [Exit.inBlock, Exit.then])
      exact bodyPost_end (results_none rfl _ _ _) rfl ⟨rfl, by rw [HZ.out, ← HU.out]; exact ⟨_, X5.out⟩, B5.out⟩
 ·have n0 : 0 < p.isos := by simp at h0; omega
  have HZ : Hid (endP p = { p with isos := p.isos - 1 }) := Lib.hid (by rw [endP, if_pos n0])
  have hw1 : IntKind.i64.wrap ((p.isos : Int) - 1) = ((p.isos - 1 : Nat) : Int) := by rw [IntWalk.i64_in _ (by omega)]; omega
  clear h hst hs hf2
  go_enter Tryz.func85, Tryz.ntmps85
  go_wp2_with (first
   | (refine store_cell w B _ _ g 3 6 (.int .i64 ((p.isos - 1 : Nat) : Int)) _ w rfl rfl rfl (by kernel_rfl) rfl rfl rfl H.out.row (by simp [P6.cells]) (Below.refl _ _) ?_; intro w5 r5 b5 g5; have X5 := Lib.hid (H.out.stored (p' := { p with isos := p.isos - 1 }) r5 g5 rfl rfl); have B5 := Lib.hid b5; clear r5 b5 g5)
   | fail)
  (try simp only [Exit.inBlock, Exit.then])
  exact bodyPost_end (results_none rfl _ _ _) rfl ⟨rfl, by rw [HZ.out]; exact ⟨_, X5.out⟩, B5.out⟩
end Go.Proofs.YtcbaahlahohfmaaGreatDoor
