/- Layer 6: the document's end. -/
import Derived.Test.YtajgjloailliiaaExF
import Derived.Deep.LoopGhost
namespace Go.Proofs.Ytajgjloailliiaa
open Go.RowKit

/-- the stack behind an isolate's end -/
def unwind (st : List Ent) : List Ent := (st.dropWhile fun e => !e.iso).tail
theorem unwind_skip {e : Ent} {st : List Ent} (h : e.iso = false) : unwind (e :: st) = unwind st := by simp [unwind, List.dropWhile, h]
theorem unwind_hit {e : Ent} {st : List Ent} (h : e.iso = true) : unwind (e :: st) = st := by simp [unwind, List.dropWhile, h]
def endX0 (x : X6) : X6 := if 0 < x.isos then { x with isos := x.isos - 1 } else if 0 < x.valid then { x with embeds := 0, st := unwind x.st, valid := x.valid - 1 } else x
def endX (x : X6) (c : Int) : X6 := putX (endX0 x) c

set_option maxRecDepth 20000 in
set_option maxHeartbeats 4000000 in
theorem endX_any (w : World) (B g : Nat) (x : X6) (lsl : Value) (c : Int) (e : Ent) (st : List Ent) (hst : (endX0 x).st = e :: st) (hx : HasX w B g x lsl) (hs : x.Small) :
    Calls Try.prog 40 #[.pointer (some ⟨g, 0, none⟩), .int .i64 c] w fun ed w' => ed = .returned (.tuple #[]) ∧ HasX w' B g (endX x c) lsl ∧ Below B w w' := by
  obtain ⟨sv, lv, cv, h⟩ := hx
  have h2 := h.field 2 (by omega)
  have h4 := h.field 4 (by omega)
  simp only [X6.cells, List.getElem?_cons_succ, List.getElem?_cons_zero] at h2 h4
  have H := Lib.hid h
  have hi := hs.isos
  have hv := hs.valid
  have HS := Lib.hid hs
  obtain ⟨y, hy⟩ : ∃ y, endX0 x = y := ⟨_, rfl⟩
  have HEY : Hid (endX x c = putX y c) := Lib.hid (by rw [endX, hy])
  have HYS : y.Small := by
    rw [← hy]
    have := hs.st; have := hs.lev; have := hs.cls; have := hs.isos; have := hs.embeds; have := hs.valid
    unfold endX0
    split
    · exact ⟨hs.st, hs.lev, hs.cls, by show x.isos - 1 ≤ _; omega, hs.embeds, hs.valid⟩
    · split
      · refine ⟨?_, hs.lev, hs.cls, hs.isos, Nat.zero_le _, by show x.valid - 1 ≤ _; omega⟩
        have h1 : (unwind x.st).length ≤ x.st.length := by
          unfold unwind
          rw [List.length_tail]
          have := (List.dropWhile_sublist (l := x.st) (p := fun e => !e.iso)).length_le
          omega
        show (unwind x.st).length ≤ _
        omega
      · exact hs
  have HYSt := Lib.hid HYS
  rw [hy] at hst
  have HST := Lib.hid hst
  have hf2 := fun e : Ent => field2 e.lev e.over e.iso
  have HF2 := Lib.hid hf2
  rcases h0 : decide (0 < x.isos) with _ | _
  · have n0 : ¬ 0 < x.isos := by simp at h0; omega
    rcases h1 : decide (0 < x.valid) with _ | _
    · have n1 : ¬ 0 < x.valid := by simp at h1; omega
      obtain rfl : x = y := by rw [← hy, endX0, if_neg n0, if_neg n1]
      clear h hst hs hy HYS hf2 n0 n1
      go_enter Try.func40, Try.ntmps40
      go_wp2_with fail
      refine (put_any w B g x lsl c e st HST.out ⟨_, _, _, H.out⟩ HS.out).mono ?_
      rintro ed w9 ⟨rfl, x9, b9⟩
      have X9 := Lib.hid x9
      have B9 := Lib.hid b9
      clear x9 b9
      go_wp2_with fail
      (try simp only [Exit.inBlock, Exit.then])
      exact bodyPost_end (results_none rfl _ _ _) rfl ⟨rfl, by rw [HEY.out]; exact X9.out, B9.out⟩
    · have n1 : 0 < x.valid := by simp at h1; omega
      have hyy : y = { x with embeds := 0, st := unwind x.st, valid := x.valid - 1 } := by rw [← hy, endX0, if_neg n0, if_pos n1]
      have HYY := Lib.hid hyy
      have hun : unwind x.st = e :: st := by rw [hyy] at hst; exact hst
      have HUN := Lib.hid hun
      have hw1 : IntKind.i64.wrap ((x.valid : Int) - 1) = ((x.valid - 1 : Nat) : Int) := by rw [IntWalk.i64_in _ (by omega)]; omega
      clear h hst hs hy HYS hf2 n0 hyy hun
      go_enter Try.func40, Try.ntmps40
      go_wp2_with (first
        | (refine store_cell w B _ _ g 3 9 (.int .i64 0) _ w rfl rfl rfl (by kernel_rfl) rfl rfl rfl H.out.row (by simp [X6.cells]) (Below.refl _ _) ?_; intro w1 r1 b1 g1; have X1 := Lib.hid (H.out.stored (x' := { x with embeds := 0 }) r1 g1 rfl rfl rfl rfl); have B1 := Lib.hid b1; clear r1 b1 g1)
        | fail)
      clear h2 h4
      go_loopg [] x.st.length (fun k wr => ∃ s sv', s.length = k ∧ s.length ≤ 100000 ∧ unwind s = e :: st ∧ IsX wr B g { x with embeds := 0, st := s } lsl sv' lv cv ∧ Below B w wr)
      case atStart => exact ⟨x.st, sv, rfl, HS.out.st, HUN.out, X1.out, B1.out⟩
      case round =>
        obtain ⟨s, sv', hsk, hsl, hsu, hx, hb⟩ := hrel
        cases s with
        | nil => simp [unwind] at hsu
        | cons e1 s1 =>
          have X2 := Lib.hid hx
          have B2 := Lib.hid hb
          have hf := HF2.out e1
          have hsl' : (e1 :: s1).length ≤ 1000000 := by omega
          rcases hio : e1.iso with _ | _
          · have HU := Lib.hid ((unwind_skip hio).symm.trans hsu)
            have HIO := Lib.hid hio
            rw [hio] at hf
            clear hsu hx hb hio
            go_wp2_with fail
            refine (top_any wr B g { x with embeds := 0, st := e1 :: s1 } lsl sv' lv cv e1 s1 rfl X2.out hsl').mono ?_
            rintro ed w3 ⟨rfl, b3⟩
            rw [HIO.out]
            have X3 := Lib.hid (X2.out.below b3 (Nat.le_refl _))
            have B3 := Lib.hid (B2.out.trans (b3.mono X2.out.le))
            clear b3
            go_wp2_with fail
            refine (pop_any w3 B g { x with embeds := 0, st := e1 :: s1 } lsl sv' lv cv e1 s1 rfl X3.out hsl').mono ?_
            rintro ed w4 ⟨rfl, ⟨sv4, x4⟩, b4⟩
            have X4 := Lib.hid x4
            have B4 := Lib.hid (B3.out.trans b4)
            clear x4 b4
            go_wp2_with fail
            go_roundg s1.length
            case measure => simp at hsk; omega
            case rel => exact ⟨s1, sv4, rfl, by simp at hsl; omega, HU.out, X4.out, B4.out⟩
          · have HU := Lib.hid ((unwind_hit hio).symm.trans hsu)
            have HIO := Lib.hid hio
            rw [hio] at hf
            clear hsu hx hb hio
            go_wp2_with fail
            refine (top_any wr B g { x with embeds := 0, st := e1 :: s1 } lsl sv' lv cv e1 s1 rfl X2.out hsl').mono ?_
            rintro ed w3 ⟨rfl, b3⟩
            rw [HIO.out]
            have X3 := Lib.hid (X2.out.below b3 (Nat.le_refl _))
            have B3 := Lib.hid (B2.out.trans (b3.mono X2.out.le))
            clear b3
            go_wp2_with fail
            refine (pop_any w3 B g { x with embeds := 0, st := e1 :: s1 } lsl sv' lv cv e1 s1 rfl X3.out hsl').mono ?_
            rintro ed w4 ⟨rfl, ⟨sv4, x4⟩, b4⟩
            have X4 := Lib.hid x4
            have B4 := Lib.hid (B3.out.trans b4)
            have h4 := x4.field 4 (by omega)
            simp only [X6.cells, List.getElem?_cons_succ, List.getElem?_cons_zero] at h4
            clear x4 b4
            have HYE : Hid (y = { x with embeds := 0, st := s1, valid := x.valid - 1 }) := Lib.hid (by rw [HYY.out, HUN.out, HU.out])
            go_wp2_with (first
              | (refine store_cell w4 B _ _ g 4 9 (.int .i64 ((x.valid - 1 : Nat) : Int)) _ w4 rfl rfl rfl (by kernel_rfl) rfl rfl rfl X4.out.row (by simp [X6.cells]) (Below.refl _ _) ?_; intro w5 r5 b5 g5; have X5 := Lib.hid (X4.out.stored (x' := { x with embeds := 0, st := s1, valid := x.valid - 1 }) r5 g5 rfl rfl rfl rfl); have B5 := Lib.hid (B4.out.trans b5); clear r5 b5 g5)
              | fail)
            refine (put_any w5 B g y lsl c e st HST.out (by rw [HYE.out]; exact ⟨_, _, _, X5.out⟩) HYSt.out).mono ?_
            rintro ed w9 ⟨rfl, x9, b9⟩
            have X9 := Lib.hid x9
            have B9 := Lib.hid (B5.out.trans b9)
            clear x9 b9
            go_wp2_with fail
            (try simp only [Exit.inBlock, Exit.then])
            exact bodyPost_end (results_none rfl _ _ _) rfl ⟨rfl, by rw [HEY.out]; exact X9.out, B9.out⟩
  · have n0 : 0 < x.isos := by simp at h0; omega
    have hyy : y = { x with isos := x.isos - 1 } := by rw [← hy, endX0, if_pos n0]
    have HYY := Lib.hid hyy
    have hw1 : IntKind.i64.wrap ((x.isos : Int) - 1) = ((x.isos - 1 : Nat) : Int) := by rw [IntWalk.i64_in _ (by omega)]; omega
    clear h hst hs hy HYS hf2 hyy
    go_enter Try.func40, Try.ntmps40
    go_wp2_with (first
      | (refine store_cell w B _ _ g 2 9 (.int .i64 ((x.isos - 1 : Nat) : Int)) _ w rfl rfl rfl (by kernel_rfl) rfl rfl rfl H.out.row (by simp [X6.cells]) (Below.refl _ _) ?_; intro w5 r5 b5 g5; have X5 := Lib.hid (H.out.stored (x' := { x with isos := x.isos - 1 }) r5 g5 rfl rfl rfl rfl); have B5 := Lib.hid b5; clear r5 b5 g5)
      | fail)
    refine (put_any w5 B g y lsl c e st HST.out (by rw [HYY.out]; exact ⟨_, _, _, X5.out⟩) HYSt.out).mono ?_
    rintro ed w9 ⟨rfl, x9, b9⟩
    have X9 := Lib.hid x9
    have B9 := Lib.hid (B5.out.trans b9)
    clear x9 b9
    go_wp2_with fail
    (try simp only [Exit.inBlock, Exit.then])
    exact bodyPost_end (results_none rfl _ _ _) rfl ⟨rfl, by rw [HEY.out]; exact X9.out, B9.out⟩
end Go.Proofs.Ytajgjloailliiaa
