/- LineEnds: for every text, direction and width, separators and what is white at a line's end have the base's level, all else its own. Conditions: none. -/
import Derived.BigQuiet
import Derived.Test.YtadfleopbpomfaaRows
import Derived.Test.YtadfleopbpomfaaZA3
import Derived.Test.YtadfleopbpomfaaZA6
import Derived.Test.YtadfleopbpomfaaZA7
import Derived.Test.YtadfleopbpomfaaZA20
import Derived.Test.YtadfleopbpomfaaZA25
import Derived.Test.YtadfleopbpomfaaZA26
namespace Go.Proofs.Ytadfleopbpomfaa.lawEnds
open Go.ChangeShapes Go.WideShapes Go.ChangeAt Go.RowKit
def whiteB (k : Int) : Bool := k == 12 || (k == 11 || (k == 10 || (isOpens k || (k == 22 || isOut k))))
theorem white_light (k : Int) : whiteB k = (sepK k || lightK k) := by
 unfold whiteB sepK lightK
 cases k == 12 <;> cases k == 11 <;> cases k == 10 <;> cases isOpens k <;> cases k == 22 <;> cases isOut k <;> rfl
theorem ends_at {chars levels : List Int} (base : Int) {f t i : Nat} (ht : t ≤ chars.length) (hi : i < t - f) :
 let x := (lineL chars levels base f t).getD i 0
 let k := cls (chars.getD (f + i) 0)
 (sepK k = true → x = base) ∧ (whiteB k = true → i + 1 = t - f → x = base) ∧ (whiteB k = false → x = levels.getD (f + i) 0) ∧ (x = base ∨ x = levels.getD (f + i) 0) := by
 intro x k
 have e1 : x = if baseAt chars t (f + i) then base else levels.getD (f + i) 0 := lineL_at chars levels base hi
 have e2 : baseAt chars t (f + i) = (sepK k || (baseAt chars t (f + i + 1) && lightK k)) := base_step ht (by omega)
 refine ⟨fun h => ?_, fun h hl => ?_, fun h => ?_, ?_⟩
 ·rw [e1, e2, h, Bool.true_or, if_pos rfl]
 ·rw [show f + i + 1 = t by omega, base_end chars ht, Bool.true_and, ← white_light, h] at e2
  rw [e1, e2, if_pos rfl]
 ·rw [white_light, Bool.or_eq_false_iff] at h
  rw [h.1, h.2, Bool.and_false, Bool.or_false] at e2
  rw [e1, e2, if_neg (by simp)]
 ·rw [e1]
  cases baseAt chars t (f + i) <;> simp
theorem bin_eq (w : World) (a b : Int) : (∀ X Y, (eqGuard .eql 3 X Y (.int .i64 a) (.int .i64 b)).run Try.prog w = .ok () w) ∧ (binOp .eql 3 (.int .i64 a) (.int .i64 b)).run Try.prog w = .ok (.bool (a == b)) w :=
 Tests.plainBin_ok (env := []) (op := .eql) (x := .lit a) (y := .lit b) rfl _
theorem bin_ne (w : World) (a b : Int) : (∀ X Y, (eqGuard .neq 3 X Y (.int .i64 a) (.int .i64 b)).run Try.prog w = .ok () w) ∧ (binOp .neq 3 (.int .i64 a) (.int .i64 b)).run Try.prog w = .ok (.bool (a != b)) w :=
 Tests.plainBin_ok (env := []) (op := .neq) (x := .lit a) (y := .lit b) rfl _
theorem bin_add (w : World) (a b r : Int) (h : IntKind.i64.wrap (a + b) = r) : (∀ X Y, (eqGuard .add 3 X Y (.int .i64 a) (.int .i64 b)).run Try.prog w = .ok () w) ∧ (binOp .add 3 (.int .i64 a) (.int .i64 b)).run Try.prog w = .ok (.int .i64 r) w :=
 h ▸ Tests.plainBin_ok (env := []) (op := .add) (x := .lit a) (y := .lit b) rfl _
theorem bin_sub (w : World) (a b r : Int) (h : IntKind.i64.wrap (a - b) = r) : (∀ X Y, (eqGuard .sub 3 X Y (.int .i64 a) (.int .i64 b)).run Try.prog w = .ok () w) ∧ (binOp .sub 3 (.int .i64 a) (.int .i64 b)).run Try.prog w = .ok (.int .i64 r) w :=
 h ▸ Tests.plainBin_ok (env := []) (op := .sub) (x := .lit a) (y := .lit b) rfl _
theorem cell_heap {w w' : World} (h : w'.heap = w.heap) (a : Addr) : w'.cell? a = w.cell? a := World.cell?_of_block (by rw [h])
set_option maxRecDepth 20000 in
set_option maxHeartbeats 16000000 in
theorem walk_ok (w : World) (A : Option Addr) (chars : List Int) (c : Nat) (hl : chars.length ≤ 150) (hc : chars.length ≤ c) (h : Lies w w.heap.size A (ints .i64 chars)) (dir : Int) (wd : Int) (hw0 : 0 ≤ wd) (hw1 : wd < 256) :
 Calls Try.prog 6 #[.slice A chars.length c, .int .i64 dir, .int .u8 wd] w fun e w' => e = .returned (.bool true) ∧ Below w.heap.size w w' := by
 have H := Lib.hid h
 clear h
 obtain ⟨V, hV⟩ : ∃ V : Nat, 1 + wd = (V : Int) := ⟨(1 + wd).toNat, by omega⟩
 have hV1 : 1 ≤ V := by omega
 have hV2 : V ≤ 256 := by omega
 obtain ⟨L, hL⟩ : ∃ L, levI chars dir = L := ⟨_, rfl⟩
 obtain ⟨B, hB⟩ : ∃ B, baseI chars dir = B := ⟨_, rfl⟩
 obtain ⟨l, hll⟩ : ∃ l, wrapI (chars.length : Int) (V : Int) = l := ⟨_, rfl⟩
 have HLL : Hid (L.length = chars.length) := Lib.hid (by rw [← hL]; exact levI_length chars dir)
 have HRI : Hid (rightI l (chars.length : Int) = true) := Lib.hid (by rw [← hll]; exact wrap_right0 _ _ (by omega) hV1)
 have HLE : Hid (l.length ≤ 150) := Lib.hid (by rw [← hll]; exact Nat.le_trans (wrap_le _ _) hl)
 have HL := Lib.hid hL
 have HB := Lib.hid hB
 have HWL := Lib.hid hll
 clear hL hB hll
 go_enter Try.func6, Try.ntmps6
 go_wp2_with fail
 refine (lnalive_any w).mono ?_
 rintro e w1 ⟨rfl, b1⟩
 have B1 := Lib.hid b1
 have H1 := Lib.hid (H.out.up b1)
 clear b1
 go_wp2_with fail
 refine (rof12_any A chars c dir w1 H1.out (by omega)).mono ?_
 rintro e w2 ⟨v2, rfl, o2, b2⟩
 rw [HL.out] at o2
 rw [HB.out]
 obtain ⟨A2, c2, rfl, l2, hc2, -⟩ := o2.form
 rw [ints, List.length_map, HLL.out] at hc2 ⊢
 have B2 := Lib.hid (below_then B1.out b2)
 have H2 := Lib.hid (H1.out.up b2)
 have L2 := Lib.hid l2
 clear o2 b2 l2
 go_wp2_with fail
 refine (nwrap13_any (chars.length : Int) (V : Int) w2).mono ?_
 rintro e w3 ⟨v3, rfl, o3, b3⟩
 rw [HWL.out] at o3
 obtain ⟨A3, c3, rfl, l3, -, -⟩ := o3.form
 rw [ints, List.length_map]
 have B3 := Lib.hid (below_then B2.out b3)
 have H3 := Lib.hid (H2.out.up b3)
 have L2b := Lib.hid (L2.out.up b3)
 have HLN := nlines13_any A3 l c3 (chars.length : Int) w3 l3 (by have := HLE.out; omega)
 rw [linesE, linesR, HRI.out, if_pos rfl, if_pos rfl] at HLN
 have HLN' := Lib.hid HLN
 obtain ⟨Q, hQ⟩ : ∃ Q, l.length = Q := ⟨_, rfl⟩
 have HQL := Lib.hid hQ
 rw [hQ] at HLN'
 rw [hQ]
 have hQ4 : Q ≤ 150 := by rw [← hQ]; exact HLE.out
 clear o3 b3 l3 HLN hQ
 go_wp2_with fail
 refine HLN'.out.mono ?_
 rintro e w4 ⟨v4, rfl, o4, b4⟩
 obtain ⟨A4, c4, rfl, l4, -, -⟩ := o4.form
 rw [linesI_length, HQL.out]
 have B4 := Lib.hid (below_then B3.out b4)
 have H4 := Lib.hid (H3.out.up b4)
 have L2c := Lib.hid (L2b.out.up b4)
 have L4 := Lib.hid l4
 clear o4 b4 l4 hw0 hw1 hV hV1 hV2
 go_wp2_with fail
 go_loopw [11] (fun kv wr => ∃ k : Nat, k ≤ Q ∧ kv = .int .i64 k ∧ Hid (Below w4.heap.size w4 wr)) (fun kv _ => Q - (intOf kv).toNat)
 case atStart => exact ⟨0, by omega, rfl, Lib.hid (Below.refl _ _)⟩
 case round =>
  obtain ⟨k, hk, rfl, HBr⟩ := hrel
  by_cases hlt : k < Q
  ·obtain ⟨f, t, ha, hx, hft, htn⟩ := right_span HRI.out (k := k) (by rw [HQL.out]; exact hlt)
   have hkl : k < (linesI l).length := by rw [linesI_length, HQL.out]; exact hlt
   obtain ⟨g, off, hA, hg, p0, p1⟩ := prC_at (j := k) (Lies.up L4.out HBr.out) hkl
   subst hA
   have e0 : (linesI l)[k] = ((f : Int), (t : Int)) := by
    simp only [linesI, List.getElem_map, List.getElem_range]
    rw [ha, hx]
   rw [e0] at p0 p1
   have htn' : t ≤ chars.length := by omega
   have k0 : (0 : Int) ≤ (k : Int) := by omega
   have k1 : (k : Int) < (Q : Int) := by omega
   have HK := Lib.hid hlt
   have HG := Lib.hid hg
   have HFT := Lib.hid (And.intro hft htn')
   have H5 := Lib.hid (H4.out.up HBr.out)
   have L5 := Lib.hid (L2c.out.up HBr.out)
   have P0 := Lib.hid p0
   have P1 := Lib.hid p1
   clear ha hx e0 hkl hg htn
   go_wp2_with fail
   obtain ⟨N, hN⟩ : ∃ N, t - f = N := ⟨_, rfl⟩
   have hNi : (t : Int) - (f : Int) = (N : Int) := by omega
   have hN4 : N ≤ 150 := by omega
   obtain ⟨X, hX⟩ : ∃ X, lineL chars L B f t = X := ⟨_, rfl⟩
   have HXL : Hid (X.length = N) := Lib.hid (by rw [← hX, lineL_length, hN])
   have HLV := nlevels13_any A chars c A2 L c2 B f t wr H5.out L5.out (by omega) hc (by rw [HLL.out]; exact hc2)
   rw [HLL.out, levelsL, if_pos ⟨HLL.out.symm, by omega, by omega, by omega⟩, Int.toNat_natCast, Int.toNat_natCast, hX] at HLV
   have HEA : Hid (∀ i, i < N → (sepK (cls (chars.getD (f + i) 0)) = true → X.getD i 0 = B) ∧ (whiteB (cls (chars.getD (f + i) 0)) = true → i + 1 = N → X.getD i 0 = B) ∧ (whiteB (cls (chars.getD (f + i) 0)) = false → X.getD i 0 = L.getD (f + i) 0) ∧ (X.getD i 0 = B ∨ X.getD i 0 = L.getD (f + i) 0)) := Lib.hid fun i hi => by
    rw [← hX, ← hN]
    exact ends_at B htn' (by rw [hN]; exact hi)
   have HN := Lib.hid hN
   refine HLV.mono ?_
   rintro e w5 ⟨v5, rfl, o5, b5⟩
   obtain ⟨A5, c5, rfl, l5, -, -⟩ := o5.form
   rw [ints, List.length_map, HXL.out]
   have p0' := (b5.cell (p := ⟨g, off + k * 2, none⟩) HG.out).trans P0.out
   have p1' := (b5.cell (p := ⟨g, off + k * 2 + 1, none⟩) HG.out).trans P1.out
   have D5 := Lib.hid b5
   have X5 := Lib.hid l5
   have H6 := Lib.hid (H5.out.up b5)
   have L6 := Lib.hid (L5.out.up b5)
   clear o5 b5 l5 HLV hX hN p0 p1
   go_wp2_with fail
   go_quiet (fail)
   obtain ⟨w6, hw6⟩ : ∃ u, w5.drewN nq = u := ⟨_, rfl⟩
   rw [hw6]
   have D6 : Hid (Below wr.heap.size wr w6) := Lib.hid (hw6 ▸ below_drawn D5.out nq)
   have X6 : Hid (Lies w6 w6.heap.size A5 (ints .i64 X)) := Lib.hid (hw6 ▸ X5.out.drawn nq)
   have H7 : Hid (Lies w6 w6.heap.size A (ints .i64 chars)) := Lib.hid (hw6 ▸ H6.out.drawn nq)
   have L7 : Hid (Lies w6 w6.heap.size A2 (ints .i64 L)) := Lib.hid (hw6 ▸ L6.out.drawn nq)
   have p0 : w6.cell? ⟨g, off + k * 2, none⟩ = some (.int .i64 (f : Int)) := hw6 ▸ p0'
   clear p0' p1' hw6
   go_wp2_with fail
   clear hNi
   have HDR := Lib.hid (HBr.out.trans (D6.out.mono HBr.out.size))
   go_loopw [13] (fun iv wq => ∃ i : Nat, i ≤ N ∧ iv = .int .i64 i ∧ Hid (wq.heap = w6.heap ∧ Below w4.heap.size w4 wq)) (fun iv _ => N - (intOf iv).toNat)
   case atStart => exact ⟨0, by omega, rfl, Lib.hid ⟨rfl, HDR.out⟩⟩
   case round =>
    obtain ⟨i, hi, rfl, HS⟩ := hrel
    have X6 : Hid (Lies wr wr.heap.size A5 (ints .i64 X)) := Lib.hid (by rw [HS.out.1]; exact X6.out.sameHeap HS.out.1)
    have H7 : Hid (Lies wr wr.heap.size A (ints .i64 chars)) := Lib.hid (by rw [HS.out.1]; exact H7.out.sameHeap HS.out.1)
    have L7 : Hid (Lies wr wr.heap.size A2 (ints .i64 L)) := Lib.hid (by rw [HS.out.1]; exact L7.out.sameHeap HS.out.1)
    have p0 : wr.cell? ⟨g, off + k * 2, none⟩ = some (.int .i64 (f : Int)) := (cell_heap HS.out.1 _).trans p0
    by_cases hlti : i < N
    ·obtain ⟨m, hm⟩ : ∃ m, f + i = m := ⟨_, rfl⟩
     have hmc : m < chars.length := by have := HN.out; omega
     obtain ⟨h1, h2, h3, h4⟩ := HEA.out i hlti
     rw [hm] at h1 h2 h3 h4
     obtain ⟨pc, rfl, _, hcc⟩ := H7.out.int hmc
     obtain ⟨px, rfl, _, hcx⟩ := X6.out.int (i := i) (by rw [HXL.out]; exact hlti)
     obtain ⟨pl, rfl, _, hcl⟩ := L7.out.int (i := m) (by rw [HLL.out]; exact hmc)
     rw [getD_at hmc] at h1 h2 h3
     rw [getD_at (l := X) (by rw [HXL.out]; exact hlti)] at h1 h2 h3 h4
     rw [getD_at (l := L) (by rw [HLL.out]; exact hmc)] at h3 h4
     obtain ⟨z, hz⟩ : ∃ z, chars[m] = z := ⟨_, rfl⟩
     obtain ⟨xv, hxv⟩ : ∃ z, X[i]'(by rw [HXL.out]; exact hlti) = z := ⟨_, rfl⟩
     obtain ⟨lv, hlv⟩ : ∃ z, L[m]'(by rw [HLL.out]; exact hmc) = z := ⟨_, rfl⟩
     rw [hz] at h1 h2 h3 hcc
     rw [hxv] at h1 h2 h3 h4 hcx
     rw [hlv] at h3 h4 hcl
     obtain ⟨ck, hck⟩ : ∃ ck, cls z = ck := ⟨_, rfl⟩
     rw [hck] at h1 h2 h3
     have E1 := Lib.hid h1
     have E2 := Lib.hid h2
     have E3 := Lib.hid h3
     have E4 := Lib.hid h4
     have hfi : (f : Int) + (i : Int) = (m : Int) := by omega
     have i0 : (0 : Int) ≤ (i : Int) := by omega
     have i1 : (i : Int) < (N : Int) := by omega
     have m0 : (0 : Int) ≤ (m : Int) := by omega
     have m1 : (m : Int) < (chars.length : Int) := by omega
     have HI := Lib.hid hlti
     have HCK := Lib.hid hck
     clear h1 h2 h3 h4 hz hxv hlv hck hm
     go_wp2_with fail
     refine (rof_any z _).mono ?_
     rintro e w7 ⟨rfl, rfl⟩
     rw [HCK.out]
     obtain ⟨W, hW⟩ : ∃ W, whiteB ck = W := ⟨_, rfl⟩
     have HWW := Lib.hid hW
     clear hW
     go_upto_region 19 with fail
     go_cut [15] (fun v wx => v = .bool W ∧ wx = wr)
     case first =>
      rcases c12 : (ck == 12) with _ | _
      ·rcases c11 : (ck == 11) with _ | _
       ·rcases c10 : (ck == 10) with _ | _
        ·rcases co : (isOpens ck) with _ | _
         ·rcases c22 : (ck == 22) with _ | _
          ·rcases cu : (isOut ck) with _ | _
           ·have HW : Hid (false = W) := Lib.hid (by rw [← HWW.out, whiteB, c12, c11, c10, co, c22, cu]; rfl)
            have HOC := Lib.hid (ropens_any ck wr)
            have HUC := Lib.hid (rout_any ck wr)
            rw [co] at HOC; rw [cu] at HUC
            go_wp2_with fail
            refine HOC.out.mono ?_
            rintro e w7 ⟨rfl, rfl⟩
            go_wp2_with fail
            refine HUC.out.mono ?_
            rintro e w7 ⟨rfl, rfl⟩
            go_wp2_with fail
            go_meet
            exact ⟨by rw [HW.out], rfl⟩
           ·have HW : Hid (true = W) := Lib.hid (by rw [← HWW.out, whiteB, c12, c11, c10, co, c22, cu]; rfl)
            have HOC := Lib.hid (ropens_any ck wr)
            have HUC := Lib.hid (rout_any ck wr)
            rw [co] at HOC; rw [cu] at HUC
            go_wp2_with fail
            refine HOC.out.mono ?_
            rintro e w7 ⟨rfl, rfl⟩
            go_wp2_with fail
            refine HUC.out.mono ?_
            rintro e w7 ⟨rfl, rfl⟩
            go_wp2_with fail
            go_meet
            exact ⟨by rw [HW.out], rfl⟩
          ·have HW : Hid (true = W) := Lib.hid (by rw [← HWW.out, whiteB, c12, c11, c10, co, c22]; rfl)
           have HOC := Lib.hid (ropens_any ck wr)
           have HUC := Lib.hid (rout_any ck wr)
           rw [co] at HOC
           go_wp2_with fail
           refine HOC.out.mono ?_
           rintro e w7 ⟨rfl, rfl⟩
           go_wp2_with fail
           go_meet
           exact ⟨by rw [HW.out], rfl⟩
         ·have HW : Hid (true = W) := Lib.hid (by rw [← HWW.out, whiteB, c12, c11, c10, co]; rfl)
          have HOC := Lib.hid (ropens_any ck wr)
          have HUC := Lib.hid (rout_any ck wr)
          rw [co] at HOC
          go_wp2_with fail
          refine HOC.out.mono ?_
          rintro e w7 ⟨rfl, rfl⟩
          go_wp2_with fail
          go_meet
          exact ⟨by rw [HW.out], rfl⟩
        ·have HW : Hid (true = W) := Lib.hid (by rw [← HWW.out, whiteB, c12, c11, c10]; rfl)
         have HOC := Lib.hid (ropens_any ck wr)
         have HUC := Lib.hid (rout_any ck wr)
         skip
         go_wp2_with fail
         go_meet
         exact ⟨by rw [HW.out], rfl⟩
       ·have HW : Hid (true = W) := Lib.hid (by rw [← HWW.out, whiteB, c12, c11]; rfl)
        have HOC := Lib.hid (ropens_any ck wr)
        have HUC := Lib.hid (rout_any ck wr)
        skip
        go_wp2_with fail
        go_meet
        exact ⟨by rw [HW.out], rfl⟩
      ·have HW : Hid (true = W) := Lib.hid (by rw [← HWW.out, whiteB, c12]; rfl)
       have HOC := Lib.hid (ropens_any ck wr)
       have HUC := Lib.hid (rout_any ck wr)
       skip
       go_wp2_with fail
       go_meet
       exact ⟨by rw [HW.out], rfl⟩
     case rest =>
      obtain ⟨rfl, rfl⟩ := hcut
      go_upto_region 20 with fail
      obtain ⟨n1, hn1⟩ : ∃ n1 : Int, (N : Int) - 1 = n1 := ⟨_, rfl⟩
      have HN1 := Lib.hid hn1
      go_cut [177] (fun v wx => v = .bool false ∧ Hid (wx.heap = w6.heap ∧ Below w4.heap.size w4 wx))
      case first =>
       rename World => wy
       have fx : ∀ nq, (Instr.indexAt 22 (.slice (some px) N c5) (.int .i64 (i : Int))).run Try.prog (wy.drewN nq) = .ok (.pointer (some (px.add i))) (wy.drewN nq) := fun nq => by go_simp
       have fl : ∀ nq, (Instr.indexAt 24 (.slice (some ⟨g, off, none⟩) Q c4) (.int .i64 (k : Int))).run Try.prog (wy.drewN nq) = .ok (.pointer (some ⟨g, off + k * 2, none⟩)) (wy.drewN nq) := fun nq => by go_simp
       have fo : ∀ nq, (Instr.indexAt 22 (.slice (some pl) chars.length c2) (.int .i64 (m : Int))).run Try.prog (wy.drewN nq) = .ok (.pointer (some (pl.add m))) (wy.drewN nq) := fun nq => by go_simp
       have gx : ∀ nq, (Instr.loadAt 3 (.pointer (some (px.add i)))).run Try.prog (wy.drewN nq) = .ok (.int .i64 xv) (wy.drewN nq) := fun nq => by go_simp
       have gl : ∀ nq, (Instr.loadAt 3 (.pointer (some ⟨g, off + k * 2, none⟩))).run Try.prog (wy.drewN nq) = .ok (.int .i64 (f : Int)) (wy.drewN nq) := fun nq => by go_simp
       have go : ∀ nq, (Instr.loadAt 3 (.pointer (some (pl.add m)))).run Try.prog (wy.drewN nq) = .ok (.int .i64 lv) (wy.drewN nq) := fun nq => by go_simp
       have ff : ∀ nq, (Instr.fieldAt 29 (.pointer (some ⟨g, off + k * 2, none⟩)) 0).run Try.prog (wy.drewN nq) = .ok (.pointer (some ⟨g, off + k * 2, none⟩)) (wy.drewN nq) := fun nq => by go_simp
       have fn : ∀ nq, ∀ ty, (Builtin.len_ #[22] ty #[.slice (some px) N c5]).run Try.prog (wy.drewN nq) = .ok (.int .i64 (N : Int)) (wy.drewN nq) := fun nq ty => by go_simp
       have b11 := fun nq => bin_eq (wy.drewN nq) ck 11
       have b10 := fun nq => bin_eq (wy.drewN nq) ck 10
       have bs := fun nq => bin_sub (wy.drewN nq) (N : Int) 1 n1 (by rw [HN1.out]; exact IntWalk.i64_in _ (by omega))
       have bl := fun nq => bin_eq (wy.drewN nq) (i : Int) n1
       have bx := fun nq => bin_ne (wy.drewN nq) xv B
       have ba := fun nq => bin_add (wy.drewN nq) (f : Int) (i : Int) (m : Int) (by rw [hfi]; exact IntWalk.i64_in _ (by omega))
       have bo := fun nq => bin_ne (wy.drewN nq) xv lv
       rcases c11 : (ck == 11) with _ | _
       ·rcases c10 : (ck == 10) with _ | _
        ·simp only [c11] at b11
         simp only [c10] at b10
         cases W
         ·have hxo : (xv != lv) = false := by simpa using E3.out HWW.out
          simp only [hxo] at bo
          rcases cx : (xv != B) with _ | _
          ·simp only [cx] at bx
           -- WAY 6
           refine wp_region_quiet_lit (by kernel_rfl) (by kernel_rfl) (Tests.runQ_ok (env := [.slice (some px) N c5, .slice (some pl) chars.length c2, .slice (some ⟨g, off, none⟩) Q c4, .int .i64 (i : Int), .int .i64 (k : Int), .int .i64 ck, .int .i64 B, .pointer (some (px.add i)), .pointer (some ⟨g, off + k * 2, none⟩), .int .i64 (f : Int), .int .i64 (m : Int), .pointer (some (pl.add m)), .int .i64 (N : Int), .int .i64 n1, .int .i64 xv, .int .i64 lv]) (fs := [.idx 22 (.atom 0) (.atom 3) (.atom 7), .idx 24 (.atom 2) (.atom 4) (.atom 8), .idx 22 (.atom 1) (.atom 10) (.atom 11), .load 3 (.atom 7) (.atom 14), .load 3 (.atom 8) (.atom 9), .load 3 (.atom 11) (.atom 15), .fld 29 (.atom 8) 0 (.atom 8), .bin .eql 3 (.atom 5) (.lit 11) (.boo false), .bin .eql 3 (.atom 5) (.lit 10) (.boo false), .bin .neq 3 (.atom 14) (.atom 6) (.boo false), .bin .add 3 (.atom 9) (.atom 3) (.atom 10), .bin .neq 3 (.atom 14) (.atom 15) (.boo false)]) (s := 108) (st := [(14, .atom 5), (15, .boo false), (13, .atom 3), (12, .atom 0), (8, .atom 6), (7, .atom 1), (9, .atom 2), (11, .atom 4)]) ?_ (vs := [.atom 5, .boo false, .boo false, .atom 5, .boo false, .boo false, .boo false, .boo false, .boo false, .nil, .nil, .nil, .nil, .nil, .boo false, .boo false, .boo false, .nil, .nil, .nil, .nil, .nil, .nil, .boo false, .boo false, .boo false, .boo true, .boo true, .atom 0, .atom 3, .atom 7, .atom 14, .atom 1, .atom 2, .atom 4, .atom 8, .atom 8, .atom 9, .atom 3, .atom 10, .atom 11, .atom 15, .boo false, .boo false, .boo false, .boo false, .atom 0, .atom 3, .atom 7, .atom 14, .atom 6, .boo false, .boo false, .nil, .nil, .nil, .nil, .nil, .nil, .nil, .nil, .nil, .nil, .nil, .nil, .nil, .nil, .nil, .boo false, .boo false]) (by kernel_rfl) ?_ (by decide) (Nat.le_of_ble_eq_true (by kernel_rfl)) ?_)
           ·rintro _ ⟨nq, rfl⟩ fa hfa
            simp only [List.mem_cons, List.not_mem_nil, or_false] at hfa
            rcases hfa with rfl | rfl | rfl | rfl | rfl | rfl | rfl | rfl | rfl | rfl | rfl | rfl
            ·exact fx nq
            ·exact fl nq
            ·exact fo nq
            ·exact gx nq
            ·exact gl nq
            ·exact go nq
            ·exact ff nq
            ·exact b11 nq
            ·exact b10 nq
            ·exact bx nq
            ·exact ba nq
            ·exact bo nq
           ·intro q hq
            simp only [List.mem_cons, List.not_mem_nil, or_false] at hq
            rcases hq with rfl | rfl | rfl | rfl | rfl | rfl | rfl | rfl <;> kernel_rfl
           ·rintro _ ⟨nq, rfl⟩
            simp only [Tests.laid, List.take_succ_cons, List.take_zero, List.drop_succ_cons, List.drop_zero, List.map_cons, List.map_nil, List.length_cons, List.length_nil, Tests.TV.val, List.getD_cons_zero, List.getD_cons_succ, List.cons_append, List.nil_append, Nat.reduceAdd]
            go_wp2_with fail
            go_meet
            exact ⟨rfl, Lib.hid ⟨HS.out.1, below_drawn HS.out.2 _⟩⟩
           -- END WAY
          ·simp only [cx] at bx
           -- WAY 7
           refine wp_region_quiet_lit (by kernel_rfl) (by kernel_rfl) (Tests.runQ_ok (env := [.slice (some px) N c5, .slice (some pl) chars.length c2, .slice (some ⟨g, off, none⟩) Q c4, .int .i64 (i : Int), .int .i64 (k : Int), .int .i64 ck, .int .i64 B, .pointer (some (px.add i)), .pointer (some ⟨g, off + k * 2, none⟩), .int .i64 (f : Int), .int .i64 (m : Int), .pointer (some (pl.add m)), .int .i64 (N : Int), .int .i64 n1, .int .i64 xv, .int .i64 lv]) (fs := [.idx 22 (.atom 0) (.atom 3) (.atom 7), .idx 24 (.atom 2) (.atom 4) (.atom 8), .idx 22 (.atom 1) (.atom 10) (.atom 11), .load 3 (.atom 7) (.atom 14), .load 3 (.atom 8) (.atom 9), .load 3 (.atom 11) (.atom 15), .fld 29 (.atom 8) 0 (.atom 8), .bin .eql 3 (.atom 5) (.lit 11) (.boo false), .bin .eql 3 (.atom 5) (.lit 10) (.boo false), .bin .neq 3 (.atom 14) (.atom 6) (.boo true), .bin .add 3 (.atom 9) (.atom 3) (.atom 10), .bin .neq 3 (.atom 14) (.atom 15) (.boo false)]) (s := 108) (st := [(14, .atom 5), (15, .boo false), (13, .atom 3), (12, .atom 0), (8, .atom 6), (7, .atom 1), (9, .atom 2), (11, .atom 4)]) ?_ (vs := [.atom 5, .boo false, .boo false, .atom 5, .boo false, .boo false, .boo false, .boo false, .boo false, .nil, .nil, .nil, .nil, .nil, .boo false, .boo false, .boo false, .nil, .nil, .nil, .nil, .nil, .nil, .boo false, .boo false, .boo false, .boo true, .boo true, .atom 0, .atom 3, .atom 7, .atom 14, .atom 1, .atom 2, .atom 4, .atom 8, .atom 8, .atom 9, .atom 3, .atom 10, .atom 11, .atom 15, .boo false, .boo false, .boo false, .boo false, .atom 0, .atom 3, .atom 7, .atom 14, .atom 6, .boo true, .boo true, .atom 0, .atom 3, .atom 7, .atom 14, .atom 1, .atom 2, .atom 4, .atom 8, .atom 8, .atom 9, .atom 3, .atom 10, .atom 11, .atom 15, .boo false, .boo false, .boo false]) (by kernel_rfl) ?_ (by decide) (Nat.le_of_ble_eq_true (by kernel_rfl)) ?_)
           ·rintro _ ⟨nq, rfl⟩ fa hfa
            simp only [List.mem_cons, List.not_mem_nil, or_false] at hfa
            rcases hfa with rfl | rfl | rfl | rfl | rfl | rfl | rfl | rfl | rfl | rfl | rfl | rfl
            ·exact fx nq
            ·exact fl nq
            ·exact fo nq
            ·exact gx nq
            ·exact gl nq
            ·exact go nq
            ·exact ff nq
            ·exact b11 nq
            ·exact b10 nq
            ·exact bx nq
            ·exact ba nq
            ·exact bo nq
           ·intro q hq
            simp only [List.mem_cons, List.not_mem_nil, or_false] at hq
            rcases hq with rfl | rfl | rfl | rfl | rfl | rfl | rfl | rfl <;> kernel_rfl
           ·rintro _ ⟨nq, rfl⟩
            simp only [Tests.laid, List.take_succ_cons, List.take_zero, List.drop_succ_cons, List.drop_zero, List.map_cons, List.map_nil, List.length_cons, List.length_nil, Tests.TV.val, List.getD_cons_zero, List.getD_cons_succ, List.cons_append, List.nil_append, Nat.reduceAdd]
            go_wp2_with fail
            go_meet
            exact ⟨rfl, Lib.hid ⟨HS.out.1, below_drawn HS.out.2 _⟩⟩
           -- END WAY
         ·rcases cl : ((i : Int) == n1) with _ | _
          ·simp only [cl] at bl
           rcases cx : (xv != B) with _ | _
           ·simp only [cx] at bx
            -- WAY 4
            refine wp_region_quiet_lit (by kernel_rfl) (by kernel_rfl) (Tests.runQ_ok (env := [.slice (some px) N c5, .slice (some pl) chars.length c2, .slice (some ⟨g, off, none⟩) Q c4, .int .i64 (i : Int), .int .i64 (k : Int), .int .i64 ck, .int .i64 B, .pointer (some (px.add i)), .pointer (some ⟨g, off + k * 2, none⟩), .int .i64 (f : Int), .int .i64 (m : Int), .pointer (some (pl.add m)), .int .i64 (N : Int), .int .i64 n1, .int .i64 xv, .int .i64 lv]) (fs := [.idx 22 (.atom 0) (.atom 3) (.atom 7), .load 3 (.atom 7) (.atom 14), .len #[22] (.atom 0) (.atom 12), .bin .eql 3 (.atom 5) (.lit 11) (.boo false), .bin .eql 3 (.atom 5) (.lit 10) (.boo false), .bin .sub 3 (.atom 12) (.lit 1) (.atom 13), .bin .eql 3 (.atom 3) (.atom 13) (.boo false), .bin .neq 3 (.atom 14) (.atom 6) (.boo false)]) (s := 108) (st := [(14, .atom 5), (15, .boo true), (13, .atom 3), (12, .atom 0), (8, .atom 6), (7, .atom 1), (9, .atom 2), (11, .atom 4)]) ?_ (vs := [.atom 5, .boo false, .boo false, .atom 5, .boo false, .boo false, .boo false, .boo true, .boo true, .atom 3, .atom 0, .atom 12, .atom 13, .boo false, .boo false, .boo false, .boo false, .nil, .nil, .nil, .nil, .nil, .nil, .boo false, .boo false, .boo true, .boo false, .boo false, .nil, .nil, .nil, .nil, .nil, .nil, .nil, .nil, .nil, .nil, .nil, .nil, .nil, .nil, .nil, .boo false, .boo false, .boo false, .atom 0, .atom 3, .atom 7, .atom 14, .atom 6, .boo false, .boo false, .nil, .nil, .nil, .nil, .nil, .nil, .nil, .nil, .nil, .nil, .nil, .nil, .nil, .nil, .nil, .boo false, .boo false]) (by kernel_rfl) ?_ (by decide) (Nat.le_of_ble_eq_true (by kernel_rfl)) ?_)
            ·rintro _ ⟨nq, rfl⟩ fa hfa
             simp only [List.mem_cons, List.not_mem_nil, or_false] at hfa
             rcases hfa with rfl | rfl | rfl | rfl | rfl | rfl | rfl | rfl
             ·exact fx nq
             ·exact gx nq
             ·exact fn nq
             ·exact b11 nq
             ·exact b10 nq
             ·exact bs nq
             ·exact bl nq
             ·exact bx nq
            ·intro q hq
             simp only [List.mem_cons, List.not_mem_nil, or_false] at hq
             rcases hq with rfl | rfl | rfl | rfl | rfl | rfl | rfl | rfl <;> kernel_rfl
            ·rintro _ ⟨nq, rfl⟩
             simp only [Tests.laid, List.take_succ_cons, List.take_zero, List.drop_succ_cons, List.drop_zero, List.map_cons, List.map_nil, List.length_cons, List.length_nil, Tests.TV.val, List.getD_cons_zero, List.getD_cons_succ, List.cons_append, List.nil_append, Nat.reduceAdd]
             go_wp2_with fail
             go_meet
             exact ⟨rfl, Lib.hid ⟨HS.out.1, below_drawn HS.out.2 _⟩⟩
            -- END WAY
           ·have hxo : (xv != lv) = false := by
             rcases E4.out with h | h
             ·rw [h] at cx; simp at cx
             ·simpa using h
            simp only [cx] at bx
            simp only [hxo] at bo
            -- WAY 5
            refine wp_region_quiet_lit (by kernel_rfl) (by kernel_rfl) (Tests.runQ_ok (env := [.slice (some px) N c5, .slice (some pl) chars.length c2, .slice (some ⟨g, off, none⟩) Q c4, .int .i64 (i : Int), .int .i64 (k : Int), .int .i64 ck, .int .i64 B, .pointer (some (px.add i)), .pointer (some ⟨g, off + k * 2, none⟩), .int .i64 (f : Int), .int .i64 (m : Int), .pointer (some (pl.add m)), .int .i64 (N : Int), .int .i64 n1, .int .i64 xv, .int .i64 lv]) (fs := [.idx 22 (.atom 0) (.atom 3) (.atom 7), .idx 24 (.atom 2) (.atom 4) (.atom 8), .idx 22 (.atom 1) (.atom 10) (.atom 11), .load 3 (.atom 7) (.atom 14), .load 3 (.atom 8) (.atom 9), .load 3 (.atom 11) (.atom 15), .fld 29 (.atom 8) 0 (.atom 8), .len #[22] (.atom 0) (.atom 12), .bin .eql 3 (.atom 5) (.lit 11) (.boo false), .bin .eql 3 (.atom 5) (.lit 10) (.boo false), .bin .sub 3 (.atom 12) (.lit 1) (.atom 13), .bin .eql 3 (.atom 3) (.atom 13) (.boo false), .bin .neq 3 (.atom 14) (.atom 6) (.boo true), .bin .add 3 (.atom 9) (.atom 3) (.atom 10), .bin .neq 3 (.atom 14) (.atom 15) (.boo false)]) (s := 108) (st := [(14, .atom 5), (15, .boo true), (13, .atom 3), (12, .atom 0), (8, .atom 6), (7, .atom 1), (9, .atom 2), (11, .atom 4)]) ?_ (vs := [.atom 5, .boo false, .boo false, .atom 5, .boo false, .boo false, .boo false, .boo true, .boo true, .atom 3, .atom 0, .atom 12, .atom 13, .boo false, .boo false, .boo false, .boo false, .nil, .nil, .nil, .nil, .nil, .nil, .boo false, .boo false, .boo true, .boo false, .boo false, .nil, .nil, .nil, .nil, .nil, .nil, .nil, .nil, .nil, .nil, .nil, .nil, .nil, .nil, .nil, .boo false, .boo false, .boo false, .atom 0, .atom 3, .atom 7, .atom 14, .atom 6, .boo true, .boo true, .atom 0, .atom 3, .atom 7, .atom 14, .atom 1, .atom 2, .atom 4, .atom 8, .atom 8, .atom 9, .atom 3, .atom 10, .atom 11, .atom 15, .boo false, .boo false, .boo false]) (by kernel_rfl) ?_ (by decide) (Nat.le_of_ble_eq_true (by kernel_rfl)) ?_)
            ·rintro _ ⟨nq, rfl⟩ fa hfa
             simp only [List.mem_cons, List.not_mem_nil, or_false] at hfa
             rcases hfa with rfl | rfl | rfl | rfl | rfl | rfl | rfl | rfl | rfl | rfl | rfl | rfl | rfl | rfl | rfl
             ·exact fx nq
             ·exact fl nq
             ·exact fo nq
             ·exact gx nq
             ·exact gl nq
             ·exact go nq
             ·exact ff nq
             ·exact fn nq
             ·exact b11 nq
             ·exact b10 nq
             ·exact bs nq
             ·exact bl nq
             ·exact bx nq
             ·exact ba nq
             ·exact bo nq
            ·intro q hq
             simp only [List.mem_cons, List.not_mem_nil, or_false] at hq
             rcases hq with rfl | rfl | rfl | rfl | rfl | rfl | rfl | rfl <;> kernel_rfl
            ·rintro _ ⟨nq, rfl⟩
             simp only [Tests.laid, List.take_succ_cons, List.take_zero, List.drop_succ_cons, List.drop_zero, List.map_cons, List.map_nil, List.length_cons, List.length_nil, Tests.TV.val, List.getD_cons_zero, List.getD_cons_succ, List.cons_append, List.nil_append, Nat.reduceAdd]
             go_wp2_with fail
             go_meet
             exact ⟨rfl, Lib.hid ⟨HS.out.1, below_drawn HS.out.2 _⟩⟩
            -- END WAY
          ·have hxe : (xv != B) = false := by
            have h1 := HN1.out
            have h2 : (i : Int) = n1 := by simpa using cl
            simpa using E2.out HWW.out (by omega)
           simp only [cl] at bl
           simp only [hxe] at bx
           -- WAY 3
           refine wp_region_quiet_lit (by kernel_rfl) (by kernel_rfl) (Tests.runQ_ok (env := [.slice (some px) N c5, .slice (some pl) chars.length c2, .slice (some ⟨g, off, none⟩) Q c4, .int .i64 (i : Int), .int .i64 (k : Int), .int .i64 ck, .int .i64 B, .pointer (some (px.add i)), .pointer (some ⟨g, off + k * 2, none⟩), .int .i64 (f : Int), .int .i64 (m : Int), .pointer (some (pl.add m)), .int .i64 (N : Int), .int .i64 n1, .int .i64 xv, .int .i64 lv]) (fs := [.idx 22 (.atom 0) (.atom 3) (.atom 7), .load 3 (.atom 7) (.atom 14), .len #[22] (.atom 0) (.atom 12), .bin .eql 3 (.atom 5) (.lit 11) (.boo false), .bin .eql 3 (.atom 5) (.lit 10) (.boo false), .bin .sub 3 (.atom 12) (.lit 1) (.atom 13), .bin .eql 3 (.atom 3) (.atom 13) (.boo true), .bin .neq 3 (.atom 14) (.atom 6) (.boo false)]) (s := 108) (st := [(14, .atom 5), (15, .boo true), (13, .atom 3), (12, .atom 0), (8, .atom 6), (7, .atom 1), (9, .atom 2), (11, .atom 4)]) ?_ (vs := [.atom 5, .boo false, .boo false, .atom 5, .boo false, .boo false, .boo false, .boo true, .boo true, .atom 3, .atom 0, .atom 12, .atom 13, .boo true, .boo true, .boo true, .boo true, .atom 0, .atom 3, .atom 7, .atom 14, .atom 6, .boo false, .boo false, .boo false, .boo true, .boo false, .boo false, .nil, .nil, .nil, .nil, .nil, .nil, .nil, .nil, .nil, .nil, .nil, .nil, .nil, .nil, .nil, .boo false, .boo false, .boo false, .atom 0, .atom 3, .atom 7, .atom 14, .atom 6, .boo false, .boo false, .nil, .nil, .nil, .nil, .nil, .nil, .nil, .nil, .nil, .nil, .nil, .nil, .nil, .nil, .nil, .boo false, .boo false]) (by kernel_rfl) ?_ (by decide) (Nat.le_of_ble_eq_true (by kernel_rfl)) ?_)
           ·rintro _ ⟨nq, rfl⟩ fa hfa
            simp only [List.mem_cons, List.not_mem_nil, or_false] at hfa
            rcases hfa with rfl | rfl | rfl | rfl | rfl | rfl | rfl | rfl
            ·exact fx nq
            ·exact gx nq
            ·exact fn nq
            ·exact b11 nq
            ·exact b10 nq
            ·exact bs nq
            ·exact bl nq
            ·exact bx nq
           ·intro q hq
            simp only [List.mem_cons, List.not_mem_nil, or_false] at hq
            rcases hq with rfl | rfl | rfl | rfl | rfl | rfl | rfl | rfl <;> kernel_rfl
           ·rintro _ ⟨nq, rfl⟩
            simp only [Tests.laid, List.take_succ_cons, List.take_zero, List.drop_succ_cons, List.drop_zero, List.map_cons, List.map_nil, List.length_cons, List.length_nil, Tests.TV.val, List.getD_cons_zero, List.getD_cons_succ, List.cons_append, List.nil_append, Nat.reduceAdd]
            go_wp2_with fail
            go_meet
            exact ⟨rfl, Lib.hid ⟨HS.out.1, below_drawn HS.out.2 _⟩⟩
           -- END WAY
        ·have hxe : (xv != B) = false := by simpa using E1.out (by rw [sepK, c11, c10]; rfl)
         have hW : W = true := by rw [← HWW.out, white_light, sepK, c11, c10]; rfl
         subst hW
         simp only [c11] at b11
         simp only [c10] at b10
         simp only [hxe] at bx
         -- WAY 2
         refine wp_region_quiet_lit (by kernel_rfl) (by kernel_rfl) (Tests.runQ_ok (env := [.slice (some px) N c5, .slice (some pl) chars.length c2, .slice (some ⟨g, off, none⟩) Q c4, .int .i64 (i : Int), .int .i64 (k : Int), .int .i64 ck, .int .i64 B, .pointer (some (px.add i)), .pointer (some ⟨g, off + k * 2, none⟩), .int .i64 (f : Int), .int .i64 (m : Int), .pointer (some (pl.add m)), .int .i64 (N : Int), .int .i64 n1, .int .i64 xv, .int .i64 lv]) (fs := [.idx 22 (.atom 0) (.atom 3) (.atom 7), .load 3 (.atom 7) (.atom 14), .bin .eql 3 (.atom 5) (.lit 11) (.boo false), .bin .eql 3 (.atom 5) (.lit 10) (.boo true), .bin .neq 3 (.atom 14) (.atom 6) (.boo false)]) (s := 108) (st := [(14, .atom 5), (15, .boo true), (13, .atom 3), (12, .atom 0), (8, .atom 6), (7, .atom 1), (9, .atom 2), (11, .atom 4)]) ?_ (vs := [.atom 5, .boo false, .boo false, .atom 5, .boo true, .boo true, .boo true, .nil, .nil, .nil, .nil, .nil, .nil, .nil, .nil, .boo true, .boo true, .atom 0, .atom 3, .atom 7, .atom 14, .atom 6, .boo false, .boo false, .boo false, .boo true, .boo false, .boo false, .nil, .nil, .nil, .nil, .nil, .nil, .nil, .nil, .nil, .nil, .nil, .nil, .nil, .nil, .nil, .boo false, .boo false, .boo false, .atom 0, .atom 3, .atom 7, .atom 14, .atom 6, .boo false, .boo false, .nil, .nil, .nil, .nil, .nil, .nil, .nil, .nil, .nil, .nil, .nil, .nil, .nil, .nil, .nil, .boo false, .boo false]) (by kernel_rfl) ?_ (by decide) (Nat.le_of_ble_eq_true (by kernel_rfl)) ?_)
         ·rintro _ ⟨nq, rfl⟩ fa hfa
          simp only [List.mem_cons, List.not_mem_nil, or_false] at hfa
          rcases hfa with rfl | rfl | rfl | rfl | rfl
          ·exact fx nq
          ·exact gx nq
          ·exact b11 nq
          ·exact b10 nq
          ·exact bx nq
         ·intro q hq
          simp only [List.mem_cons, List.not_mem_nil, or_false] at hq
          rcases hq with rfl | rfl | rfl | rfl | rfl | rfl | rfl | rfl <;> kernel_rfl
         ·rintro _ ⟨nq, rfl⟩
          simp only [Tests.laid, List.take_succ_cons, List.take_zero, List.drop_succ_cons, List.drop_zero, List.map_cons, List.map_nil, List.length_cons, List.length_nil, Tests.TV.val, List.getD_cons_zero, List.getD_cons_succ, List.cons_append, List.nil_append, Nat.reduceAdd]
          go_wp2_with fail
          go_meet
          exact ⟨rfl, Lib.hid ⟨HS.out.1, below_drawn HS.out.2 _⟩⟩
         -- END WAY
       ·have hxe : (xv != B) = false := by simpa using E1.out (by rw [sepK, c11]; rfl)
        have hW : W = true := by rw [← HWW.out, white_light, sepK, c11]; rfl
        subst hW
        simp only [c11] at b11
        simp only [hxe] at bx
        -- WAY 1
        refine wp_region_quiet_lit (by kernel_rfl) (by kernel_rfl) (Tests.runQ_ok (env := [.slice (some px) N c5, .slice (some pl) chars.length c2, .slice (some ⟨g, off, none⟩) Q c4, .int .i64 (i : Int), .int .i64 (k : Int), .int .i64 ck, .int .i64 B, .pointer (some (px.add i)), .pointer (some ⟨g, off + k * 2, none⟩), .int .i64 (f : Int), .int .i64 (m : Int), .pointer (some (pl.add m)), .int .i64 (N : Int), .int .i64 n1, .int .i64 xv, .int .i64 lv]) (fs := [.idx 22 (.atom 0) (.atom 3) (.atom 7), .load 3 (.atom 7) (.atom 14), .bin .eql 3 (.atom 5) (.lit 11) (.boo true), .bin .neq 3 (.atom 14) (.atom 6) (.boo false)]) (s := 108) (st := [(14, .atom 5), (15, .boo true), (13, .atom 3), (12, .atom 0), (8, .atom 6), (7, .atom 1), (9, .atom 2), (11, .atom 4)]) ?_ (vs := [.atom 5, .boo true, .boo true, .nil, .nil, .boo true, .boo true, .nil, .nil, .nil, .nil, .nil, .nil, .nil, .nil, .boo true, .boo true, .atom 0, .atom 3, .atom 7, .atom 14, .atom 6, .boo false, .boo false, .boo false, .boo true, .boo false, .boo false, .nil, .nil, .nil, .nil, .nil, .nil, .nil, .nil, .nil, .nil, .nil, .nil, .nil, .nil, .nil, .boo false, .boo false, .boo false, .atom 0, .atom 3, .atom 7, .atom 14, .atom 6, .boo false, .boo false, .nil, .nil, .nil, .nil, .nil, .nil, .nil, .nil, .nil, .nil, .nil, .nil, .nil, .nil, .nil, .boo false, .boo false]) (by kernel_rfl) ?_ (by decide) (Nat.le_of_ble_eq_true (by kernel_rfl)) ?_)
        ·rintro _ ⟨nq, rfl⟩ fa hfa
         simp only [List.mem_cons, List.not_mem_nil, or_false] at hfa
         rcases hfa with rfl | rfl | rfl | rfl
         ·exact fx nq
         ·exact gx nq
         ·exact b11 nq
         ·exact bx nq
        ·intro q hq
         simp only [List.mem_cons, List.not_mem_nil, or_false] at hq
         rcases hq with rfl | rfl | rfl | rfl | rfl | rfl | rfl | rfl <;> kernel_rfl
        ·rintro _ ⟨nq, rfl⟩
         simp only [Tests.laid, List.take_succ_cons, List.take_zero, List.drop_succ_cons, List.drop_zero, List.map_cons, List.map_nil, List.length_cons, List.length_nil, Tests.TV.val, List.getD_cons_zero, List.getD_cons_succ, List.cons_append, List.nil_append, Nat.reduceAdd]
         go_wp2_with fail
         go_meet
         exact ⟨rfl, Lib.hid ⟨HS.out.1, below_drawn HS.out.2 _⟩⟩
        -- END WAY
      case rest =>
       obtain ⟨rfl, HS2⟩ := hcut
       go_wp2_with fail
       go_roundw
       case rel =>
        have hi' := HI.out
        exact ⟨i + 1, by omega, by go_num, HS2⟩
       case measure =>
        have hi' := HI.out
        simp [intOf]
        omega
    ·obtain rfl : i = N := by omega
     go_wp2
     go_roundw
     case rel =>
      have hk' := HK.out
      exact ⟨k + 1, by omega, by go_num, Lib.hid HS.out.2⟩
     case measure =>
      have hk' := HK.out
      simp [intOf]
      omega
  ·obtain rfl : k = Q := by omega
   have BR := Lib.hid (below_then B4.out HBr.out)
   go_wp2
   go_ret
   exact ⟨rfl, BR.out⟩
set_option maxRecDepth 20000 in
set_option maxHeartbeats 1000000 in
theorem walk_long (w : World) (A : Option Addr) (m : Nat) (c : Nat) (hl : m ≤ 9223372036854775807) (hh : 150 < m) (dir wd : Int) :
 Calls Try.prog 6 #[.slice A m c, .int .i64 dir, .int .u8 wd] w fun e w' => e = .returned (.bool true) ∧ Below w.heap.size w w' := by
 go_enter Try.func6, Try.ntmps6
 go_wp2_with fail
 refine (lnalive_any _).mono ?_
 rintro e w1 ⟨rfl, b1⟩
 have B1 := Lib.hid b1
 clear b1
 go_wp2
 go_ret
 exact ⟨rfl, B1.out⟩
theorem walk (w : World) (A : Option Addr) (l : List Int) (c : Nat) (hc : l.length ≤ c) (hm : c ≤ maxLen) (h : Lies w w.heap.size A (ints .i64 l)) (_ : ∀ n ∈ l, (Lit.int .i64 n).wf = true) (dir : Int) (_ : (Lit.int .i64 dir).wf = true) (wd : Int) (hw : (Lit.int .u8 wd).wf = true) :
 Calls Try.prog 6 #[.slice A l.length c, .int .i64 dir, .int .u8 wd] w fun e w' => e = .returned (.bool true) ∧ Below w.heap.size w w' := by
 unfold maxLen at hm
 have hb := bounds_u8 hw
 by_cases hh : 150 < l.length
 ·exact walk_long w A _ c (by omega) hh dir wd
 ·exact walk_ok w A l c (by omega) hc h dir wd (by omega) (by omega)
-- WRAP
theorem spec : LawSpec Rows.lineEndsSpec 3 := ⟨rfl, fun H ds h => by
 match ds, h with
 | [d0, d1, d2], _ => rfl⟩
theorem params_ok : ∀ t ∈ Try.f6.params.toList, Try.prog.readableRec t = true ∧ t < Try.prog.types.size := by
 rw [Try.params6]
 intro t ht
 simp only [List.mem_cons, List.mem_nil_iff, or_false] at ht
 rcases ht with rfl | rfl | rfl
 all_goals exact ⟨by kernel_rfl, of_decide_eq_true (by kernel_rfl)⟩
set_option maxRecDepth 100000 in
theorem contract (H : Type) (enc : TypeId × Value → H) (W : World) (base : Nat) (args : Array Value) (ds gs : List (DataW H)) (before : List MemPlace)
 (hval : ∀ (j : Nat) t v, Try.f6.params[j]? = some t → args[j]? = some v → Value.okWide Try.prog W .any base t v)
 (hW : DataW.Whole enc Try.prog Try.f6.params.toList Rows.lineEndsSpec.vars false W args.toList ds gs before) :
 Calls Try.prog 6 args W fun e W' => ∃ v, e = .returned v ∧ Rows.lineEndsSpec.post enc Try.prog Try.f6 false true false false W args v W' := by
 have hW' := hW
 obtain ⟨p, q, hA0, hV, rfl, hfz, hnd⟩ := hW
 have hA : DataW.TrodAll enc Try.prog W 0 (fun _ => true) true Try.f6.params.toList args.toList ds p := hA0
 rw [Try.params6] at hA hval
 obtain ⟨v0, vs0, d0, ds0, p0, q0, hargs, rfl, rfl, h0, r0⟩ := trodAll_cons hA
 obtain ⟨v1, vs1, d1, ds1, p1, q1, rfl, rfl, rfl, h1, r1⟩ := trodAll_cons r0
 obtain ⟨v2, vs2, d2, ds2, p2, q2, rfl, rfl, rfl, h2, r2⟩ := trodAll_cons r1
 obtain ⟨rfl, rfl, rfl⟩ := trodAll_nil r2
 obtain rfl : args = #[v0, v1, v2] := by cases args; simp_all
 obtain ⟨A0, l0, c0, rfl, hc0, hm0, hl0, wf0⟩ := open_list Try.underlying22 Try.underlying3 (by kernel_rfl) (hval 0 22 v0 rfl rfl) h0
 obtain ⟨a1, rfl, rfl, rfl, w1⟩ := open_int Try.underlying3 (hval 1 3 v1 rfl rfl) h1
 obtain ⟨a2, rfl, rfl, rfl, w2⟩ := open_int Try.underlying5 (hval 2 5 v2 rfl rfl) h2
 exact (walk W A0 l0 c0 hc0 hm0 hl0 wf0 a1 w1 a2 w2).mono fun e W' ⟨he, hg⟩ => ⟨_, he, law_post spec (by rw [Try.params6]; rfl) (by kernel_rfl) params_ok (by kernel_rfl) Try.underlying4 hW' hg⟩
theorem own : ownKnob Try.prog.godebug = none := by kernel_rfl
set_option maxRecDepth 100000 in
theorem lifted (os : Os) (started : os.Started) (H : Type) (enc : TypeId × Value → H) :
 ReturnsInHanded {} Try.checked os 6 .any (Rows.lineEndsSpec.pre6 enc Try.prog Try.f6 Rows.lineEndsRow.domain false) (Rows.lineEndsSpec.post enc Try.prog Try.f6 false true false false) := by
 refine returnsInHanded_of_change (C := Try.checked) own started (by kernel_rfl) Try.func6
  (ChangeSpec.witness6 (enc := enc) (C := Try.checked) false ⟨#[], #[.slice none 0 0, .int .i64 0, .int .u8 0], []⟩ 8 (by kernel_rfl) (by kernel_rfl) (by kernel_rfl) (by kernel_rfl)) ?_
 intro W base args ds gs before hval hW _ _
 exact contract H enc W base args ds gs before hval hW
set_option maxRecDepth 100000 in
theorem said : Rows.LineEndsSaid :=
 OpenClaim.holds_of_wide 6 Try.f6 rfl rfl rfl rfl rfl rfl rfl ⟨rfl, rfl, rfl, rfl, rfl⟩ rfl rfl rfl rfl rfl (by kernel_rfl) Try.func6 (by kernel_rfl)
  (of_decide_eq_true (by kernel_rfl)) (by unfold Func.isWrapper; first | (rw [if_pos (by decide +kernel)]; kernel_rfl) | (rw [if_neg (by decide +kernel)]; exact ⟨rfl, rfl⟩))
  (fun os started H enc _ => lifted os started H enc)
end Go.Proofs.Ytadfleopbpomfaa.lawEnds
