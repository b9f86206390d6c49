/- LineParts: for every list of breaks and every two numbers, lines are one behind the other, none is empty, and each place is in just the line that Of tells. Conditions: none. -/
import Derived.Test.YtadfleopbpomfaaLnV
import Derived.Test.YtadfleopbpomfaaLaw
import Derived.Test.YtadfleopbpomfaaSame
import Derived.Test.YtadfleopbpomfaaHeld
import Derived.Test.YtadfleopbpomfaaRows
namespace Go.Proofs.Ytadfleopbpomfaa.lawParts
open Go.ChangeShapes Go.WideShapes Go.ChangeAt Go.RowKit

set_option maxRecDepth 20000 in
set_option maxHeartbeats 8000000 in
theorem walk_ok (w : World) (A : Option Addr) (l : List Int) (c : Nat) (hl : l.length ≤ 1000) (h : Lies w w.heap.size A (ints .i64 l)) (n i : Int) (hn0 : 0 ≤ n) (hn1 : n < 65536) (hi0 : 0 ≤ i) (hi1 : i < 65536) :
    Calls Try.prog 5 #[.slice A l.length c, .int .u16 n, .int .u16 i] w fun e w' => e = .returned (.bool true) ∧ Below w.heap.size w w' := by
  have H := Lib.hid h
  clear h
  rcases hr : rightI l n with _ | _
  · have HP : linesE l n = [] := by rw [linesE, hr]; rfl
    have HE : linesR l n = 3 := by rw [linesR, hr]; rfl
    have HPP := Lib.hid HP
    have HEE := Lib.hid HE
    clear HP HE hr
    go_enter Try.func5, Try.ntmps5
    go_wp2_with fail
    refine (lnalive_any w).mono ?_
    rintro e w1 ⟨rfl, b1⟩
    have B1 := Lib.hid b1
    have H1 := Lib.hid (H.out.up b1)
    clear b1
    go_wp2_with fail
    refine (nlines13_any A l c n w1 H1.out (by omega)).mono ?_
    rintro e w2 ⟨v2, rfl, o2, b2⟩
    rw [HPP.out] at o2
    rw [HEE.out]
    obtain ⟨A2, c2, rfl, l2, -, -⟩ := o2.form
    have B2 := Lib.hid (below_then B1.out b2)
    clear o2 b2 l2
    go_wp2
    go_ret
    exact ⟨rfl, B2.out⟩
  · have HP : Hid (linesE l n = linesI l) := Lib.hid (by rw [linesE, hr]; rfl)
    have HE : Hid (linesR l n = 0) := Lib.hid (by rw [linesR, hr]; rfl)
    have HRI := Lib.hid hr
    have HRS : Hid (risesFrom 0 l = true) := Lib.hid (by rw [rightI, Bool.and_eq_true] at hr; exact hr.1)
    have HLB : Hid (beginI l l.length = n) := Lib.hid (by
      rw [rightI, Bool.and_eq_true] at hr
      have := begin_take l (k := l.length) (Nat.le_refl _)
      rw [List.take_length] at this
      rw [← this]
      simpa using hr.2)
    clear hr
    go_enter Try.func5, Try.ntmps5
    go_wp2_with fail
    refine (lnalive_any w).mono ?_
    rintro e w1 ⟨rfl, b1⟩
    have B1 := Lib.hid b1
    have H1 := Lib.hid (H.out.up b1)
    clear b1
    go_wp2_with fail
    refine (nlines13_any A l c n w1 H1.out (by omega)).mono ?_
    rintro e w2 ⟨v2, rfl, o2, b2⟩
    rw [HP.out] at o2
    rw [HE.out]
    obtain ⟨A2, c2, rfl, l2, -, -⟩ := o2.form
    rw [linesI_length]
    have B2 := Lib.hid (below_then B1.out b2)
    have H2 := Lib.hid (H1.out.up b2)
    have L2 := Lib.hid l2
    clear o2 b2 l2
    go_wp2_with fail
    go_loopw [10, 9] (fun kv av wr => ∃ k : Nat, k ≤ l.length ∧ kv = .int .i64 k ∧ av = .int .i64 (beginI l k) ∧ Hid (Below w2.heap.size w2 wr)) (fun kv _ _ => l.length - (intOf kv).toNat)
    case atStart => exact ⟨0, by omega, rfl, rfl, Lib.hid (Below.refl _ _)⟩
    case round =>
      obtain ⟨k, hk, rfl, rfl, HB⟩ := hrel
      obtain ⟨a, ha⟩ : ∃ a, beginI l k = a := ⟨_, rfl⟩
      rw [ha]
      by_cases hlt : k < l.length
      · obtain ⟨g, off, hA, hg, p0, p1⟩ := prC_at (j := k) (Lies.up L2.out HB.out) (by rw [linesI_length]; exact hlt)
        subst hA
        have k0 : (0 : Int) ≤ (k : Int) := by omega
        have k1 : (k : Int) < (l.length : Int) := by omega
        obtain ⟨x, hx⟩ : ∃ x, l.getD k 0 = x := ⟨_, rfl⟩
        have e0 : (linesI l)[k]'(by rw [linesI_length]; exact hlt) = (a, x) := by
          simp only [linesI, List.getElem_map, List.getElem_range]
          rw [ha, hx]
        rw [e0] at p0 p1
        have HAX : Hid (a < x) := Lib.hid (by have := begin_lt HRS.out hlt; omega)
        have HIF : Hid (lineOf l i = (k : Int) ↔ (a ≤ i ∧ i < x)) := Lib.hid (by have := lineOf_iff HRS.out hlt (i := i) hi0; rw [ha, hx] at this; exact this)
        have HNX : Hid (beginI l (k + 1) = x) := Lib.hid (by rw [begin_succ, hx])
        have HK := Lib.hid hlt
        have HHG := Lib.hid hg
        have d1 : (a != a) = false := by simp
        have hwi : IntKind.i64.wrap i = i := IntWalk.i64_in _ (by omega)
        have d2 : decide (x ≤ a) = false := by have := HAX.out; simp; omega
        obtain ⟨z, hz⟩ : ∃ z, lineOf l i = z := ⟨_, rfl⟩
        have HZ := Lib.hid hz
        have hk0 : wr.drew.cell? ⟨g, off + k * 2, none⟩ = some (.int .i64 a) ∧ wr.drew.cell? ⟨g, off + k * 2 + 1, none⟩ = some (.int .i64 x) := ⟨p0, p1⟩
        have HRW := Lib.hid (H2.out.up HB.out)
        clear ha hx hz p0 p1 e0
        rcases h3 : decide (i ≥ a) with _ | _
        · have hzk : (z == (k : Int)) = false := by
            have := HIF.out
            rw [HZ.out] at this
            simp at h3 ⊢
            omega
          have HZK := Lib.hid hzk
          go_wp2_with fail
          refine wp_region_E (S := fun w' => w'.cell? ⟨g, off + k * 2, none⟩ = some (.int .i64 a) ∧ w'.cell? ⟨g, off + k * 2 + 1, none⟩ = some (.int .i64 x)) [] (by kernel_rfl) (hk0) (fun hHeld hZ => ?_)
          refine' eY 0 hHeld hZ fun hZ => ?_
          try simp only [Act.put,ZA,ZB,ZD,ZE,ZF]
          refine' eY 1 hHeld hZ fun hZ => ?_
          try simp only [Act.put,ZA,ZB,ZC,ZD,ZE,ZF]
          refine' eY 2 hHeld hZ fun hZ => ?_
          try simp only [Act.put,ZA,ZB,ZC,ZD,ZE,ZF]
          refine' eY 3 hHeld hZ fun hZ => ?_
          try simp only [Act.put,ZA,ZB,ZC,ZD,ZE,ZF]
          refine' eY 4 hHeld hZ fun hZ => ?_
          try simp only [Act.put,ZA,ZB,ZC,ZD,ZE,ZF]
          refine' eY 5 hHeld hZ fun hZ => ?_
          try simp only [Act.put,ZA,ZB,ZC,ZD,ZE,ZF]
          refine' eY 6 hHeld hZ fun hZ => ?_
          try simp only [Act.put,ZA,ZB,ZC,ZD,ZE,ZF]
          refine' eY 7 hHeld hZ fun hZ => ?_
          try simp only [Act.put,ZA,ZB,ZC,ZD,ZE,ZF]
          refine' eY 8 hHeld hZ fun hZ => ?_
          try simp only [Act.put,ZA,ZB,ZC,ZD,ZE,ZF]
          refine' eY 9 hHeld hZ fun hZ => ?_
          try simp only [Act.put,ZA,ZB,ZC,ZD,ZE,ZF]
          refine' eY 10 hHeld hZ fun hZ => ?_
          try simp only [Act.put,ZA,ZB,ZC,ZD,ZE,ZF]
          refine' eY 11 hHeld hZ fun hZ => ?_
          try simp only [Act.put,ZA,ZB,ZC,ZD,ZE,ZF]
          refine' eY 12 hHeld hZ fun hZ => ?_
          try simp only [Act.put,ZA,ZB,ZC,ZD,ZE,ZF]
          refine' eY 13 hHeld hZ fun hZ => ?_
          try simp only [Act.put,ZA,ZB,ZC,ZD,ZE,ZF]
          refine' eY 14 hHeld hZ fun hZ => ?_
          try simp only [Act.put,ZA,ZB,ZC,ZD,ZE,ZF]
          refine' eY 15 hHeld hZ fun hZ => ?_
          try simp only [Act.put,ZA,ZB,ZC,ZD,ZE,ZF]
          refine' eY 16 hHeld hZ fun hZ => ?_
          try simp only [Act.put,ZA,ZB,ZC,ZD,ZE,ZF]
          refine' eY 17 hHeld hZ fun hZ => ?_
          try simp only [Act.put,ZA,ZB,ZC,ZD,ZE,ZF]
          refine' eY 18 hHeld hZ fun hZ => ?_
          try simp only [Act.put,ZA,ZB,ZC,ZD,ZE,ZF]
          refine' eY 19 hHeld hZ fun hZ => ?_
          try simp only [Act.put,ZA,ZB,ZC,ZD,ZE,ZF]
          refine' eY 20 hHeld hZ fun hZ => ?_
          try simp only [Act.put,ZA,ZB,ZC,ZD,ZE,ZF]
          refine' eY 21 hHeld hZ fun hZ => ?_
          try simp only [Act.put,ZA,ZB,ZC,ZD,ZE,ZF]
          refine' eN 22 hZ fun hZ => ?_
          try simp only [Act.put,ZA,ZB,ZC,ZD,ZE,ZF]
          refine' eN 23 hZ fun hZ => ?_
          try simp only [Act.put,ZA,ZB,ZC,ZD,ZE,ZF]
          refine' eN 24 hZ fun hZ => ?_
          try simp only [Act.put,ZA,ZB,ZC,ZD,ZE,ZF]
          refine' eN 25 hZ fun hZ => ?_
          try simp only [Act.put,ZA,ZB,ZC,ZD,ZE,ZF]
          refine' eN 26 hZ fun hZ => ?_
          try simp only [Act.put,ZA,ZB,ZC,ZD,ZE,ZF]
          refine' eN 27 hZ fun hZ => ?_
          try simp only [Act.put,ZA,ZB,ZC,ZD,ZE,ZF]
          refine' eN 28 hZ fun hZ => ?_
          try simp only [Act.put,ZA,ZB,ZC,ZD,ZE,ZF]
          refine' eN 29 hZ fun hZ => ?_
          try simp only [Act.put,ZA,ZB,ZC,ZD,ZE,ZF]
          refine' eY 30 hHeld hZ fun hZ => ?_
          try simp only [Act.put,ZA,ZB,ZC,ZD,ZE,ZF]
          refine' eY 31 hHeld hZ fun hZ => ?_
          try simp only [Act.put,ZA,ZB,ZC,ZD,ZE,ZF]
          refine' eY 32 hHeld hZ fun hZ => ?_
          try simp only [Act.put,ZA,ZB,ZC,ZD,ZE,ZF]
          refine' eY 33 hHeld hZ fun hZ => ?_
          try simp only [Act.put,ZA,ZB,ZC,ZD,ZE,ZF]
          refine' eY 35 hHeld hZ fun hZ => ?_
          try simp only [Act.put,ZA,ZB,ZC,ZD,ZE,ZF]
          refine eA 34 fun K hK => ?_
          go_simp
          refine (nof13_any A l c i _ (HRW.out.up (by exact below_same (Below.refl _ _) rfl rfl rfl rfl)) (by omega) HRS.out).mono ?_
          rintro e w5 ⟨rfl, b5⟩
          rw [HZ.out]
          have D5 : Hid (Below wr.heap.size wr w5) := Lib.hid ⟨b5.os, b5.tape, b5.output, b5.size, b5.block⟩
          have hk5 : w5.cell? ⟨g, off + k * 2, none⟩ = some (.int .i64 a) ∧ w5.cell? ⟨g, off + k * 2 + 1, none⟩ = some (.int .i64 x) := ⟨(D5.out.cell (p := ⟨g, off + k * 2, none⟩) HHG.out).trans hk0.1, (D5.out.cell (p := ⟨g, off + k * 2 + 1, none⟩) HHG.out).trans hk0.2⟩
          clear b5
          refine eB hK hZ (hk5) fun hHeld hZ => ?_
          clear hK K
          try simp only [Act.put,ZA,ZB,ZC,ZD,ZE,ZF]
          refine' eY 36 hHeld hZ fun hZ => ?_
          try simp only [Act.put,ZA,ZB,ZC,ZD,ZE,ZF]
          refine' eY 37 hHeld hZ fun hZ => ?_
          try simp only [Act.put,ZA,ZB,ZC,ZD,ZE,ZF]
          refine' eY 38 hHeld hZ fun hZ => ?_
          try simp only [Act.put,ZA,ZB,ZC,ZD,ZE,ZF]
          refine wpAnyE_done (by kernel_rfl) ?_ _
          clear hZ
          obtain ⟨hk6, hk7⟩ := hk5
          go_wp2_with fail
          go_roundw
          case rel =>
            have hk' := HK.out
            exact ⟨k + 1, by omega, by go_num, by rw [HNX.out], Lib.hid (by exact below_same (HB.out.trans (D5.out.mono HB.out.size)) rfl rfl rfl rfl)⟩
          case measure =>
            have hk' := HK.out
            simp [intOf]
            omega
        · rcases h5 : decide (i < x) with _ | _
          · have hzk : (z == (k : Int)) = false := by
              have := HIF.out
              rw [HZ.out] at this
              simp at h3 h5 ⊢
              omega
            have HZK := Lib.hid hzk
            go_wp2_with fail
            refine wp_region_E (S := fun w' => w'.cell? ⟨g, off + k * 2, none⟩ = some (.int .i64 a) ∧ w'.cell? ⟨g, off + k * 2 + 1, none⟩ = some (.int .i64 x)) [] (by kernel_rfl) (hk0) (fun hHeld hZ => ?_)
            refine' eY 0 hHeld hZ fun hZ => ?_
            try simp only [Act.put,ZA,ZB,ZD,ZE,ZF]
            refine' eY 1 hHeld hZ fun hZ => ?_
            try simp only [Act.put,ZA,ZB,ZC,ZD,ZE,ZF]
            refine' eY 2 hHeld hZ fun hZ => ?_
            try simp only [Act.put,ZA,ZB,ZC,ZD,ZE,ZF]
            refine' eY 3 hHeld hZ fun hZ => ?_
            try simp only [Act.put,ZA,ZB,ZC,ZD,ZE,ZF]
            refine' eY 4 hHeld hZ fun hZ => ?_
            try simp only [Act.put,ZA,ZB,ZC,ZD,ZE,ZF]
            refine' eY 5 hHeld hZ fun hZ => ?_
            try simp only [Act.put,ZA,ZB,ZC,ZD,ZE,ZF]
            refine' eY 6 hHeld hZ fun hZ => ?_
            try simp only [Act.put,ZA,ZB,ZC,ZD,ZE,ZF]
            refine' eY 7 hHeld hZ fun hZ => ?_
            try simp only [Act.put,ZA,ZB,ZC,ZD,ZE,ZF]
            refine' eY 8 hHeld hZ fun hZ => ?_
            try simp only [Act.put,ZA,ZB,ZC,ZD,ZE,ZF]
            refine' eY 9 hHeld hZ fun hZ => ?_
            try simp only [Act.put,ZA,ZB,ZC,ZD,ZE,ZF]
            refine' eY 10 hHeld hZ fun hZ => ?_
            try simp only [Act.put,ZA,ZB,ZC,ZD,ZE,ZF]
            refine' eY 11 hHeld hZ fun hZ => ?_
            try simp only [Act.put,ZA,ZB,ZC,ZD,ZE,ZF]
            refine' eY 12 hHeld hZ fun hZ => ?_
            try simp only [Act.put,ZA,ZB,ZC,ZD,ZE,ZF]
            refine' eY 13 hHeld hZ fun hZ => ?_
            try simp only [Act.put,ZA,ZB,ZC,ZD,ZE,ZF]
            refine' eY 14 hHeld hZ fun hZ => ?_
            try simp only [Act.put,ZA,ZB,ZC,ZD,ZE,ZF]
            refine' eY 15 hHeld hZ fun hZ => ?_
            try simp only [Act.put,ZA,ZB,ZC,ZD,ZE,ZF]
            refine' eY 16 hHeld hZ fun hZ => ?_
            try simp only [Act.put,ZA,ZB,ZC,ZD,ZE,ZF]
            refine' eY 17 hHeld hZ fun hZ => ?_
            try simp only [Act.put,ZA,ZB,ZC,ZD,ZE,ZF]
            refine' eY 18 hHeld hZ fun hZ => ?_
            try simp only [Act.put,ZA,ZB,ZC,ZD,ZE,ZF]
            refine' eY 19 hHeld hZ fun hZ => ?_
            try simp only [Act.put,ZA,ZB,ZC,ZD,ZE,ZF]
            refine' eY 20 hHeld hZ fun hZ => ?_
            try simp only [Act.put,ZA,ZB,ZC,ZD,ZE,ZF]
            refine' eY 21 hHeld hZ fun hZ => ?_
            try simp only [Act.put,ZA,ZB,ZC,ZD,ZE,ZF]
            refine' eY 22 hHeld hZ fun hZ => ?_
            try simp only [Act.put,ZA,ZB,ZC,ZD,ZE,ZF]
            refine' eY 23 hHeld hZ fun hZ => ?_
            try simp only [Act.put,ZA,ZB,ZC,ZD,ZE,ZF]
            refine' eY 24 hHeld hZ fun hZ => ?_
            try simp only [Act.put,ZA,ZB,ZC,ZD,ZE,ZF]
            refine' eY 25 hHeld hZ fun hZ => ?_
            try simp only [Act.put,ZA,ZB,ZC,ZD,ZE,ZF]
            refine' eY 26 hHeld hZ fun hZ => ?_
            try simp only [Act.put,ZA,ZB,ZC,ZD,ZE,ZF]
            refine' eY 27 hHeld hZ fun hZ => ?_
            try simp only [Act.put,ZA,ZB,ZC,ZD,ZE,ZF]
            refine' eY 28 hHeld hZ fun hZ => ?_
            try simp only [Act.put,ZA,ZB,ZC,ZD,ZE,ZF]
            refine' eY 29 hHeld hZ fun hZ => ?_
            try simp only [Act.put,ZA,ZB,ZC,ZD,ZE,ZF]
            refine' eY 30 hHeld hZ fun hZ => ?_
            try simp only [Act.put,ZA,ZB,ZC,ZD,ZE,ZF]
            refine' eY 31 hHeld hZ fun hZ => ?_
            try simp only [Act.put,ZA,ZB,ZC,ZD,ZE,ZF]
            refine' eY 32 hHeld hZ fun hZ => ?_
            try simp only [Act.put,ZA,ZB,ZC,ZD,ZE,ZF]
            refine' eY 33 hHeld hZ fun hZ => ?_
            try simp only [Act.put,ZA,ZB,ZC,ZD,ZE,ZF]
            refine' eY 35 hHeld hZ fun hZ => ?_
            try simp only [Act.put,ZA,ZB,ZC,ZD,ZE,ZF]
            refine eA 34 fun K hK => ?_
            go_simp
            refine (nof13_any A l c i _ (HRW.out.up (by exact below_same (Below.refl _ _) rfl rfl rfl rfl)) (by omega) HRS.out).mono ?_
            rintro e w5 ⟨rfl, b5⟩
            rw [HZ.out]
            have D5 : Hid (Below wr.heap.size wr w5) := Lib.hid ⟨b5.os, b5.tape, b5.output, b5.size, b5.block⟩
            have hk5 : w5.cell? ⟨g, off + k * 2, none⟩ = some (.int .i64 a) ∧ w5.cell? ⟨g, off + k * 2 + 1, none⟩ = some (.int .i64 x) := ⟨(D5.out.cell (p := ⟨g, off + k * 2, none⟩) HHG.out).trans hk0.1, (D5.out.cell (p := ⟨g, off + k * 2 + 1, none⟩) HHG.out).trans hk0.2⟩
            clear b5
            refine eB hK hZ (hk5) fun hHeld hZ => ?_
            clear hK K
            try simp only [Act.put,ZA,ZB,ZC,ZD,ZE,ZF]
            refine' eY 36 hHeld hZ fun hZ => ?_
            try simp only [Act.put,ZA,ZB,ZC,ZD,ZE,ZF]
            refine' eY 37 hHeld hZ fun hZ => ?_
            try simp only [Act.put,ZA,ZB,ZC,ZD,ZE,ZF]
            refine' eY 38 hHeld hZ fun hZ => ?_
            try simp only [Act.put,ZA,ZB,ZC,ZD,ZE,ZF]
            refine wpAnyE_done (by kernel_rfl) ?_ _
            clear hZ
            obtain ⟨hk6, hk7⟩ := hk5
            go_wp2_with fail
            go_roundw
            case rel =>
              have hk' := HK.out
              exact ⟨k + 1, by omega, by go_num, by rw [HNX.out], Lib.hid (by exact below_same (HB.out.trans (D5.out.mono HB.out.size)) rfl rfl rfl rfl)⟩
            case measure =>
              have hk' := HK.out
              simp [intOf]
              omega
          · have hzk : (z == (k : Int)) = true := by
              have := HIF.out
              rw [HZ.out] at this
              simp at h3 h5 ⊢
              omega
            have HZK := Lib.hid hzk
            go_wp2_with fail
            refine wp_region_E (S := fun w' => w'.cell? ⟨g, off + k * 2, none⟩ = some (.int .i64 a) ∧ w'.cell? ⟨g, off + k * 2 + 1, none⟩ = some (.int .i64 x)) [] (by kernel_rfl) (hk0) (fun hHeld hZ => ?_)
            refine' eY 0 hHeld hZ fun hZ => ?_
            try simp only [Act.put,ZA,ZB,ZD,ZE,ZF]
            refine' eY 1 hHeld hZ fun hZ => ?_
            try simp only [Act.put,ZA,ZB,ZC,ZD,ZE,ZF]
            refine' eY 2 hHeld hZ fun hZ => ?_
            try simp only [Act.put,ZA,ZB,ZC,ZD,ZE,ZF]
            refine' eY 3 hHeld hZ fun hZ => ?_
            try simp only [Act.put,ZA,ZB,ZC,ZD,ZE,ZF]
            refine' eY 4 hHeld hZ fun hZ => ?_
            try simp only [Act.put,ZA,ZB,ZC,ZD,ZE,ZF]
            refine' eY 5 hHeld hZ fun hZ => ?_
            try simp only [Act.put,ZA,ZB,ZC,ZD,ZE,ZF]
            refine' eY 6 hHeld hZ fun hZ => ?_
            try simp only [Act.put,ZA,ZB,ZC,ZD,ZE,ZF]
            refine' eY 7 hHeld hZ fun hZ => ?_
            try simp only [Act.put,ZA,ZB,ZC,ZD,ZE,ZF]
            refine' eY 8 hHeld hZ fun hZ => ?_
            try simp only [Act.put,ZA,ZB,ZC,ZD,ZE,ZF]
            refine' eY 9 hHeld hZ fun hZ => ?_
            try simp only [Act.put,ZA,ZB,ZC,ZD,ZE,ZF]
            refine' eY 10 hHeld hZ fun hZ => ?_
            try simp only [Act.put,ZA,ZB,ZC,ZD,ZE,ZF]
            refine' eY 11 hHeld hZ fun hZ => ?_
            try simp only [Act.put,ZA,ZB,ZC,ZD,ZE,ZF]
            refine' eY 12 hHeld hZ fun hZ => ?_
            try simp only [Act.put,ZA,ZB,ZC,ZD,ZE,ZF]
            refine' eY 13 hHeld hZ fun hZ => ?_
            try simp only [Act.put,ZA,ZB,ZC,ZD,ZE,ZF]
            refine' eY 14 hHeld hZ fun hZ => ?_
            try simp only [Act.put,ZA,ZB,ZC,ZD,ZE,ZF]
            refine' eY 15 hHeld hZ fun hZ => ?_
            try simp only [Act.put,ZA,ZB,ZC,ZD,ZE,ZF]
            refine' eY 16 hHeld hZ fun hZ => ?_
            try simp only [Act.put,ZA,ZB,ZC,ZD,ZE,ZF]
            refine' eY 17 hHeld hZ fun hZ => ?_
            try simp only [Act.put,ZA,ZB,ZC,ZD,ZE,ZF]
            refine' eY 18 hHeld hZ fun hZ => ?_
            try simp only [Act.put,ZA,ZB,ZC,ZD,ZE,ZF]
            refine' eY 19 hHeld hZ fun hZ => ?_
            try simp only [Act.put,ZA,ZB,ZC,ZD,ZE,ZF]
            refine' eY 20 hHeld hZ fun hZ => ?_
            try simp only [Act.put,ZA,ZB,ZC,ZD,ZE,ZF]
            refine' eY 21 hHeld hZ fun hZ => ?_
            try simp only [Act.put,ZA,ZB,ZC,ZD,ZE,ZF]
            refine' eY 22 hHeld hZ fun hZ => ?_
            try simp only [Act.put,ZA,ZB,ZC,ZD,ZE,ZF]
            refine' eY 23 hHeld hZ fun hZ => ?_
            try simp only [Act.put,ZA,ZB,ZC,ZD,ZE,ZF]
            refine' eY 24 hHeld hZ fun hZ => ?_
            try simp only [Act.put,ZA,ZB,ZC,ZD,ZE,ZF]
            refine' eY 25 hHeld hZ fun hZ => ?_
            try simp only [Act.put,ZA,ZB,ZC,ZD,ZE,ZF]
            refine' eY 26 hHeld hZ fun hZ => ?_
            try simp only [Act.put,ZA,ZB,ZC,ZD,ZE,ZF]
            refine' eY 27 hHeld hZ fun hZ => ?_
            try simp only [Act.put,ZA,ZB,ZC,ZD,ZE,ZF]
            refine' eY 28 hHeld hZ fun hZ => ?_
            try simp only [Act.put,ZA,ZB,ZC,ZD,ZE,ZF]
            refine' eY 29 hHeld hZ fun hZ => ?_
            try simp only [Act.put,ZA,ZB,ZC,ZD,ZE,ZF]
            refine' eY 30 hHeld hZ fun hZ => ?_
            try simp only [Act.put,ZA,ZB,ZC,ZD,ZE,ZF]
            refine' eY 31 hHeld hZ fun hZ => ?_
            try simp only [Act.put,ZA,ZB,ZC,ZD,ZE,ZF]
            refine' eY 32 hHeld hZ fun hZ => ?_
            try simp only [Act.put,ZA,ZB,ZC,ZD,ZE,ZF]
            refine' eY 33 hHeld hZ fun hZ => ?_
            try simp only [Act.put,ZA,ZB,ZC,ZD,ZE,ZF]
            refine' eY 35 hHeld hZ fun hZ => ?_
            try simp only [Act.put,ZA,ZB,ZC,ZD,ZE,ZF]
            refine eA 34 fun K hK => ?_
            go_simp
            refine (nof13_any A l c i _ (HRW.out.up (by exact below_same (Below.refl _ _) rfl rfl rfl rfl)) (by omega) HRS.out).mono ?_
            rintro e w5 ⟨rfl, b5⟩
            rw [HZ.out]
            have D5 : Hid (Below wr.heap.size wr w5) := Lib.hid ⟨b5.os, b5.tape, b5.output, b5.size, b5.block⟩
            have hk5 : w5.cell? ⟨g, off + k * 2, none⟩ = some (.int .i64 a) ∧ w5.cell? ⟨g, off + k * 2 + 1, none⟩ = some (.int .i64 x) := ⟨(D5.out.cell (p := ⟨g, off + k * 2, none⟩) HHG.out).trans hk0.1, (D5.out.cell (p := ⟨g, off + k * 2 + 1, none⟩) HHG.out).trans hk0.2⟩
            clear b5
            refine eB hK hZ (hk5) fun hHeld hZ => ?_
            clear hK K
            try simp only [Act.put,ZA,ZB,ZC,ZD,ZE,ZF]
            refine' eY 36 hHeld hZ fun hZ => ?_
            try simp only [Act.put,ZA,ZB,ZC,ZD,ZE,ZF]
            refine' eY 37 hHeld hZ fun hZ => ?_
            try simp only [Act.put,ZA,ZB,ZC,ZD,ZE,ZF]
            refine' eY 38 hHeld hZ fun hZ => ?_
            try simp only [Act.put,ZA,ZB,ZC,ZD,ZE,ZF]
            refine wpAnyE_done (by kernel_rfl) ?_ _
            clear hZ
            obtain ⟨hk6, hk7⟩ := hk5
            go_wp2_with fail
            go_roundw
            case rel =>
              have hk' := HK.out
              exact ⟨k + 1, by omega, by go_num, by rw [HNX.out], Lib.hid (by exact below_same (HB.out.trans (D5.out.mono HB.out.size)) rfl rfl rfl rfl)⟩
            case measure =>
              have hk' := HK.out
              simp [intOf]
              omega
      · obtain rfl : k = l.length := by omega
        have hna : a = n := by rw [← ha]; exact HLB.out
        subst hna
        have BR := Lib.hid (below_then B2.out HB.out)
        have HRW := Lib.hid (H2.out.up HB.out)
        have d1 : (a == a) = true := by simp
        clear ha
        rcases h4 : decide (i < a) with _ | _
        · have HF : Hid (lineOf l i = -1) := Lib.hid (lineOf_behind HRI.out (by simpa using h4))
          go_wp2_with fail
          refine (nof13_any A l c i wr HRW.out (by omega) HRS.out).mono ?_
          rintro e w3 ⟨rfl, b3⟩
          rw [HF.out]
          have B3 := Lib.hid (below_then BR.out b3)
          clear b3
          go_wp2
          go_ret
          exact ⟨rfl, B3.out⟩
        · go_wp2
          go_ret
          exact ⟨rfl, BR.out⟩
set_option maxHeartbeats 1000000 in
theorem walk_long (w : World) (A : Option Addr) (m : Nat) (c : Nat) (hl : m ≤ 9223372036854775807) (hh : 1000 < m) (n i : Int) :
    Calls Try.prog 5 #[.slice A m c, .int .u16 n, .int .u16 i] w fun e w' => e = .returned (.bool true) ∧ Below w.heap.size w w' := by
  go_enter Try.func5, Try.ntmps5
  go_wp2_with fail
  refine (lnalive_any _).mono ?_
  rintro e w1 ⟨rfl, b1⟩
  have B1 := Lib.hid b1
  clear b1
  go_wp2
  go_ret
  exact ⟨rfl, B1.out⟩

theorem walk (w : World) (A : Option Addr) (l : List Int) (c : Nat) (hc : l.length ≤ c) (hm : c ≤ maxLen) (h : Lies w w.heap.size A (ints .i64 l)) (_ : ∀ n ∈ l, (Lit.int .i64 n).wf = true) (n : Int) (hn : (Lit.int .u16 n).wf = true) (i : Int) (hi : (Lit.int .u16 i).wf = true) :
    Calls Try.prog 5 #[.slice A l.length c, .int .u16 n, .int .u16 i] w fun e w' => e = .returned (.bool true) ∧ Below w.heap.size w w' := by
  unfold maxLen at hm
  have hbn := bounds_u16 hn
  have hbi := bounds_u16 hi
  by_cases hh : 1000 < l.length
  · exact walk_long w A _ c (by omega) hh n i
  · exact walk_ok w A l c (by omega) h n i (by omega) (by omega) (by omega) (by omega)
-- WRAP
theorem spec : LawSpec Rows.linePartsSpec 3 := ⟨rfl, fun H ds h => by
  match ds, h with
  | [d0, d1, d2], _ => rfl⟩
theorem params_ok : ∀ t ∈ Try.f5.params.toList, Try.prog.readableRec t = true ∧ t < Try.prog.types.size := by
  rw [Try.params5]
  intro t ht
  simp only [List.mem_cons, List.mem_nil_iff, or_false] at ht
  rcases ht with rfl | rfl | rfl
  all_goals exact ⟨by kernel_rfl, of_decide_eq_true (by kernel_rfl)⟩

set_option maxRecDepth 100000 in
theorem contract (H : Type) (enc : TypeId × Value → H) (W : World) (base : Nat) (args : Array Value) (ds gs : List (DataW H)) (before : List MemPlace)
    (hval : ∀ (j : Nat) t v, Try.f5.params[j]? = some t → args[j]? = some v → Value.okWide Try.prog W .any base t v)
    (hW : DataW.Whole enc Try.prog Try.f5.params.toList Rows.linePartsSpec.vars false W args.toList ds gs before) :
    Calls Try.prog 5 args W fun e W' => ∃ v, e = .returned v ∧ Rows.linePartsSpec.post enc Try.prog Try.f5 false true false false W args v W' := by
  have hW' := hW
  obtain ⟨p, q, hA0, hV, rfl, hfz, hnd⟩ := hW
  have hA : DataW.TrodAll enc Try.prog W 0 (fun _ => true) true Try.f5.params.toList args.toList ds p := hA0
  rw [Try.params5] at hA hval
  obtain ⟨v0, vs0, d0, ds0, p0, q0, hargs, rfl, rfl, h0, r0⟩ := trodAll_cons hA
  obtain ⟨v1, vs1, d1, ds1, p1, q1, rfl, rfl, rfl, h1, r1⟩ := trodAll_cons r0
  obtain ⟨v2, vs2, d2, ds2, p2, q2, rfl, rfl, rfl, h2, r2⟩ := trodAll_cons r1
  obtain ⟨rfl, rfl, rfl⟩ := trodAll_nil r2
  obtain rfl : args = #[v0, v1, v2] := by cases args; simp_all
  obtain ⟨A0, l0, c0, rfl, hc0, hm0, hl0, wf0⟩ := open_list Try.underlying22 Try.underlying3 (by kernel_rfl) (hval 0 22 v0 rfl rfl) h0
  obtain ⟨a1, rfl, rfl, rfl, w1⟩ := open_int Try.underlying38 (hval 1 38 v1 rfl rfl) h1
  obtain ⟨a2, rfl, rfl, rfl, w2⟩ := open_int Try.underlying38 (hval 2 38 v2 rfl rfl) h2
  exact (walk W A0 l0 c0 hc0 hm0 hl0 wf0 a1 w1 a2 w2).mono fun e W' ⟨he, hg⟩ => ⟨_, he, law_post spec (by rw [Try.params5]; rfl) (by kernel_rfl) params_ok (by kernel_rfl) Try.underlying4 hW' hg⟩

theorem own : ownKnob Try.prog.godebug = none := by kernel_rfl
set_option maxRecDepth 100000 in
theorem lifted (os : Os) (started : os.Started) (H : Type) (enc : TypeId × Value → H) :
    ReturnsInHanded {} Try.checked os 5 .any (Rows.linePartsSpec.pre6 enc Try.prog Try.f5 Rows.linePartsRow.domain false) (Rows.linePartsSpec.post enc Try.prog Try.f5 false true false false) := by
  refine returnsInHanded_of_change (C := Try.checked) own started (by kernel_rfl) Try.func5
    (ChangeSpec.witness6 (enc := enc) (C := Try.checked) false ⟨#[], #[.slice none 0 0, .int .u16 0, .int .u16 0], []⟩ 8 (by kernel_rfl) (by kernel_rfl) (by kernel_rfl) (by kernel_rfl)) ?_
  intro W base args ds gs before hval hW _ _
  exact contract H enc W base args ds gs before hval hW
set_option maxRecDepth 100000 in
theorem said : Rows.LinePartsSaid :=
  OpenClaim.holds_of_wide 5 Try.f5 rfl rfl rfl rfl rfl rfl rfl ⟨rfl, rfl, rfl, rfl, rfl⟩ rfl rfl rfl rfl rfl (by kernel_rfl) Try.func5 (by kernel_rfl)
    (of_decide_eq_true (by kernel_rfl)) (by unfold Func.isWrapper; first | (rw [if_pos (by decide +kernel)]; kernel_rfl) | (rw [if_neg (by decide +kernel)]; exact ⟨rfl, rfl⟩))
    (fun os started H enc _ => lifted os started H enc)
end Go.Proofs.Ytadfleopbpomfaa.lawParts
