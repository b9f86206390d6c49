/- Layer 6: the program's Depth; the fixed fact. -/
import Derived.Test.YtihphfbgihbkfaaDoorEpE
import Derived.Test.YtihphfbgihbkfaaDoorInts2
namespace Go.Proofs.YtihphfbgihbkfaaDoor
open Go.RowKit Reckon

set_option maxRecDepth 20000 in
set_option maxHeartbeats 4000000 in
theorem depth_any (A : Option Addr) (l : List Int) (cap : Nat) (base : Int) (w : World) (hT : ClsTabs w) (h : Lies w w.heap.size A (ints .i64 l)) (hl : l.length ≤ 1000000) (hcap : l.length ≤ cap) :
    Calls Tryd.prog 12 #[.slice A l.length cap, .int .i64 base] w fun ed w' => ed = .returned (.int .i64 (dep l base : Int)) ∧ Below w.heap.size w w' := by
  have HL := Lib.hid h
  have HT := Lib.hid hT
  have hbg := begin_any A l cap base w
  obtain ⟨n, hn⟩ : ∃ n, l.length = n := ⟨_, rfl⟩
  have HN := Lib.hid hn
  have HDEP : Hid (dep l base = (runX l base n).most) := Lib.hid (by rw [dep, hn])
  rw [hn] at hl hcap hbg ⊢
  have HBG := Lib.hid hbg
  clear h hT hbg
  go_enter Tryd.func12, Tryd.ntmps12
  go_wp2_with fail
  refine HBG.out.mono ?_
  rintro ed w1 ⟨rfl, ⟨sv, x1⟩, b1⟩
  have X1 : Hid (HasP w1 w.heap.size w.heap.size (runX l base 0).core (.slice A n cap)) := Lib.hid ⟨sv, x1⟩
  have B1 := Lib.hid b1
  have h2 := x1.field 2 (by omega)
  obtain ⟨As, cs, rfl, _, _, _⟩ := x1.stack.form
  simp only [P6.cells, List.getElem?_cons_succ, List.getElem?_cons_zero] at h2
  rw [show (runX l base 0).core.st.length = 1 from rfl] at h2
  obtain ⟨C, hC⟩ : ∃ C, w.heap.size = C := ⟨_, rfl⟩
  rw [hC] at X1 HL B1 h2
  rw [hC]
  have HC := Lib.hid hC
  clear x1 b1 hC
  go_wp2_with fail
  clear h2
  go_loopw [18, 6] (fun iv mv wr => ∃ k : Nat, k ≤ n ∧ iv = .int .i64 k ∧ mv = .int .i64 ((runX l base k).most : Int) ∧ HasP wr C C (runX l base k).core (.slice A n cap) ∧ Below C w wr) (fun iv _ _ => n - (intOf iv).toNat)
  case atStart => exact ⟨0, by omega, rfl, rfl, X1.out, B1.out⟩
  case round =>
    obtain ⟨k, hk, rfl, rfl, hx, hb⟩ := hrel
    have HX := Lib.hid hx
    have BW := Lib.hid hb
    clear hx hb
    by_cases hlt : k < n
    · obtain ⟨x, hx⟩ : ∃ x, runX l base k = x := ⟨_, rfl⟩
      have HWF : Hid (Wf x k) := Lib.hid (hx ▸ wf_run l base k)
      have HMO : Hid (MostOk x) := Lib.hid (hx ▸ most_run l base k)
      have hkl : k < l.length := by have := HN.out; omega
      obtain ⟨c, hc⟩ : ∃ c, l[k] = c := ⟨_, rfl⟩
      have HS : Hid (runX l base (k + 1) = stepX l x k c) := Lib.hid (by rw [runX, hx, at0_eq hkl, hc])
      obtain ⟨e, st, hst⟩ := HWF.out.top
      rw [hx] at HX
      have CT : Hid (Ctx wr C A l) := Lib.hid ⟨HT.out.below BW.out (by rw [← HC.out]; exact HT.out.big), by rw [← HC.out]; exact HT.out.big, HL.out.below BW.out⟩
      have HCO := Lib.hid (core_step hst l k c)
      obtain ⟨hmost, _⟩ := most_step HWF.out HMO.out l c
      obtain ⟨y, hy⟩ : ∃ y, stepX l x k c = y := ⟨_, rfl⟩
      have hstep := step_any wr C C x.core A l cap k hkl c hc e st hst (by rw [HN.out]; exact HX.out) (small_core HWF.out (by omega)) CT.out (by have := HN.out; omega) (by have := HN.out; omega) (ends_core HWF.out)
      rw [← core_step hst l k c, hy, HN.out] at hstep
      rw [hy] at HS HCO hmost
      have HSTEP := Lib.hid hstep
      have HYS : Hid (y.st.length ≤ 1000000) := Lib.hid (by
        have := wf_step l c HWF.out
        rw [hy] at this
        have := (wf_small this (by omega)).st
        omega)
      have HMX : Hid ((if (runX l base k).most < y.st.length then (y.st.length : Int) else ((runX l base k).most : Int)) = (y.most : Int)) := Lib.hid (by rw [hmost, hx]; split <;> omega)
      clear hx hc hst hstep hy
      clear hmost
      go_wp2_with fail
      refine HSTEP.out.mono ?_
      rintro ed w2 ⟨rfl, ⟨sv2, x2⟩, b2⟩
      have X2 := Lib.hid x2
      have B2 := Lib.hid (BW.out.trans b2)
      have h2 := x2.field 2 (by omega)
      obtain ⟨A2, c2, rfl, _, _, _⟩ := x2.stack.form
      simp only [P6.cells, List.getElem?_cons_succ, List.getElem?_cons_zero] at h2
      rw [show y.core.st.length = y.st.length from rfl] at h2
      clear x2 b2
      go_wp2_with fail
      go_roundw
      case rel => exact ⟨k + 1, by omega, by go_num, by rw [HS.out]; exact congrArg _ HMX.out, by rw [HS.out]; exact ⟨_, X2.out⟩, B2.out⟩
      case measure => simp [intOf]; omega
    · obtain rfl : k = n := by omega
      go_wp2_with fail
      go_ret
      exact ⟨by rw [HDEP.out]; rfl, by rw [HC.out]; exact BW.out⟩

set_option maxRecDepth 20000 in
set_option maxHeartbeats 4000000 in
theorem ealive_any (w : World) (hT : ClsTabs w) : Calls Tryd.prog 8 #[] w fun e w' => e = .returned (.bool true) ∧ Below w.heap.size w w' := by
  have HT := Lib.hid hT
  have hbig := hT.big
  clear hT
  go_enter Tryd.func8, Tryd.ntmps8
  go_wp2_with fail
  have L0 := Lib.hid (Lies.litUp (w := w) (e := 3) #[.int .i64 17, .int .i64 0, .int .i64 19, .int .i64 3, .int .i64 22, .int .i64 18, .int .i64 0])
  refine (of_any _ [17, 0, 19, 3, 22, 18, 0] _ 0 _ (HT.out.below (below_alloc w _) hbig) L0.out (by decide) (by decide)).mono ?_
  rintro e w1 ⟨v1, v2, rfl, o1, o2, b1⟩
  rw [show lvs [17, 0, 19, 3, 22, 18, 0] 0 = [0, 1, 1, 2, 1, 1, 0] by decide +kernel] at o1
  rw [show cls [17, 0, 19, 3, 22, 18, 0] 0 = [17, 1, 1, 3, 1, 18, 0] by decide +kernel] at o2
  obtain ⟨A1, c1, rfl, l1, _, _⟩ := o1.form
  obtain ⟨A2, c2, rfl, l2, _, _⟩ := o2.form
  have B1 := Lib.hid (below_then (below_alloc w _) b1)
  have L1 := Lib.hid l1
  have L2 := Lib.hid l2
  clear o1 o2 b1 l1 l2
  go_wp2_with fail
  refine (ints_any A1 _ [0, 1, 1, 2, 1, 1, 0] [0, 1, 1, 2, 1, 1, 0] c1 _ _ (L1.out.up (below_alloc _ _)) (Lies.litUp #[.int .i64 0, .int .i64 1, .int .i64 1, .int .i64 2, .int .i64 1, .int .i64 1, .int .i64 0]) (by decide) (by decide)).mono ?_
  rintro e w2 ⟨rfl, b2⟩
  rw [show decide ([0, 1, 1, 2, 1, 1, 0] = ([0, 1, 1, 2, 1, 1, 0] : List Int)) = true by decide +kernel]
  have B2 := Lib.hid (below_then B1.out (below_then (below_alloc _ _) b2))
  have K2 := Lib.hid ((L2.out.up (below_alloc _ _)).up b2)
  clear b2
  go_wp2_with fail
  refine (ints_any A2 _ [17, 1, 1, 3, 1, 18, 0] [17, 1, 1, 3, 1, 18, 0] c2 _ _ (K2.out.up (below_alloc _ _)) (Lies.litUp #[.int .i64 17, .int .i64 1, .int .i64 1, .int .i64 3, .int .i64 1, .int .i64 18, .int .i64 0]) (by decide) (by decide)).mono ?_
  rintro e w3 ⟨rfl, b3⟩
  rw [show decide ([17, 1, 1, 3, 1, 18, 0] = ([17, 1, 1, 3, 1, 18, 0] : List Int)) = true by decide +kernel]
  have B3 := Lib.hid (below_then B2.out (below_then (below_alloc _ _) b3))
  clear b3
  go_wp2_with fail
  refine (pnext_any 1 1 w3).mono ?_
  rintro e wq ⟨rfl, rfl⟩
  rw [show nextL 1 1 = 3 by decide +kernel]
  go_wp2_with fail
  refine (pnext_any 1 0 w3).mono ?_
  rintro e wq ⟨rfl, rfl⟩
  rw [show nextL 1 0 = 2 by decide +kernel]
  go_wp2_with fail
  refine (pnext_any 126 0 w3).mono ?_
  rintro e wq ⟨rfl, rfl⟩
  rw [show nextL 126 0 = -1 by decide +kernel]
  go_wp2_with fail
  refine (depth_any _ [16, 14, 18, 20] _ 0 _ (HT.out.below (B3.out.alloc B3.out.size _) hbig) (Lies.litUp #[.int .i64 16, .int .i64 14, .int .i64 18, .int .i64 20]) (by decide) (by decide)).mono ?_
  rintro e w4 ⟨rfl, b4⟩
  rw [show dep [16, 14, 18, 20] 0 = 3 by decide +kernel]
  have B4 := Lib.hid (below_then B3.out (below_then (below_alloc _ _) b4))
  clear b4
  go_wp2
  go_ret
  exact ⟨rfl, B4.out⟩
end Go.Proofs.YtihphfbgihbkfaaDoor
