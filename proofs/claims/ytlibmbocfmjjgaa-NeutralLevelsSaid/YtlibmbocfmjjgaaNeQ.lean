/- Layer 11: the program's direction, side, Level, becomes, Levels. -/
import Derived.Test.YtlibmbocfmjjgaaNeC
import Derived.Test.YtlibmbocfmjjgaaSqDir
import Derived.Test.YtlibmbocfmjjgaaBrW
import Derived.Test.YtlibmbocfmjjgaaDel
namespace Go.Proofs.Ytlibmbocfmjjgaa
open Go.RowKit

theorem ndir_q (s : Int) (w : World) : Calls Try.prog 27 #[.int .i64 s] w fun e w' => e = .returned (.int .i64 (endK s)) ∧ w = w' := by
  rcases h : (s == 1) with _ | _
  · have hz : endK s = 0 := by rw [endK, if_neg (by simpa using h)]
    rw [hz]
    go_enter Try.func27, Try.ntmps27
    go_wp2
    go_ret
    exact ⟨rfl, rfl⟩
  · have hz : endK s = 1 := by rw [endK, if_pos (by simpa using h)]
    rw [hz]
    go_enter Try.func27, Try.ntmps27
    go_wp2
    go_ret
    exact ⟨rfl, rfl⟩
theorem nside_q (k e lev : Int) (he : dirL lev = e) (w : World) : Calls Try.prog 28 #[.int .i64 k, .int .i64 e] w fun ed w' => ed = .returned (.int .i64 (nSide lev k)) ∧ w = w' := by
  obtain ⟨z, hz⟩ : ∃ z, sdB k = z := ⟨_, rfl⟩
  obtain ⟨y, hy⟩ : ∃ y, nSide lev k = y := ⟨_, rfl⟩
  have HZ := Lib.hid hz
  have HR : Hid (z = 0 ∨ z = 1 ∨ z = -1) := Lib.hid (by rw [← hz, sdB]; split <;> first | omega | (split <;> omega))
  rw [hy]
  rcases e0 : (z == 0) with _ | _
  · rcases e1 : (z == 1) with _ | _
    · have HF : Hid (y = e) := Lib.hid (by
        have := HR.out
        simp at e0 e1
        rw [← hy, nSide, hz, if_pos (by omega), he])
      clear hz hy he
      go_enter Try.func28, Try.ntmps28
      go_wp2_with fail
      refine (bside_q k w).mono ?_
      rintro e wq ⟨rfl, rfl⟩
      rw [HZ.out]
      go_wp2
      go_ret
      exact ⟨ret_int HF.out.symm, rfl⟩
    · have HF : Hid (y = z) := Lib.hid (by
        simp at e1
        rw [← hy, nSide, hz, if_neg (by omega)])
      clear hz hy he
      go_enter Try.func28, Try.ntmps28
      go_wp2_with fail
      refine (bside_q k w).mono ?_
      rintro e wq ⟨rfl, rfl⟩
      rw [HZ.out]
      go_wp2
      go_ret
      exact ⟨ret_int HF.out.symm, rfl⟩
  · have HF : Hid (y = z) := Lib.hid (by
      simp at e0
      rw [← hy, nSide, hz, if_neg (by omega)])
    clear hz hy he
    go_enter Try.func28, Try.ntmps28
    go_wp2_with fail
    refine (bside_q k w).mono ?_
    rintro e wq ⟨rfl, rfl⟩
    rw [HZ.out]
    go_wp2
    go_ret
    exact ⟨ret_int HF.out.symm, rfl⟩
set_option maxHeartbeats 2000000 in
theorem nlevel_q (k lev : Int) (w : World) : Calls Try.prog 16 #[.int .i64 k, .int .i64 lev] w fun e w' => e = .returned (.int .i64 (nLevelI k lev)) ∧ w = w' := by
  obtain ⟨z, hz⟩ : ∃ z, nLevelI k lev = z := ⟨_, rfl⟩
  obtain ⟨d, hd⟩ : ∃ d, dirL lev = d := ⟨_, rfl⟩
  have HD := Lib.hid hd
  have HR : Hid (d = 0 ∨ d = 1) := Lib.hid (by rw [← hd, dirL]; split <;> omega)
  rw [hz]
  rw [nLevelI, hd] at hz
  have HZ := Lib.hid hz
  clear hz hd
  rcases ed : (d == 1) with _ | _
  · rcases e1 : (k == 1) with _ | _
    · rcases e6 : (k == 6) with _ | _
      · rcases e3 : (k == 3) with _ | _
        · go_enter Try.func16, Try.ntmps16
          go_wp2_with fail
          refine (sdir_q lev w).mono ?_
          rintro e wq ⟨rfl, rfl⟩
          rw [HD.out]
          go_wp2
          go_ret
          refine ⟨ret_int ?_, rfl⟩
          have h1 := HR.out
          have h2 := HZ.out
          simp at ed e1 e6 e3
          rw [← h2]
          (repeat' split) <;> first | rfl | omega
        · go_enter Try.func16, Try.ntmps16
          go_wp2_with fail
          refine (sdir_q lev w).mono ?_
          rintro e wq ⟨rfl, rfl⟩
          rw [HD.out]
          go_wp2
          go_ret
          refine ⟨ret_int ?_, rfl⟩
          have h1 := HR.out
          have h2 := HZ.out
          simp at ed e1 e6 e3
          rw [← h2]
          (repeat' split) <;> first | rfl | omega
      · go_enter Try.func16, Try.ntmps16
        go_wp2_with fail
        refine (sdir_q lev w).mono ?_
        rintro e wq ⟨rfl, rfl⟩
        rw [HD.out]
        go_wp2
        go_ret
        refine ⟨ret_int ?_, rfl⟩
        have h1 := HR.out
        have h2 := HZ.out
        simp at ed e1 e6
        rw [← h2]
        (repeat' split) <;> first | rfl | omega
    · go_enter Try.func16, Try.ntmps16
      go_wp2_with fail
      refine (sdir_q lev w).mono ?_
      rintro e wq ⟨rfl, rfl⟩
      rw [HD.out]
      go_wp2
      go_ret
      refine ⟨ret_int ?_, rfl⟩
      have h1 := HR.out
      have h2 := HZ.out
      simp at ed e1
      rw [← h2]
      (repeat' split) <;> first | rfl | omega
  · rcases e0 : (k == 0) with _ | _
    · rcases e6 : (k == 6) with _ | _
      · rcases e3 : (k == 3) with _ | _
        · go_enter Try.func16, Try.ntmps16
          go_wp2_with fail
          refine (sdir_q lev w).mono ?_
          rintro e wq ⟨rfl, rfl⟩
          rw [HD.out]
          go_wp2
          go_ret
          refine ⟨ret_int ?_, rfl⟩
          have h1 := HR.out
          have h2 := HZ.out
          simp at ed e0 e6 e3
          rw [← h2]
          (repeat' split) <;> first | rfl | omega
        · go_enter Try.func16, Try.ntmps16
          go_wp2_with fail
          refine (sdir_q lev w).mono ?_
          rintro e wq ⟨rfl, rfl⟩
          rw [HD.out]
          go_wp2
          go_ret
          refine ⟨ret_int ?_, rfl⟩
          have h1 := HR.out
          have h2 := HZ.out
          simp at ed e0 e6 e3
          rw [← h2]
          (repeat' split) <;> first | rfl | omega
      · go_enter Try.func16, Try.ntmps16
        go_wp2_with fail
        refine (sdir_q lev w).mono ?_
        rintro e wq ⟨rfl, rfl⟩
        rw [HD.out]
        go_wp2
        go_ret
        refine ⟨ret_int ?_, rfl⟩
        have h1 := HR.out
        have h2 := HZ.out
        simp at ed e0 e6
        rw [← h2]
        (repeat' split) <;> first | rfl | omega
    · go_enter Try.func16, Try.ntmps16
      go_wp2_with fail
      refine (sdir_q lev w).mono ?_
      rintro e wq ⟨rfl, rfl⟩
      rw [HD.out]
      go_wp2
      go_ret
      refine ⟨ret_int ?_, rfl⟩
      have h1 := HR.out
      have h2 := HZ.out
      simp at ed e0
      rw [← h2]
      (repeat' split) <;> first | rfl | omega
theorem nlevel_any (k lev : Int) (w : World) :
    Calls Try.prog 16 #[.int .i64 k, .int .i64 lev] w fun ed w' => ed = .returned (.int .i64 (nLevelI k lev)) ∧ Below w.heap.size w w' :=
  (nlevel_q k lev w).mono fun _ _ ⟨h1, h2⟩ => ⟨h1, h2 ▸ Below.refl _ _⟩

set_option maxHeartbeats 2000000 in
theorem nlevels_any (A : Option Addr) (l : List Int) (c : Nat) (lev : Int) (w : World) (h : Lies w w.heap.size A (ints .i64 l)) (hl : l.length ≤ 1000) :
    Calls Try.prog 14 #[.slice A l.length c, .int .i64 lev] w fun ed w' => Rowed w w.heap.size 3 (ints .i64 (nLevelsI l lev)) ed w' := by
  have H := Lib.hid h
  clear h
  have hmk := run_make_row' (P := Try.prog) 22 3 (.int .i64 0) 8 intsT.slice intsT.elem rfl .i64 .i64 l.length (by omega) (by omega)
  go_enter Try.func14, Try.ntmps14
  go_wp2
  go_loopw [13] (fun i wr => ∃ (k : Nat) (c' : Array Value), k ≤ l.length ∧ i = .int .i64 k ∧ Hid (c'.toList = ints .i64 (nLevelsI (l.take k) lev) ++ List.replicate (l.length - k) (.int .i64 0)) ∧ wr = w.alloc (.cells c' 3)) (fun i _ => l.length - (intOf i).toNat)
  case atStart => exact ⟨0, _, by omega, rfl, fill_start _ _, rfl⟩
  case round =>
    obtain ⟨k, c', hk, rfl, HC, rfl⟩ := hrel
    have HS : Hid (c'.size = l.length) := by
      show c'.size = l.length
      have := congrArg List.length HC.out
      simp [ints, nLevelsI] at this
      omega
    by_cases hlt : k < l.length
    · obtain ⟨p, rfl, hpb, hc⟩ := H.out.int hlt
      have b0 : (0 : Int) ≤ (k : Int) := by omega
      have b1 : (k : Int) < (l.length : Int) := by omega
      have hcc : (w.alloc (.cells c' 3)).cell? (p.add k) = some (.int .i64 l[k]) := by rw [World.cell?_alloc_lt w _ _ (by rw [add_block]; exact hpb)]; exact hc
      have hks : k < c'.size := by rw [HS.out]; exact hlt
      go_wp2_with (go_at_call 16; refine (nlevel_q _ _ _).mono ?_; rintro e w' ⟨rfl, rfl⟩)
      go_roundw
      case rel =>
        refine ⟨k + 1, _, by omega, by go_num, ?_, rfl⟩
        have := fill_step (v := .int .i64 (nLevelI l[k] lev)) HC.out (by simp [nLevelsI]; omega) hlt
        show Array.toList _ = _
        rw [this, List.take_succ_eq_append_getElem hlt]
        simp only [ints, nLevelsI, List.map_append, List.map_cons, List.map_nil]
      case measure => simp [intOf]; omega
    · go_wp2
      go_ret
      have hcl : c'.toList = ints .i64 (nLevelsI l lev) := by
        rw [HC.out, List.take_of_length_le (by omega), show l.length - k = 0 by omega]; simp
      refine rowed_ret ?_ (below_alloc _ _) hcl
      have := Own.ofLit (w := w) (B := w.heap.size) (e := 3) c' (Nat.le_refl _) (by rw [HS.out]; unfold maxLen; omega)
      rw [HS.out] at this
      exact this

set_option maxRecDepth 20000 in
set_option maxHeartbeats 4000000 in
theorem nbecomes_any (A : Option Addr) (l : List Int) (c a b : Nat) (lev e sos eos : Int) (w : World) (h : Lies w w.heap.size A (ints .i64 l)) (har : Around l a b) (hl : l.length ≤ 1000000) (he : dirL lev = e) :
    Calls Try.prog 21 #[.slice A l.length c, .agg #[.int .i64 a, .int .i64 b], .int .i64 e, .int .i64 sos, .int .i64 eos] w fun ed w' => ed = .returned (.int .i64 (grpTo l lev sos eos a b)) ∧ Below w.heap.size w w' := by
  have HE := Lib.hid he
  obtain ⟨X, hX⟩ : ∃ X, (if 0 < a then nSide lev (l.getD (a - 1) 0) else endK sos) = X := ⟨_, rfl⟩
  obtain ⟨Y, hY⟩ : ∃ Y, (if b < l.length then nSide lev (l.getD b 0) else endK eos) = Y := ⟨_, rfl⟩
  obtain ⟨T, hT⟩ : ∃ T, grpTo l lev sos eos a b = T := ⟨_, rfl⟩
  have HGT : Hid (T = if X = Y then X else e) := Lib.hid (by rw [← hT, grpTo, hX, hY, he])
  rw [hT]
  have HX := Lib.hid hX
  have HY := Lib.hid hY
  have hbl := har.le
  have hal := har.lt
  have hlb := har.le
  have HH := Lib.hid h
  clear hX hY he har h hT
  go_enter Try.func21, Try.ntmps21
  go_wp2_with fail
  obtain ⟨wa, hwa⟩ : ∃ u, w.alloc (.cells #[.int .i64 (a : Int), .int .i64 (b : Int)] 38) = u := ⟨_, rfl⟩
  rw [hwa]
  have z0 : wa.cell? ⟨w.heap.size, 0, none⟩ = some (.int .i64 (a : Int)) := boxed (w := w) (cs := #[.int .i64 (a : Int), .int .i64 (b : Int)]) (e := 38) (by rw [hwa]; exact Below.refl _ _) rfl
  have z1 : wa.cell? ⟨w.heap.size, 1, none⟩ = some (.int .i64 (b : Int)) := boxed (w := w) (cs := #[.int .i64 (a : Int), .int .i64 (b : Int)]) (e := 38) (by rw [hwa]; exact Below.refl _ _) rfl
  have HB : Hid (Below w.heap.size w wa) := Lib.hid (hwa ▸ below_alloc _ _)
  have H : Hid (Lies wa wa.heap.size A (ints .i64 l)) := Lib.hid (HH.out.up HB.out)
  clear hwa
  refine (ndir_q sos wa).mono ?_
  rintro ed wq ⟨rfl, rfl⟩
  go_wp2_with fail
  refine (ndir_q eos wa).mono ?_
  rintro e wq ⟨rfl, rfl⟩
  go_upto_if 19 with fail
  go_cut [11] (fun v wx => v = .int .i64 X ∧ wa = wx)
  case first =>
    rcases a with _ | m
    · have hi : Hid (endK sos = X) := Lib.hid (by have := HX.out; rw [if_neg (by omega)] at this; exact this)
      go_wp2_with fail
      go_meet
      exact ⟨by rw [hi.out], rfl⟩
    · have hml : m < l.length := by omega
      obtain ⟨p, hp, _, hc⟩ := H.out.int hml
      subst hp
      have hi : Hid (nSide lev l[m] = X) := Lib.hid (by have := HX.out; rw [if_pos (by omega), Nat.add_sub_cancel, getD_at hml] at this; exact this)
      obtain ⟨x, hx⟩ : ∃ x, l[m] = x := ⟨_, rfl⟩
      rw [hx] at hc hi
      have m0 : (0 : Int) ≤ (m : Int) := by omega
      have m1 : (m : Int) < (l.length : Int) := by omega
      have m2 : (0 : Int) < (m : Int) + 1 := by omega
      clear hx
      go_wp2_with fail
      refine (nside_q x e lev HE.out wa).mono ?_
      rintro e wq ⟨rfl, rfl⟩
      rw [hi.out]
      go_wp2_with fail
      go_meet
      exact ⟨rfl, rfl⟩
  case rest =>
    obtain ⟨rfl, rfl⟩ := hcut
    go_upto_if 32 with fail
    go_cut [12] (fun v wx => v = .int .i64 Y ∧ wa = wx)
    case first =>
      by_cases hbn : b < l.length
      · obtain ⟨p, hp, _, hc⟩ := H.out.int hbn
        subst hp
        have hi : Hid (nSide lev l[b] = Y) := Lib.hid (by have := HY.out; rw [if_pos hbn, getD_at hbn] at this; exact this)
        obtain ⟨x, hx⟩ : ∃ x, l[b] = x := ⟨_, rfl⟩
        rw [hx] at hc hi
        have m0 : (0 : Int) ≤ (b : Int) := by omega
        have m1 : (b : Int) < (l.length : Int) := by omega
        clear hx
        go_wp2_with fail
        refine (nside_q x e lev HE.out wa).mono ?_
        rintro e wq ⟨rfl, rfl⟩
        rw [hi.out]
        go_wp2_with fail
        go_meet
        exact ⟨rfl, rfl⟩
      · have hi : Hid (endK eos = Y) := Lib.hid (by have := HY.out; rw [if_neg hbn] at this; exact this)
        have m1 : ¬ (b : Int) < (l.length : Int) := by omega
        go_wp2_with fail
        go_meet
        exact ⟨by rw [hi.out], rfl⟩
    case rest =>
      obtain ⟨rfl, rfl⟩ := hcut
      rcases hxy : (X == Y) with _ | _
      · have hi : Hid (e = T) := Lib.hid (by have := HGT.out; rw [if_neg (by simpa using hxy)] at this; exact this.symm)
        go_wp2_with fail
        go_ret
        exact ⟨ret_int hi.out, HB.out⟩
      · have hi : Hid (X = T) := Lib.hid (by have := HGT.out; rw [if_pos (by simpa using hxy)] at this; exact this.symm)
        go_wp2_with fail
        go_ret
        exact ⟨ret_int hi.out, HB.out⟩
end Go.Proofs.Ytlibmbocfmjjgaa
