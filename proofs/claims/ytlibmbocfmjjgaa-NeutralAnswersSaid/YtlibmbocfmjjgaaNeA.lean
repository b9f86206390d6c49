/- Layer 11: the document's end, side, Level, Levels. -/
import Derived.Test.YtlibmbocfmjjgaaNeM
import Derived.Test.YtlibmbocfmjjgaaReg
import Derived.Test.YtlibmbocfmjjgaaFill
namespace Go.Proofs.Ytlibmbocfmjjgaa
open Go.RowKit

theorem rend11_any (s : Int) (w : World) : Calls Try.prog 23 #[.int .i64 s] w fun e w' => e = .returned (.int .i64 (endK s)) ∧ w = w' := by
  rcases h : (s == 1) with _ | _
  · have hz : endK s = 0 := by rw [endK, if_neg (by simpa using h)]
    rw [hz]
    go_enter Try.func23, Try.ntmps23
    go_wp2
    go_ret
    exact ⟨rfl, rfl⟩
  · have hz : endK s = 1 := by rw [endK, if_pos (by simpa using h)]
    rw [hz]
    go_enter Try.func23, Try.ntmps23
    go_wp2
    go_ret
    exact ⟨rfl, rfl⟩
theorem rside11_any (k lev : Int) (w : World) : Calls Try.prog 24 #[.int .i64 k, .int .i64 lev] w fun e w' => e = .returned (.int .i64 (nSide lev k)) ∧ w = w' := by
  obtain ⟨z, hz⟩ : ∃ z, sdB k = z := ⟨_, rfl⟩
  have HZ := Lib.hid hz
  by_cases hs : z < 0
  · have hn : nSide lev k = dirL lev := by rw [nSide, hz, if_pos hs]
    have hd : decide (z < 0) = true := decide_eq_true hs
    rw [hn]
    clear hz hn
    go_enter Try.func24, Try.ntmps24
    go_wp2_with fail
    refine (rside10_any k w).mono ?_
    rintro e wq ⟨rfl, rfl⟩
    rw [HZ.out]
    go_wp2_with fail
    refine (rdir8_any lev w).mono ?_
    rintro e wq ⟨rfl, rfl⟩
    go_wp2
    go_ret
    exact ⟨rfl, rfl⟩
  · have hn : nSide lev k = z := by rw [nSide, hz, if_neg hs]
    have hd : decide (z < 0) = false := decide_eq_false hs
    rw [hn]
    clear hz hn
    go_enter Try.func24, Try.ntmps24
    go_wp2_with fail
    refine (rside10_any k w).mono ?_
    rintro e wq ⟨rfl, rfl⟩
    rw [HZ.out]
    go_wp2
    go_ret
    exact ⟨rfl, rfl⟩

theorem dir_even {lev : Int} (h : (Int.tmod lev 2 == 0) = true) : dirL lev = 0 := by rw [dirL, if_pos ((tmod_dir lev).1 (by simpa using h))]
theorem dir_odd {lev : Int} (h : (Int.tmod lev 2 == 0) = false) : dirL lev = 1 := by rw [dirL, if_neg (fun e => by rw [(tmod_dir lev).2 e] at h; simp at h)]
set_option maxHeartbeats 2000000 in
theorem rlevel11_any (k lev : Int) (w : World) : Calls Try.prog 17 #[.int .i64 k, .int .i64 lev] w fun e w' => e = .returned (.int .i64 (nLevelI k lev)) ∧ w = w' := by
  obtain ⟨z, hz⟩ : ∃ z, nLevelI k lev = z := ⟨_, rfl⟩
  rw [hz]
  rcases hev : (Int.tmod lev 2 == 0) with _ | _
  · have hne : (Int.tmod lev 2 != 0) = true := by rw [bne, hev]; rfl
    have hd := dir_odd hev
    rcases e0 : (k == 0) with _ | _
    · rcases e6 : (k == 6) with _ | _
      · rcases e3 : (k == 3) with _ | _
        · have HF : Hid (z = lev) := Lib.hid (by
            simp only [beq_eq_false_iff_ne] at e0 e3 e6
            rw [← hz, nLevelI, hd, if_neg (by omega), if_neg (by omega), if_neg (by omega)])
          clear hz hd
          go_enter Try.func17, Try.ntmps17
          go_wp2
          go_ret
          exact ⟨ret_int HF.out.symm, rfl⟩
        · have HF : Hid (z = wrap64 (lev + 1)) := Lib.hid (by
            simp only [beq_iff_eq] at e3
            rw [← hz, nLevelI, hd, if_neg (by omega), if_neg (by omega), if_pos (by omega)])
          clear hz hd
          go_enter Try.func17, Try.ntmps17
          go_wp2
          go_ret
          exact ⟨ret_int HF.out.symm, rfl⟩
      · have HF : Hid (z = wrap64 (lev + 1)) := Lib.hid (by
          simp only [beq_iff_eq] at e6
          rw [← hz, nLevelI, hd, if_neg (by omega), if_neg (by omega), if_pos (by omega)])
        clear hz hd
        go_enter Try.func17, Try.ntmps17
        go_wp2
        go_ret
        exact ⟨ret_int HF.out.symm, rfl⟩
    · have HF : Hid (z = wrap64 (lev + 1)) := Lib.hid (by
        simp only [beq_iff_eq] at e0
        rw [← hz, nLevelI, hd, if_neg (by omega), if_neg (by omega), if_pos (by omega)])
      clear hz hd
      obtain rfl : k = 0 := by simpa using e0
      go_enter Try.func17, Try.ntmps17
      go_wp2
      go_ret
      exact ⟨ret_int HF.out.symm, rfl⟩
  · have hne : (Int.tmod lev 2 != 0) = false := by rw [bne, hev]; rfl
    have hd := dir_even hev
    rcases e1 : (k == 1) with _ | _
    · rcases e6 : (k == 6) with _ | _
      · rcases e3 : (k == 3) with _ | _
        · have HF : Hid (z = lev) := Lib.hid (by
            simp only [beq_eq_false_iff_ne] at e1 e3 e6
            rw [← hz, nLevelI, hd, if_neg (by omega), if_neg (by omega), if_neg (by omega)])
          clear hz hd
          go_enter Try.func17, Try.ntmps17
          go_wp2
          go_ret
          exact ⟨ret_int HF.out.symm, rfl⟩
        · have HF : Hid (z = wrap64 (lev + 2)) := Lib.hid (by
            simp only [beq_iff_eq] at e3
            rw [← hz, nLevelI, hd, if_neg (by omega), if_pos (by omega)])
          clear hz hd
          go_enter Try.func17, Try.ntmps17
          go_wp2
          go_ret
          exact ⟨ret_int HF.out.symm, rfl⟩
      · have HF : Hid (z = wrap64 (lev + 2)) := Lib.hid (by
          simp only [beq_iff_eq] at e6
          rw [← hz, nLevelI, hd, if_neg (by omega), if_pos (by omega)])
        clear hz hd
        go_enter Try.func17, Try.ntmps17
        go_wp2
        go_ret
        exact ⟨ret_int HF.out.symm, rfl⟩
    · have HF : Hid (z = wrap64 (lev + 1)) := Lib.hid (by
        simp only [beq_iff_eq] at e1
        rw [← hz, nLevelI, hd, if_pos (by omega)])
      clear hz hd
      obtain rfl : k = 1 := by simpa using e1
      go_enter Try.func17, Try.ntmps17
      go_wp2
      go_ret
      exact ⟨ret_int HF.out.symm, rfl⟩

set_option maxHeartbeats 2000000 in
theorem rlevels11_any (A : Option Addr) (l : List Int) (c : Nat) (lev : Int) (w : World) (h : Lies w w.heap.size A (ints .i64 l)) (hl : l.length ≤ 1000000) :
    Calls Try.prog 15 #[.slice A l.length c, .int .i64 lev] w fun ed w' => Rowed w w.heap.size 3 (ints .i64 (nLevelsI l lev)) ed w' := by
  have H := Lib.hid h
  clear h
  go_enter Try.func15, Try.ntmps15
  go_wp2
  go_loopw [6, 5] (fun iv ov wr => ∃ k : Nat, k ≤ l.length ∧ iv = .int .i64 k ∧ Own wr w.heap.size 3 ov (ints .i64 (nLevelsI (l.take k) lev)) ∧ Below w.heap.size w wr) (fun iv _ _ => l.length - (intOf iv).toNat)
  case atStart => exact ⟨0, by omega, rfl, Own.empty _ _ _, Below.refl _ _⟩
  case round =>
    obtain ⟨k, hk, rfl, ho, hb⟩ := hrel
    have HO := Lib.hid ho
    have HB := Lib.hid hb
    clear ho hb
    by_cases hlt : k < l.length
    · obtain ⟨p, rfl, _, hcl⟩ := (H.out.below HB.out).int hlt
      obtain ⟨x, hx⟩ : ∃ x, l[k] = x := ⟨_, rfl⟩
      have HS : Hid (nLevelsI (l.take (k + 1)) lev = nLevelsI (l.take k) lev ++ [nLevelI x lev]) := Lib.hid (by rw [take_snoc l k hlt, hx, nLevelsI, List.map_append]; rfl)
      rw [hx] at hcl
      have b0 : (0 : Int) ≤ (k : Int) := by omega
      have b1 : (k : Int) < (l.length : Int) := by omega
      clear hx
      go_wp2_with fail
      refine (rlevel11_any x lev wr).mono ?_
      rintro e wq ⟨rfl, rfl⟩
      go_wp2_with (first
        | (at_builtin; refine app_lit intsT w wr w.heap.size _ _ #[.int .i64 (nLevelI x lev)] 1 _ _ rfl rfl rfl rfl HO.out (by simp [Value.oneCell']) HB.out HB.out.size (by unfold maxLen; simp [ints, nLevelsI]; omega) (by simp [ints, nLevelsI]; omega) ?_; intro v2 w2 o2 b2 _ _; have O2 := Lib.hid o2; have B2 := Lib.hid b2; clear o2 b2)
        | fail)
      go_roundw
      case rel => exact ⟨k + 1, by omega, by go_num, by rw [HS.out]; simpa [ints] using O2.out, B2.out⟩
      case measure => simp [intOf]; omega
    · obtain rfl : k = l.length := by omega
      go_wp2
      go_ret
      exact ⟨_, rfl, by have := HO.out; rw [List.take_length] at this; exact this, HB.out⟩
end Go.Proofs.Ytlibmbocfmjjgaa
