/- Layer 13, the program's: Right, Wrap, separates, white, within. -/
import Derived.Test.YtadfleopbpomfaaLnB
namespace Go.Proofs.Ytadfleopbpomfaa
open Go.RowKit

set_option maxHeartbeats 1000000 in
theorem nright13_ok (A : Option Addr) (l : List Int) (c : Nat) (n : Int) (w : World) (h : Lies w w.heap.size A (ints .i64 l)) (hl : l.length ≤ 1000000) :
    Calls Try.prog 12 #[.slice A l.length c, .int .i64 n] w fun ed w' => ed = .returned (.bool (rightI l n)) ∧ w = w' := by
  have H := Lib.hid h
  clear h
  go_enter Try.func12, Try.ntmps12
  go_wp2
  go_loopw [10, 5] (fun iv lv wr => ∃ k : Nat, k ≤ l.length ∧ iv = .int .i64 k ∧ lv = .int .i64 (lastB (l.take k) 0) ∧ Hid (risesFrom 0 (l.take k) = true) ∧ w = wr) (fun iv _ _ => l.length - (intOf iv).toNat)
  case atStart => exact ⟨0, by omega, rfl, rfl, Lib.hid rfl, rfl⟩
  case round =>
    obtain ⟨k, hk, rfl, rfl, HR, rfl⟩ := hrel
    obtain ⟨a, ha⟩ : ∃ a, lastB (l.take k) 0 = a := ⟨_, rfl⟩
    rw [ha]
    by_cases hlt : k < l.length
    · obtain ⟨p, rfl, _, hc⟩ := H.out.int hlt
      have HN := Lib.hid (rises_next l hlt)
      have HLN := Lib.hid (last_next l hlt)
      obtain ⟨x, hx⟩ : ∃ x, l[k] = x := ⟨_, rfl⟩
      rw [hx] at hc HN HLN
      rw [HR.out, ha, Bool.true_and] at HN
      have k0 : (0 : Int) ≤ (k : Int) := by omega
      have k1 : (k : Int) < (l.length : Int) := by omega
      clear hx ha
      rcases hxa : decide (x ≤ a) with _ | _
      · have HT : Hid (risesFrom 0 (l.take (k + 1)) = true) := Lib.hid (by rw [HN.out]; simp at hxa ⊢; omega)
        go_wp2
        go_roundw
        case rel => exact ⟨k + 1, by omega, by go_num, by rw [HLN.out], HT, by first | rfl | trivial⟩
        case measure => simp [intOf]; omega
      · have HF : Hid (rightI l n = false) := Lib.hid (by
          cases hr : risesFrom 0 l with
          | false => rw [rightI, hr]; rfl
          | true =>
            have := rises_take l 0 (k + 1) hr
            rw [HN.out] at this
            simp at hxa this
            omega)
        go_wp2
        go_ret
        exact ⟨ret_bool HF.out.symm, rfl⟩
    · obtain rfl : k = l.length := by omega
      rw [List.take_length] at HR ha
      have HF : Hid (rightI l n = (a == n)) := Lib.hid (by rw [rightI, HR.out, ha, Bool.true_and])
      clear ha
      go_wp2
      go_ret
      exact ⟨ret_bool HF.out.symm, rfl⟩
theorem nright13_any (A : Option Addr) (l : List Int) (c : Nat) (n : Int) (w : World) (h : Lies w w.heap.size A (ints .i64 l)) (hl : l.length ≤ 10000) :
    Calls Try.prog 12 #[.slice A l.length c, .int .i64 n] w fun ed w' => ed = .returned (.bool (rightI l n)) ∧ Below w.heap.size w w' :=
  (nright13_ok A l c n w h (by omega)).mono fun _ _ ⟨a, b⟩ => ⟨a, b ▸ Below.refl _ _⟩

theorem nseparates_any (k : Int) (w : World) : Calls Try.prog 30 #[.int .i64 k] w fun ed w' => ed = .returned (.bool (k == 11 || k == 10)) ∧ w = w' := by
  rcases h1 : (k == 11) with _ | _
  · rcases h2 : (k == 10) with _ | _
    · go_enter Try.func30, Try.ntmps30
      go_wp2
      go_ret
      exact ⟨rfl, rfl⟩
    · go_enter Try.func30, Try.ntmps30
      go_wp2
      go_ret
      exact ⟨rfl, rfl⟩
  · go_enter Try.func30, Try.ntmps30
    go_wp2
    go_ret
    exact ⟨rfl, rfl⟩

theorem nwhite_any (k : Int) (w : World) : Calls Try.prog 31 #[.int .i64 k] w fun ed w' => ed = .returned (.bool (lightK k)) ∧ Below w.heap.size w w' := by
  obtain ⟨z, hz⟩ : ∃ z, lightK k = z := ⟨_, rfl⟩
  have HZ := Lib.hid hz
  rw [hz]
  obtain ⟨p, hp⟩ : ∃ p, isOpens k = p := ⟨_, rfl⟩
  obtain ⟨o, ho⟩ : ∃ o, isOut k = o := ⟨_, rfl⟩
  have HP := Lib.hid hp
  have HO := Lib.hid ho
  clear hz hp ho
  rcases h12 : (k == 12) with _ | _
  · rcases h22 : (k == 22) with _ | _
    · cases p
      · have HF : Hid (o = z) := Lib.hid (by rw [← HZ.out, lightK, h12, HP.out, h22, HO.out]; rfl)
        go_enter Try.func31, Try.ntmps31
        go_wp2_with fail
        refine (opens_any k w).mono ?_
        rintro e w1 ⟨rfl, b1⟩
        have B1 := Lib.hid b1
        rw [HP.out]
        clear b1
        go_wp2_with fail
        refine (out_any k w1).mono ?_
        rintro e w2 ⟨rfl, b2⟩
        have B2 := Lib.hid (below_then B1.out b2)
        rw [HO.out]
        clear b2
        go_wp2
        go_ret
        exact ⟨ret_bool HF.out, B2.out⟩
      · have HF : Hid (true = z) := Lib.hid (by rw [← HZ.out, lightK, h12, HP.out, h22]; rfl)
        go_enter Try.func31, Try.ntmps31
        go_wp2_with fail
        refine (opens_any k w).mono ?_
        rintro e w1 ⟨rfl, b1⟩
        have B1 := Lib.hid b1
        rw [HP.out]
        clear b1
        go_wp2
        go_ret
        exact ⟨ret_bool HF.out, B1.out⟩
    · have HF : Hid (true = z) := Lib.hid (by rw [← HZ.out, lightK, h12, HP.out, h22]; cases p <;> rfl)
      go_enter Try.func31, Try.ntmps31
      go_wp2
      go_ret
      exact ⟨ret_bool HF.out, Below.refl _ _⟩
  · have HF : Hid (true = z) := Lib.hid (by rw [← HZ.out, lightK, h12]; rfl)
    go_enter Try.func31, Try.ntmps31
    go_wp2
    go_ret
    exact ⟨ret_bool HF.out, Below.refl _ _⟩

def withinL (F T n : Int) : Bool := decide (0 ≤ F) && (decide (F ≤ T) && decide (T ≤ n))
theorem nwithin_any (F T n : Int) (w : World) : Calls Try.prog 26 #[.agg #[.int .i64 F, .int .i64 T], .int .i64 n] w fun ed w' => ed = .returned (.bool (withinL F T n)) ∧ Below w.heap.size w w' := by
  obtain ⟨w0, hw0⟩ : ∃ u, w.alloc (.cells #[.int .i64 F, .int .i64 T] 29) = u := ⟨_, rfl⟩
  have B0 : Hid (Below w.heap.size w w0) := Lib.hid (hw0 ▸ below_alloc w _)
  have s0 : w0.cell? ⟨w.heap.size, 0, none⟩ = some (.int .i64 F) := hw0 ▸ boxed (Below.refl _ _) rfl
  have s1 : w0.cell? ⟨w.heap.size, 1, none⟩ = some (.int .i64 T) := hw0 ▸ boxed (Below.refl _ _) rfl
  have HW := Lib.hid hw0
  clear hw0
  have HV : Hid (withinL F T n = (decide (0 ≤ F) && (decide (F ≤ T) && decide (T ≤ n)))) := Lib.hid rfl
  go_enter Try.func26, Try.ntmps26
  go_upto_region 1 with fail
  rw [HW.out]
  rcases h1 : decide (0 ≤ F) with _ | _
  · go_wp2
    go_ret
    exact ⟨by rw [HV.out, h1]; rfl, B0.out⟩
  · rcases h2 : decide (F ≤ T) with _ | _
    · go_wp2
      go_ret
      exact ⟨by rw [HV.out, h1, h2]; rfl, B0.out⟩
    · rcases h3 : decide (T ≤ n) with _ | _
      · go_wp2
        go_ret
        exact ⟨by rw [HV.out, h1, h2, h3]; rfl, B0.out⟩
      · go_wp2
        go_ret
        exact ⟨by rw [HV.out, h1, h2, h3]; rfl, B0.out⟩
end Go.Proofs.Ytadfleopbpomfaa
