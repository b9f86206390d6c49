/- Layer 10: the program's Side, Sides, bracket (printed by tools/gen/gen_brf.py). -/
import Derived.Test.YtoiolgpbecgfkaaBrA
import Derived.Test.YtoiolgpbecgfkaaPrB
namespace Go.Proofs.Ytoiolgpbecgfkaa
open Go.RowKit

theorem bside_q (k : Int) (w : World) : Calls Try.prog 14 #[.int .i64 k] w fun e w' => e = .returned (.int .i64 (sdB k)) ∧ w = w' := by
  obtain ⟨z, hz⟩ : ∃ z, sdB k = z := ⟨_, rfl⟩
  have HZ := Lib.hid hz
  rw [hz]
  clear hz
  rcases e0 : (k == 0) with _ | _
  · rcases e1 : (k == 1) with _ | _
    · rcases e3 : (k == 3) with _ | _
      · rcases e6 : (k == 6) with _ | _
        · have HF : Hid (z = -1) := Lib.hid (by rw [← HZ.out, sdB, if_neg (by simpa using e0), if_neg (by simp at e1 e3 e6; omega)])
          go_enter Try.func14, Try.ntmps14
          go_wp2
          go_ret
          exact ⟨ret_int HF.out.symm, rfl⟩
        · have HF : Hid (z = 1) := Lib.hid (by rw [← HZ.out, sdB, if_neg (by simpa using e0), if_pos (by simp at e1 e3 e6; omega)])
          go_enter Try.func14, Try.ntmps14
          go_wp2
          go_ret
          exact ⟨ret_int HF.out.symm, rfl⟩
      · have HF : Hid (z = 1) := Lib.hid (by rw [← HZ.out, sdB, if_neg (by simpa using e0), if_pos (by simp at e1 e3; omega)])
        go_enter Try.func14, Try.ntmps14
        go_wp2
        go_ret
        exact ⟨ret_int HF.out.symm, rfl⟩
    · have HF : Hid (z = 1) := Lib.hid (by rw [← HZ.out, sdB, if_neg (by simpa using e0), if_pos (by simp at e1; omega)])
      go_enter Try.func14, Try.ntmps14
      go_wp2
      go_ret
      exact ⟨ret_int HF.out.symm, rfl⟩
  · have HF : Hid (z = 0) := Lib.hid (by rw [← HZ.out, sdB, if_pos (by simpa using e0)])
    go_enter Try.func14, Try.ntmps14
    go_wp2
    go_ret
    exact ⟨ret_int HF.out.symm, rfl⟩
theorem bside_any (k : Int) (w : World) : Calls Try.prog 14 #[.int .i64 k] w fun e w' => e = .returned (.int .i64 (sdB k)) ∧ Below w.heap.size w w' :=
  (bside_q k w).mono fun _ _ ⟨h1, h2⟩ => ⟨h1, h2 ▸ Below.refl _ _⟩

theorem bracket_any (c k : Int) (w : World) : Calls Try.prog 21 #[.int .i64 c, .int .i64 k] w fun e w' =>
    e = .returned (.tuple #[.int .i64 (if k = 13 then (oth c).1 else 0), .bool (decide (k = 13) && (oth c).2.1), .bool (decide (k = 13) && (oth c).2.2)]) ∧ Below w.heap.size w w' := by
  rcases h13 : (k != 13) with _ | _
  · have hk : k = 13 := by simpa using h13
    rw [if_pos hk, decide_eq_true hk, Bool.true_and, Bool.true_and]
    clear hk
    obtain ⟨⟨o, op, ok⟩, hoth⟩ : ∃ z, oth c = z := ⟨_, rfl⟩
    have HOT := Lib.hid hoth
    rw [hoth]
    clear hoth
    go_enter Try.func21, Try.ntmps21
    go_wp2_with fail
    refine (other_any c w).mono ?_
    rintro e w1 ⟨rfl, b1⟩
    rw [HOT.out]
    have B1 := Lib.hid b1
    clear b1
    go_wp2_with fail
    go_ret3
    exact ⟨rfl, B1.out⟩
  · have hk : ¬ k = 13 := by simpa using h13
    rw [if_neg hk, decide_eq_false hk, Bool.false_and, Bool.false_and]
    clear hk
    go_enter Try.func21, Try.ntmps21
    go_wp2_with fail
    go_ret3
    exact ⟨rfl, Below.refl _ _⟩

set_option maxHeartbeats 4000000 in
theorem bsides_any (A : Option Addr) (l : List Int) (c : Nat) (f t : Int) (w : World) (h : Lies w w.heap.size A (ints .i64 l)) (hl : l.length ≤ 1000) (hf : -9223372036854775808 ≤ f ∧ f ≤ 9223372036854775807) (_ : -9223372036854775808 ≤ t ∧ t ≤ 9223372036854775807) :
    Calls Try.prog 9 #[.slice A l.length c, .int .i64 f, .int .i64 t] w fun e w' => e = .returned (.tuple #[.bool (hasL l f t), .bool (hasR l f t)]) ∧ Below w.heap.size w w' := by
  have H := Lib.hid h
  obtain ⟨z0, hz0⟩ : ∃ z, hasL l f t = z := ⟨_, rfl⟩
  obtain ⟨z1, hz1⟩ : ∃ z, hasR l f t = z := ⟨_, rfl⟩
  have Z0 := Lib.hid hz0
  have Z1 := Lib.hid hz1
  rw [hz0, hz1]
  obtain ⟨a, ha⟩ : ∃ a, lowB f = a := ⟨_, rfl⟩
  have HA := Lib.hid ha
  have haf : (a : Int) = max 0 f := by rw [← ha, lowB]; omega
  clear h hz0 hz1 ha
  rcases Decidable.em (f < 0) with h1 | h1
  · rcases Decidable.em ((l.length : Int) < t) with h2 | h2
    · have TT := trivial
      go_enter Try.func9, Try.ntmps9
      go_wp2_with fail
      go_loopw [8, 6, 7] (fun iv lv rv wr => ∃ i : Nat, (a = i ∨ i ≤ highB l t) ∧ a ≤ i ∧ iv = .int .i64 i ∧ lv = .bool (hasS 0 l a i) ∧ rv = .bool (hasS 1 l a i) ∧ wr = w) (fun iv _ _ _ => l.length - (intOf iv).toNat)
      case atStart => exact ⟨a, .inl rfl, Nat.le_refl _, by rw [show (a : Int) = 0 by omega], by rw [hasS_begin], by rw [hasS_begin], rfl⟩
      case round =>
        obtain ⟨i, hi, hia, rfl, rfl, rfl, rfl⟩ := hrel
        obtain ⟨lb, hlb⟩ : ∃ z, hasS 0 l a i = z := ⟨_, rfl⟩
        obtain ⟨rb, hrb⟩ : ∃ z, hasS 1 l a i = z := ⟨_, rfl⟩
        rw [hlb, hrb]
        have HLB := Lib.hid hlb
        have HRB := Lib.hid hrb
        clear hlb hrb
        by_cases hlt : (i : Int) < (l.length : Int)
        · have hil : i < l.length := by omega
          obtain ⟨p, hp, _, hc⟩ := H.out.int hil
          subst hp
          obtain ⟨x, hx⟩ : ∃ x, l[i] = x := ⟨_, rfl⟩
          rw [hx] at hc
          have HX := Lib.hid hx
          have HL := Lib.hid (hasS_next 0 l a i hia hil)
          have HR := Lib.hid (hasS_next 1 l a i hia hil)
          have b0 : (0 : Int) ≤ (i : Int) := by omega
          have b1 : (i : Int) < (l.length : Int) := by omega
          have hdd : decide ((i : Int) < (l.length : Int)) = true := by simpa using hlt
          clear hx
          obtain ⟨s, hs⟩ : ∃ s, sdB x = s := ⟨_, rfl⟩
          have HS := Lib.hid hs
          clear hs
          go_wp2_with fail
          refine (bside_q x _).mono ?_
          rintro e wq ⟨rfl, rfl⟩
          rw [HS.out]
          rcases h0 : (s == 0) with _ | _
          · rcases h1 : (s == 1) with _ | _
            · go_wp2_with fail
              go_roundw
              case rel => exact ⟨i + 1, by first | exact .inr (by unfold highB; omega) | omega, by omega, by go_num, by rw [HL.out, HLB.out, HX.out, HS.out, h0, Bool.or_false], by rw [HR.out, HRB.out, HX.out, HS.out, h1, Bool.or_false], by first | rfl | trivial⟩
              case measure => simp [intOf]; omega
            · go_wp2_with fail
              go_roundw
              case rel => exact ⟨i + 1, by first | exact .inr (by unfold highB; omega) | omega, by omega, by go_num, by rw [HL.out, HLB.out, HX.out, HS.out, h0, Bool.or_false], by rw [HR.out, HRB.out, HX.out, HS.out, h1, Bool.or_true], by first | rfl | trivial⟩
              case measure => simp [intOf]; omega
          · have h1 : (s == 1) = false := by simp at h0 ⊢; omega
            go_wp2_with fail
            go_roundw
            case rel => exact ⟨i + 1, by first | exact .inr (by unfold highB; omega) | omega, by omega, by go_num, by rw [HL.out, HLB.out, HX.out, HS.out, h0, Bool.or_true], by rw [HR.out, HRB.out, HX.out, HS.out, h1, Bool.or_false], by first | rfl | trivial⟩
            case measure => simp [intOf]; omega
        · have hdd : decide ((i : Int) < (l.length : Int)) = false := by simpa using hlt
          have HEND : Hid (lb = z0 ∧ rb = z1) := Lib.hid (by
            rw [← HLB.out, ← HRB.out, ← Z0.out, ← Z1.out, hasL, hasR]
            by_cases hab : a ≤ highB l t
            · have : i = highB l t := by unfold highB at *; omega
              rw [this, HA.out]; exact ⟨rfl, rfl⟩
            · rw [hasS_none 0 l (by omega), hasS_none 1 l (by omega), hasS_none 0 l (by rw [HA.out]; omega), hasS_none 1 l (by rw [HA.out]; omega)]; exact ⟨rfl, rfl⟩)
          go_wp2_with fail
          go_ret2
          exact ⟨by rw [HEND.out.1, HEND.out.2]; rfl, Below.refl _ _⟩
    · have TT := trivial
      go_enter Try.func9, Try.ntmps9
      go_wp2_with fail
      go_loopw [8, 6, 7] (fun iv lv rv wr => ∃ i : Nat, (a = i ∨ i ≤ highB l t) ∧ a ≤ i ∧ iv = .int .i64 i ∧ lv = .bool (hasS 0 l a i) ∧ rv = .bool (hasS 1 l a i) ∧ wr = w) (fun iv _ _ _ => l.length - (intOf iv).toNat)
      case atStart => exact ⟨a, .inl rfl, Nat.le_refl _, by rw [show (a : Int) = 0 by omega], by rw [hasS_begin], by rw [hasS_begin], rfl⟩
      case round =>
        obtain ⟨i, hi, hia, rfl, rfl, rfl, rfl⟩ := hrel
        obtain ⟨lb, hlb⟩ : ∃ z, hasS 0 l a i = z := ⟨_, rfl⟩
        obtain ⟨rb, hrb⟩ : ∃ z, hasS 1 l a i = z := ⟨_, rfl⟩
        rw [hlb, hrb]
        have HLB := Lib.hid hlb
        have HRB := Lib.hid hrb
        clear hlb hrb
        by_cases hlt : (i : Int) < t
        · have hil : i < l.length := by omega
          obtain ⟨p, hp, _, hc⟩ := H.out.int hil
          subst hp
          obtain ⟨x, hx⟩ : ∃ x, l[i] = x := ⟨_, rfl⟩
          rw [hx] at hc
          have HX := Lib.hid hx
          have HL := Lib.hid (hasS_next 0 l a i hia hil)
          have HR := Lib.hid (hasS_next 1 l a i hia hil)
          have b0 : (0 : Int) ≤ (i : Int) := by omega
          have b1 : (i : Int) < (l.length : Int) := by omega
          have hdd : decide ((i : Int) < t) = true := by simpa using hlt
          clear hx
          obtain ⟨s, hs⟩ : ∃ s, sdB x = s := ⟨_, rfl⟩
          have HS := Lib.hid hs
          clear hs
          go_wp2_with fail
          refine (bside_q x _).mono ?_
          rintro e wq ⟨rfl, rfl⟩
          rw [HS.out]
          rcases h0 : (s == 0) with _ | _
          · rcases h1 : (s == 1) with _ | _
            · go_wp2_with fail
              go_roundw
              case rel => exact ⟨i + 1, by first | exact .inr (by unfold highB; omega) | omega, by omega, by go_num, by rw [HL.out, HLB.out, HX.out, HS.out, h0, Bool.or_false], by rw [HR.out, HRB.out, HX.out, HS.out, h1, Bool.or_false], by first | rfl | trivial⟩
              case measure => simp [intOf]; omega
            · go_wp2_with fail
              go_roundw
              case rel => exact ⟨i + 1, by first | exact .inr (by unfold highB; omega) | omega, by omega, by go_num, by rw [HL.out, HLB.out, HX.out, HS.out, h0, Bool.or_false], by rw [HR.out, HRB.out, HX.out, HS.out, h1, Bool.or_true], by first | rfl | trivial⟩
              case measure => simp [intOf]; omega
          · have h1 : (s == 1) = false := by simp at h0 ⊢; omega
            go_wp2_with fail
            go_roundw
            case rel => exact ⟨i + 1, by first | exact .inr (by unfold highB; omega) | omega, by omega, by go_num, by rw [HL.out, HLB.out, HX.out, HS.out, h0, Bool.or_true], by rw [HR.out, HRB.out, HX.out, HS.out, h1, Bool.or_false], by first | rfl | trivial⟩
            case measure => simp [intOf]; omega
        · have hdd : decide ((i : Int) < t) = false := by simpa using hlt
          have HEND : Hid (lb = z0 ∧ rb = z1) := Lib.hid (by
            rw [← HLB.out, ← HRB.out, ← Z0.out, ← Z1.out, hasL, hasR]
            by_cases hab : a ≤ highB l t
            · have : i = highB l t := by unfold highB at *; omega
              rw [this, HA.out]; exact ⟨rfl, rfl⟩
            · rw [hasS_none 0 l (by omega), hasS_none 1 l (by omega), hasS_none 0 l (by rw [HA.out]; omega), hasS_none 1 l (by rw [HA.out]; omega)]; exact ⟨rfl, rfl⟩)
          go_wp2_with fail
          go_ret2
          exact ⟨by rw [HEND.out.1, HEND.out.2]; rfl, Below.refl _ _⟩
  · rcases Decidable.em ((l.length : Int) < t) with h2 | h2
    · have TT := trivial
      go_enter Try.func9, Try.ntmps9
      go_wp2_with fail
      go_loopw [8, 6, 7] (fun iv lv rv wr => ∃ i : Nat, (a = i ∨ i ≤ highB l t) ∧ a ≤ i ∧ iv = .int .i64 i ∧ lv = .bool (hasS 0 l a i) ∧ rv = .bool (hasS 1 l a i) ∧ wr = w) (fun iv _ _ _ => l.length - (intOf iv).toNat)
      case atStart => exact ⟨a, .inl rfl, Nat.le_refl _, by rw [show (a : Int) = f by omega], by rw [hasS_begin], by rw [hasS_begin], rfl⟩
      case round =>
        obtain ⟨i, hi, hia, rfl, rfl, rfl, rfl⟩ := hrel
        obtain ⟨lb, hlb⟩ : ∃ z, hasS 0 l a i = z := ⟨_, rfl⟩
        obtain ⟨rb, hrb⟩ : ∃ z, hasS 1 l a i = z := ⟨_, rfl⟩
        rw [hlb, hrb]
        have HLB := Lib.hid hlb
        have HRB := Lib.hid hrb
        clear hlb hrb
        by_cases hlt : (i : Int) < (l.length : Int)
        · have hil : i < l.length := by omega
          obtain ⟨p, hp, _, hc⟩ := H.out.int hil
          subst hp
          obtain ⟨x, hx⟩ : ∃ x, l[i] = x := ⟨_, rfl⟩
          rw [hx] at hc
          have HX := Lib.hid hx
          have HL := Lib.hid (hasS_next 0 l a i hia hil)
          have HR := Lib.hid (hasS_next 1 l a i hia hil)
          have b0 : (0 : Int) ≤ (i : Int) := by omega
          have b1 : (i : Int) < (l.length : Int) := by omega
          have hdd : decide ((i : Int) < (l.length : Int)) = true := by simpa using hlt
          clear hx
          obtain ⟨s, hs⟩ : ∃ s, sdB x = s := ⟨_, rfl⟩
          have HS := Lib.hid hs
          clear hs
          go_wp2_with fail
          refine (bside_q x _).mono ?_
          rintro e wq ⟨rfl, rfl⟩
          rw [HS.out]
          rcases h0 : (s == 0) with _ | _
          · rcases h1 : (s == 1) with _ | _
            · go_wp2_with fail
              go_roundw
              case rel => exact ⟨i + 1, by first | exact .inr (by unfold highB; omega) | omega, by omega, by go_num, by rw [HL.out, HLB.out, HX.out, HS.out, h0, Bool.or_false], by rw [HR.out, HRB.out, HX.out, HS.out, h1, Bool.or_false], by first | rfl | trivial⟩
              case measure => simp [intOf]; omega
            · go_wp2_with fail
              go_roundw
              case rel => exact ⟨i + 1, by first | exact .inr (by unfold highB; omega) | omega, by omega, by go_num, by rw [HL.out, HLB.out, HX.out, HS.out, h0, Bool.or_false], by rw [HR.out, HRB.out, HX.out, HS.out, h1, Bool.or_true], by first | rfl | trivial⟩
              case measure => simp [intOf]; omega
          · have h1 : (s == 1) = false := by simp at h0 ⊢; omega
            go_wp2_with fail
            go_roundw
            case rel => exact ⟨i + 1, by first | exact .inr (by unfold highB; omega) | omega, by omega, by go_num, by rw [HL.out, HLB.out, HX.out, HS.out, h0, Bool.or_true], by rw [HR.out, HRB.out, HX.out, HS.out, h1, Bool.or_false], by first | rfl | trivial⟩
            case measure => simp [intOf]; omega
        · have hdd : decide ((i : Int) < (l.length : Int)) = false := by simpa using hlt
          have HEND : Hid (lb = z0 ∧ rb = z1) := Lib.hid (by
            rw [← HLB.out, ← HRB.out, ← Z0.out, ← Z1.out, hasL, hasR]
            by_cases hab : a ≤ highB l t
            · have : i = highB l t := by unfold highB at *; omega
              rw [this, HA.out]; exact ⟨rfl, rfl⟩
            · rw [hasS_none 0 l (by omega), hasS_none 1 l (by omega), hasS_none 0 l (by rw [HA.out]; omega), hasS_none 1 l (by rw [HA.out]; omega)]; exact ⟨rfl, rfl⟩)
          go_wp2_with fail
          go_ret2
          exact ⟨by rw [HEND.out.1, HEND.out.2]; rfl, Below.refl _ _⟩
    · have TT := trivial
      go_enter Try.func9, Try.ntmps9
      go_wp2_with fail
      go_loopw [8, 6, 7] (fun iv lv rv wr => ∃ i : Nat, (a = i ∨ i ≤ highB l t) ∧ a ≤ i ∧ iv = .int .i64 i ∧ lv = .bool (hasS 0 l a i) ∧ rv = .bool (hasS 1 l a i) ∧ wr = w) (fun iv _ _ _ => l.length - (intOf iv).toNat)
      case atStart => exact ⟨a, .inl rfl, Nat.le_refl _, by rw [show (a : Int) = f by omega], by rw [hasS_begin], by rw [hasS_begin], rfl⟩
      case round =>
        obtain ⟨i, hi, hia, rfl, rfl, rfl, rfl⟩ := hrel
        obtain ⟨lb, hlb⟩ : ∃ z, hasS 0 l a i = z := ⟨_, rfl⟩
        obtain ⟨rb, hrb⟩ : ∃ z, hasS 1 l a i = z := ⟨_, rfl⟩
        rw [hlb, hrb]
        have HLB := Lib.hid hlb
        have HRB := Lib.hid hrb
        clear hlb hrb
        by_cases hlt : (i : Int) < t
        · have hil : i < l.length := by omega
          obtain ⟨p, hp, _, hc⟩ := H.out.int hil
          subst hp
          obtain ⟨x, hx⟩ : ∃ x, l[i] = x := ⟨_, rfl⟩
          rw [hx] at hc
          have HX := Lib.hid hx
          have HL := Lib.hid (hasS_next 0 l a i hia hil)
          have HR := Lib.hid (hasS_next 1 l a i hia hil)
          have b0 : (0 : Int) ≤ (i : Int) := by omega
          have b1 : (i : Int) < (l.length : Int) := by omega
          have hdd : decide ((i : Int) < t) = true := by simpa using hlt
          clear hx
          obtain ⟨s, hs⟩ : ∃ s, sdB x = s := ⟨_, rfl⟩
          have HS := Lib.hid hs
          clear hs
          go_wp2_with fail
          refine (bside_q x _).mono ?_
          rintro e wq ⟨rfl, rfl⟩
          rw [HS.out]
          rcases h0 : (s == 0) with _ | _
          · rcases h1 : (s == 1) with _ | _
            · go_wp2_with fail
              go_roundw
              case rel => exact ⟨i + 1, by first | exact .inr (by unfold highB; omega) | omega, by omega, by go_num, by rw [HL.out, HLB.out, HX.out, HS.out, h0, Bool.or_false], by rw [HR.out, HRB.out, HX.out, HS.out, h1, Bool.or_false], by first | rfl | trivial⟩
              case measure => simp [intOf]; omega
            · go_wp2_with fail
              go_roundw
              case rel => exact ⟨i + 1, by first | exact .inr (by unfold highB; omega) | omega, by omega, by go_num, by rw [HL.out, HLB.out, HX.out, HS.out, h0, Bool.or_false], by rw [HR.out, HRB.out, HX.out, HS.out, h1, Bool.or_true], by first | rfl | trivial⟩
              case measure => simp [intOf]; omega
          · have h1 : (s == 1) = false := by simp at h0 ⊢; omega
            go_wp2_with fail
            go_roundw
            case rel => exact ⟨i + 1, by first | exact .inr (by unfold highB; omega) | omega, by omega, by go_num, by rw [HL.out, HLB.out, HX.out, HS.out, h0, Bool.or_true], by rw [HR.out, HRB.out, HX.out, HS.out, h1, Bool.or_false], by first | rfl | trivial⟩
            case measure => simp [intOf]; omega
        · have hdd : decide ((i : Int) < t) = false := by simpa using hlt
          have HEND : Hid (lb = z0 ∧ rb = z1) := Lib.hid (by
            rw [← HLB.out, ← HRB.out, ← Z0.out, ← Z1.out, hasL, hasR]
            by_cases hab : a ≤ highB l t
            · have : i = highB l t := by unfold highB at *; omega
              rw [this, HA.out]; exact ⟨rfl, rfl⟩
            · rw [hasS_none 0 l (by omega), hasS_none 1 l (by omega), hasS_none 0 l (by rw [HA.out]; omega), hasS_none 1 l (by rw [HA.out]; omega)]; exact ⟨rfl, rfl⟩)
          go_wp2_with fail
          go_ret2
          exact ⟨by rw [HEND.out.1, HEND.out.2]; rfl, Below.refl _ _⟩
end Go.Proofs.Ytoiolgpbecgfkaa
