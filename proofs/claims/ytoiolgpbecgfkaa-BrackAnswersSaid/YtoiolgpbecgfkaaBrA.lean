/- Layer 10: the document's Side, Sides. -/
import Derived.Test.YtoiolgpbecgfkaaInts
import Derived.Test.YtoiolgpbecgfkaaSame
import Derived.Test.YtoiolgpbecgfkaaHeld
import Derived.Test.YtoiolgpbecgfkaaSlc
namespace Go.Proofs.Ytoiolgpbecgfkaa
open Go.RowKit

/-- a class's side; -1: none -/
def sdB (k : Int) : Int := if k = 0 then 0 else if k = 1 ∨ k = 3 ∨ k = 6 then 1 else -1
theorem rside10_any (k : Int) (w : World) : Calls Try.prog 15 #[.int .i64 k] w fun e w' => e = .returned (.int .i64 (sdB k)) ∧ w = w' := by
  obtain ⟨z, hz⟩ : ∃ z, sdB k = z := ⟨_, rfl⟩
  have HZ := Lib.hid hz
  rw [hz]
  clear hz
  rcases e0 : (k == 0) with _ | _
  · rcases e1 : (k == 1) with _ | _
    · rcases e3 : (k == 3) with _ | _
      · rcases e6 : (k == 6) with _ | _
        · have HF : Hid (z = -1) := Lib.hid (by rw [← HZ.out, sdB, if_neg (by simpa using e0), if_neg (by simp at e1 e3 e6; omega)])
          go_enter Try.func15, Try.ntmps15
          go_wp2
          go_ret
          exact ⟨ret_int HF.out.symm, rfl⟩
        · have HF : Hid (z = 1) := Lib.hid (by rw [← HZ.out, sdB, if_neg (by simpa using e0), if_pos (by simp at e1 e3 e6; omega)])
          go_enter Try.func15, Try.ntmps15
          go_wp2
          go_ret
          exact ⟨ret_int HF.out.symm, rfl⟩
      · have HF : Hid (z = 1) := Lib.hid (by rw [← HZ.out, sdB, if_neg (by simpa using e0), if_pos (by simp at e1 e3; omega)])
        go_enter Try.func15, Try.ntmps15
        go_wp2
        go_ret
        exact ⟨ret_int HF.out.symm, rfl⟩
    · have HF : Hid (z = 1) := Lib.hid (by rw [← HZ.out, sdB, if_neg (by simpa using e0), if_pos (by simp at e1; omega)])
      go_enter Try.func15, Try.ntmps15
      go_wp2
      go_ret
      exact ⟨ret_int HF.out.symm, rfl⟩
  · have HF : Hid (z = 0) := Lib.hid (by rw [← HZ.out, sdB, if_pos (by simpa using e0)])
    go_enter Try.func15, Try.ntmps15
    go_wp2
    go_ret
    exact ⟨ret_int HF.out.symm, rfl⟩

/-- has one of the places from a up to b the side s? -/
def hasS (s : Int) (l : List Int) (a b : Nat) : Bool := ((l.take b).drop a).any fun c => sdB c == s
theorem hasS_begin (s : Int) (l : List Int) (a : Nat) : hasS s l a a = false := by
  unfold hasS
  rw [List.drop_of_length_le (by simp; omega)]; rfl
theorem hasS_none (s : Int) (l : List Int) {a b : Nat} (h : b ≤ a) : hasS s l a b = false := by
  unfold hasS
  rw [List.drop_of_length_le (by simp; omega)]; rfl
theorem hasS_next (s : Int) (l : List Int) (a b : Nat) (h : a ≤ b) (hb : b < l.length) : hasS s l a (b + 1) = (hasS s l a b || sdB l[b] == s) := by
  unfold hasS
  rw [List.take_succ_eq_append_getElem hb, List.drop_append_of_le_length (by simp; omega), List.any_append]
  simp
/-- which sides there are: L, R -/
def lowB (f : Int) : Nat := (max 0 f).toNat
def highB (l : List Int) (t : Int) : Nat := (min t l.length).toNat
def hasL (l : List Int) (f t : Int) : Bool := hasS 0 l (lowB f) (highB l t)
def hasR (l : List Int) (f t : Int) : Bool := hasS 1 l (lowB f) (highB l t)

set_option maxHeartbeats 4000000 in
theorem rsides10_any (A : Option Addr) (l : List Int) (c : Nat) (f t : Int) (w : World) (h : Lies w w.heap.size A (ints .i64 l)) (hl : l.length ≤ 1000000) (hf : -9223372036854775808 ≤ f ∧ f ≤ 9223372036854775807) :
    Calls Try.prog 10 #[.slice A l.length c, .int .i64 f, .int .i64 t] w fun e w' => e = .returned (.tuple #[.bool (hasL l f t), .bool (hasR l f t)]) ∧ w = w' := by
  have H := Lib.hid h
  obtain ⟨z0, hz0⟩ : ∃ z, hasL l f t = z := ⟨_, rfl⟩
  obtain ⟨z1, hz1⟩ : ∃ z, hasR l f t = z := ⟨_, rfl⟩
  have Z0 := Lib.hid hz0
  have Z1 := Lib.hid hz1
  rw [hz0, hz1]
  obtain ⟨a, ha⟩ : ∃ a, lowB f = a := ⟨_, rfl⟩
  have HA := Lib.hid ha
  have haf : (a : Int) = max 0 f := by rw [← ha, lowB]; omega
  clear h hz0 hz1 ha
  rcases Decidable.em (0 < f) with h1 | h1
  · rcases Decidable.em ((l.length : Int) < t) with h2 | h2
    · have TT := trivial
      go_enter Try.func10, Try.ntmps10
      go_wp2_with fail
      go_loopw [10, 8, 9] (fun iv lv rv wr => ∃ i : Nat, (a = i ∨ i ≤ highB l t) ∧ a ≤ i ∧ iv = .int .i64 i ∧ lv = .bool (hasS 0 l a i) ∧ rv = .bool (hasS 1 l a i) ∧ wr = w) (fun iv _ _ _ => l.length - (intOf iv).toNat)
      case atStart => exact ⟨a, .inl rfl, Nat.le_refl _, by rw [show (a : Int) = f by omega], by rw [hasS_begin], by rw [hasS_begin], rfl⟩
      case round =>
        obtain ⟨i, hi, hia, rfl, rfl, rfl, rfl⟩ := hrel
        obtain ⟨lb, hlb⟩ : ∃ z, hasS 0 l a i = z := ⟨_, rfl⟩
        obtain ⟨rb, hrb⟩ : ∃ z, hasS 1 l a i = z := ⟨_, rfl⟩
        rw [hlb, hrb]
        have HLB := Lib.hid hlb
        have HRB := Lib.hid hrb
        clear hlb hrb
        by_cases hlt : (i : Int) < (l.length : Int)
        · have hil : i < l.length := by omega
          obtain ⟨p, hp, _, hc⟩ := H.out.int hil
          subst hp
          obtain ⟨x, hx⟩ : ∃ x, l[i] = x := ⟨_, rfl⟩
          rw [hx] at hc
          have HX := Lib.hid hx
          have HL := Lib.hid (hasS_next 0 l a i hia hil)
          have HR := Lib.hid (hasS_next 1 l a i hia hil)
          have b0 : (0 : Int) ≤ (i : Int) := by omega
          have b1 : (i : Int) < (l.length : Int) := by omega
          have hdd : decide ((i : Int) < (l.length : Int)) = true := by simpa using hlt
          clear hx
          rcases lb with _ | _
          · rcases rb with _ | _
            · have TT := trivial
              go_wp2_with fail
              refine (rside10_any x _).mono ?_
              rintro e wq ⟨rfl, rfl⟩
              go_wp2_with fail
              refine (rside10_any x _).mono ?_
              rintro e wq ⟨rfl, rfl⟩
              go_wp2_with fail
              go_roundw
              case rel => exact ⟨i + 1, by first | exact .inr (by unfold highB; omega) | omega, by omega, by go_num, by rw [HL.out, HLB.out, HX.out]; first | rfl | simp, by rw [HR.out, HRB.out, HX.out]; first | rfl | simp, by first | rfl | trivial⟩
              case measure => simp [intOf]; omega
            · have TT := trivial
              go_wp2_with fail
              refine (rside10_any x _).mono ?_
              rintro e wq ⟨rfl, rfl⟩
              go_wp2_with fail
              go_roundw
              case rel => exact ⟨i + 1, by first | exact .inr (by unfold highB; omega) | omega, by omega, by go_num, by rw [HL.out, HLB.out, HX.out]; first | rfl | simp, by rw [HR.out, HRB.out, HX.out]; first | rfl | simp, by first | rfl | trivial⟩
              case measure => simp [intOf]; omega
          · rcases rb with _ | _
            · have TT := trivial
              go_wp2_with fail
              refine (rside10_any x _).mono ?_
              rintro e wq ⟨rfl, rfl⟩
              go_wp2_with fail
              go_roundw
              case rel => exact ⟨i + 1, by first | exact .inr (by unfold highB; omega) | omega, by omega, by go_num, by rw [HL.out, HLB.out, HX.out]; first | rfl | simp, by rw [HR.out, HRB.out, HX.out]; first | rfl | simp, by first | rfl | trivial⟩
              case measure => simp [intOf]; omega
            · have TT := trivial
              go_wp2_with fail
              go_roundw
              case rel => exact ⟨i + 1, by first | exact .inr (by unfold highB; omega) | omega, by omega, by go_num, by rw [HL.out, HLB.out, HX.out]; first | rfl | simp, by rw [HR.out, HRB.out, HX.out]; first | rfl | simp, by first | rfl | trivial⟩
              case measure => simp [intOf]; omega
        · have hdd : decide ((i : Int) < (l.length : Int)) = false := by simpa using hlt
          have HEND : Hid (lb = z0 ∧ rb = z1) := Lib.hid (by
            rw [← HLB.out, ← HRB.out, ← Z0.out, ← Z1.out, hasL, hasR]
            by_cases hab : a ≤ highB l t
            · have : i = highB l t := by unfold highB at *; omega
              rw [this, HA.out]; exact ⟨rfl, rfl⟩
            · rw [hasS_none 0 l (by omega), hasS_none 1 l (by omega), hasS_none 0 l (by rw [HA.out]; omega), hasS_none 1 l (by rw [HA.out]; omega)]; exact ⟨rfl, rfl⟩)
          go_wp2_with fail
          go_ret2
          exact ⟨by rw [HEND.out.1, HEND.out.2]; rfl, rfl⟩
    · have TT := trivial
      go_enter Try.func10, Try.ntmps10
      go_wp2_with fail
      go_loopw [10, 8, 9] (fun iv lv rv wr => ∃ i : Nat, (a = i ∨ i ≤ highB l t) ∧ a ≤ i ∧ iv = .int .i64 i ∧ lv = .bool (hasS 0 l a i) ∧ rv = .bool (hasS 1 l a i) ∧ wr = w) (fun iv _ _ _ => l.length - (intOf iv).toNat)
      case atStart => exact ⟨a, .inl rfl, Nat.le_refl _, by rw [show (a : Int) = f by omega], by rw [hasS_begin], by rw [hasS_begin], rfl⟩
      case round =>
        obtain ⟨i, hi, hia, rfl, rfl, rfl, rfl⟩ := hrel
        obtain ⟨lb, hlb⟩ : ∃ z, hasS 0 l a i = z := ⟨_, rfl⟩
        obtain ⟨rb, hrb⟩ : ∃ z, hasS 1 l a i = z := ⟨_, rfl⟩
        rw [hlb, hrb]
        have HLB := Lib.hid hlb
        have HRB := Lib.hid hrb
        clear hlb hrb
        by_cases hlt : (i : Int) < t
        · have hil : i < l.length := by omega
          obtain ⟨p, hp, _, hc⟩ := H.out.int hil
          subst hp
          obtain ⟨x, hx⟩ : ∃ x, l[i] = x := ⟨_, rfl⟩
          rw [hx] at hc
          have HX := Lib.hid hx
          have HL := Lib.hid (hasS_next 0 l a i hia hil)
          have HR := Lib.hid (hasS_next 1 l a i hia hil)
          have b0 : (0 : Int) ≤ (i : Int) := by omega
          have b1 : (i : Int) < (l.length : Int) := by omega
          have hdd : decide ((i : Int) < t) = true := by simpa using hlt
          clear hx
          rcases lb with _ | _
          · rcases rb with _ | _
            · have TT := trivial
              go_wp2_with fail
              refine (rside10_any x _).mono ?_
              rintro e wq ⟨rfl, rfl⟩
              go_wp2_with fail
              refine (rside10_any x _).mono ?_
              rintro e wq ⟨rfl, rfl⟩
              go_wp2_with fail
              go_roundw
              case rel => exact ⟨i + 1, by first | exact .inr (by unfold highB; omega) | omega, by omega, by go_num, by rw [HL.out, HLB.out, HX.out]; first | rfl | simp, by rw [HR.out, HRB.out, HX.out]; first | rfl | simp, by first | rfl | trivial⟩
              case measure => simp [intOf]; omega
            · have TT := trivial
              go_wp2_with fail
              refine (rside10_any x _).mono ?_
              rintro e wq ⟨rfl, rfl⟩
              go_wp2_with fail
              go_roundw
              case rel => exact ⟨i + 1, by first | exact .inr (by unfold highB; omega) | omega, by omega, by go_num, by rw [HL.out, HLB.out, HX.out]; first | rfl | simp, by rw [HR.out, HRB.out, HX.out]; first | rfl | simp, by first | rfl | trivial⟩
              case measure => simp [intOf]; omega
          · rcases rb with _ | _
            · have TT := trivial
              go_wp2_with fail
              refine (rside10_any x _).mono ?_
              rintro e wq ⟨rfl, rfl⟩
              go_wp2_with fail
              go_roundw
              case rel => exact ⟨i + 1, by first | exact .inr (by unfold highB; omega) | omega, by omega, by go_num, by rw [HL.out, HLB.out, HX.out]; first | rfl | simp, by rw [HR.out, HRB.out, HX.out]; first | rfl | simp, by first | rfl | trivial⟩
              case measure => simp [intOf]; omega
            · have TT := trivial
              go_wp2_with fail
              go_roundw
              case rel => exact ⟨i + 1, by first | exact .inr (by unfold highB; omega) | omega, by omega, by go_num, by rw [HL.out, HLB.out, HX.out]; first | rfl | simp, by rw [HR.out, HRB.out, HX.out]; first | rfl | simp, by first | rfl | trivial⟩
              case measure => simp [intOf]; omega
        · have hdd : decide ((i : Int) < t) = false := by simpa using hlt
          have HEND : Hid (lb = z0 ∧ rb = z1) := Lib.hid (by
            rw [← HLB.out, ← HRB.out, ← Z0.out, ← Z1.out, hasL, hasR]
            by_cases hab : a ≤ highB l t
            · have : i = highB l t := by unfold highB at *; omega
              rw [this, HA.out]; exact ⟨rfl, rfl⟩
            · rw [hasS_none 0 l (by omega), hasS_none 1 l (by omega), hasS_none 0 l (by rw [HA.out]; omega), hasS_none 1 l (by rw [HA.out]; omega)]; exact ⟨rfl, rfl⟩)
          go_wp2_with fail
          go_ret2
          exact ⟨by rw [HEND.out.1, HEND.out.2]; rfl, rfl⟩
  · rcases Decidable.em ((l.length : Int) < t) with h2 | h2
    · have TT := trivial
      go_enter Try.func10, Try.ntmps10
      go_wp2_with fail
      go_loopw [10, 8, 9] (fun iv lv rv wr => ∃ i : Nat, (a = i ∨ i ≤ highB l t) ∧ a ≤ i ∧ iv = .int .i64 i ∧ lv = .bool (hasS 0 l a i) ∧ rv = .bool (hasS 1 l a i) ∧ wr = w) (fun iv _ _ _ => l.length - (intOf iv).toNat)
      case atStart => exact ⟨a, .inl rfl, Nat.le_refl _, by rw [show (a : Int) = 0 by omega], by rw [hasS_begin], by rw [hasS_begin], rfl⟩
      case round =>
        obtain ⟨i, hi, hia, rfl, rfl, rfl, rfl⟩ := hrel
        obtain ⟨lb, hlb⟩ : ∃ z, hasS 0 l a i = z := ⟨_, rfl⟩
        obtain ⟨rb, hrb⟩ : ∃ z, hasS 1 l a i = z := ⟨_, rfl⟩
        rw [hlb, hrb]
        have HLB := Lib.hid hlb
        have HRB := Lib.hid hrb
        clear hlb hrb
        by_cases hlt : (i : Int) < (l.length : Int)
        · have hil : i < l.length := by omega
          obtain ⟨p, hp, _, hc⟩ := H.out.int hil
          subst hp
          obtain ⟨x, hx⟩ : ∃ x, l[i] = x := ⟨_, rfl⟩
          rw [hx] at hc
          have HX := Lib.hid hx
          have HL := Lib.hid (hasS_next 0 l a i hia hil)
          have HR := Lib.hid (hasS_next 1 l a i hia hil)
          have b0 : (0 : Int) ≤ (i : Int) := by omega
          have b1 : (i : Int) < (l.length : Int) := by omega
          have hdd : decide ((i : Int) < (l.length : Int)) = true := by simpa using hlt
          clear hx
          rcases lb with _ | _
          · rcases rb with _ | _
            · have TT := trivial
              go_wp2_with fail
              refine (rside10_any x _).mono ?_
              rintro e wq ⟨rfl, rfl⟩
              go_wp2_with fail
              refine (rside10_any x _).mono ?_
              rintro e wq ⟨rfl, rfl⟩
              go_wp2_with fail
              go_roundw
              case rel => exact ⟨i + 1, by first | exact .inr (by unfold highB; omega) | omega, by omega, by go_num, by rw [HL.out, HLB.out, HX.out]; first | rfl | simp, by rw [HR.out, HRB.out, HX.out]; first | rfl | simp, by first | rfl | trivial⟩
              case measure => simp [intOf]; omega
            · have TT := trivial
              go_wp2_with fail
              refine (rside10_any x _).mono ?_
              rintro e wq ⟨rfl, rfl⟩
              go_wp2_with fail
              go_roundw
              case rel => exact ⟨i + 1, by first | exact .inr (by unfold highB; omega) | omega, by omega, by go_num, by rw [HL.out, HLB.out, HX.out]; first | rfl | simp, by rw [HR.out, HRB.out, HX.out]; first | rfl | simp, by first | rfl | trivial⟩
              case measure => simp [intOf]; omega
          · rcases rb with _ | _
            · have TT := trivial
              go_wp2_with fail
              refine (rside10_any x _).mono ?_
              rintro e wq ⟨rfl, rfl⟩
              go_wp2_with fail
              go_roundw
              case rel => exact ⟨i + 1, by first | exact .inr (by unfold highB; omega) | omega, by omega, by go_num, by rw [HL.out, HLB.out, HX.out]; first | rfl | simp, by rw [HR.out, HRB.out, HX.out]; first | rfl | simp, by first | rfl | trivial⟩
              case measure => simp [intOf]; omega
            · have TT := trivial
              go_wp2_with fail
              go_roundw
              case rel => exact ⟨i + 1, by first | exact .inr (by unfold highB; omega) | omega, by omega, by go_num, by rw [HL.out, HLB.out, HX.out]; first | rfl | simp, by rw [HR.out, HRB.out, HX.out]; first | rfl | simp, by first | rfl | trivial⟩
              case measure => simp [intOf]; omega
        · have hdd : decide ((i : Int) < (l.length : Int)) = false := by simpa using hlt
          have HEND : Hid (lb = z0 ∧ rb = z1) := Lib.hid (by
            rw [← HLB.out, ← HRB.out, ← Z0.out, ← Z1.out, hasL, hasR]
            by_cases hab : a ≤ highB l t
            · have : i = highB l t := by unfold highB at *; omega
              rw [this, HA.out]; exact ⟨rfl, rfl⟩
            · rw [hasS_none 0 l (by omega), hasS_none 1 l (by omega), hasS_none 0 l (by rw [HA.out]; omega), hasS_none 1 l (by rw [HA.out]; omega)]; exact ⟨rfl, rfl⟩)
          go_wp2_with fail
          go_ret2
          exact ⟨by rw [HEND.out.1, HEND.out.2]; rfl, rfl⟩
    · have TT := trivial
      go_enter Try.func10, Try.ntmps10
      go_wp2_with fail
      go_loopw [10, 8, 9] (fun iv lv rv wr => ∃ i : Nat, (a = i ∨ i ≤ highB l t) ∧ a ≤ i ∧ iv = .int .i64 i ∧ lv = .bool (hasS 0 l a i) ∧ rv = .bool (hasS 1 l a i) ∧ wr = w) (fun iv _ _ _ => l.length - (intOf iv).toNat)
      case atStart => exact ⟨a, .inl rfl, Nat.le_refl _, by rw [show (a : Int) = 0 by omega], by rw [hasS_begin], by rw [hasS_begin], rfl⟩
      case round =>
        obtain ⟨i, hi, hia, rfl, rfl, rfl, rfl⟩ := hrel
        obtain ⟨lb, hlb⟩ : ∃ z, hasS 0 l a i = z := ⟨_, rfl⟩
        obtain ⟨rb, hrb⟩ : ∃ z, hasS 1 l a i = z := ⟨_, rfl⟩
        rw [hlb, hrb]
        have HLB := Lib.hid hlb
        have HRB := Lib.hid hrb
        clear hlb hrb
        by_cases hlt : (i : Int) < t
        · have hil : i < l.length := by omega
          obtain ⟨p, hp, _, hc⟩ := H.out.int hil
          subst hp
          obtain ⟨x, hx⟩ : ∃ x, l[i] = x := ⟨_, rfl⟩
          rw [hx] at hc
          have HX := Lib.hid hx
          have HL := Lib.hid (hasS_next 0 l a i hia hil)
          have HR := Lib.hid (hasS_next 1 l a i hia hil)
          have b0 : (0 : Int) ≤ (i : Int) := by omega
          have b1 : (i : Int) < (l.length : Int) := by omega
          have hdd : decide ((i : Int) < t) = true := by simpa using hlt
          clear hx
          rcases lb with _ | _
          · rcases rb with _ | _
            · have TT := trivial
              go_wp2_with fail
              refine (rside10_any x _).mono ?_
              rintro e wq ⟨rfl, rfl⟩
              go_wp2_with fail
              refine (rside10_any x _).mono ?_
              rintro e wq ⟨rfl, rfl⟩
              go_wp2_with fail
              go_roundw
              case rel => exact ⟨i + 1, by first | exact .inr (by unfold highB; omega) | omega, by omega, by go_num, by rw [HL.out, HLB.out, HX.out]; first | rfl | simp, by rw [HR.out, HRB.out, HX.out]; first | rfl | simp, by first | rfl | trivial⟩
              case measure => simp [intOf]; omega
            · have TT := trivial
              go_wp2_with fail
              refine (rside10_any x _).mono ?_
              rintro e wq ⟨rfl, rfl⟩
              go_wp2_with fail
              go_roundw
              case rel => exact ⟨i + 1, by first | exact .inr (by unfold highB; omega) | omega, by omega, by go_num, by rw [HL.out, HLB.out, HX.out]; first | rfl | simp, by rw [HR.out, HRB.out, HX.out]; first | rfl | simp, by first | rfl | trivial⟩
              case measure => simp [intOf]; omega
          · rcases rb with _ | _
            · have TT := trivial
              go_wp2_with fail
              refine (rside10_any x _).mono ?_
              rintro e wq ⟨rfl, rfl⟩
              go_wp2_with fail
              go_roundw
              case rel => exact ⟨i + 1, by first | exact .inr (by unfold highB; omega) | omega, by omega, by go_num, by rw [HL.out, HLB.out, HX.out]; first | rfl | simp, by rw [HR.out, HRB.out, HX.out]; first | rfl | simp, by first | rfl | trivial⟩
              case measure => simp [intOf]; omega
            · have TT := trivial
              go_wp2_with fail
              go_roundw
              case rel => exact ⟨i + 1, by first | exact .inr (by unfold highB; omega) | omega, by omega, by go_num, by rw [HL.out, HLB.out, HX.out]; first | rfl | simp, by rw [HR.out, HRB.out, HX.out]; first | rfl | simp, by first | rfl | trivial⟩
              case measure => simp [intOf]; omega
        · have hdd : decide ((i : Int) < t) = false := by simpa using hlt
          have HEND : Hid (lb = z0 ∧ rb = z1) := Lib.hid (by
            rw [← HLB.out, ← HRB.out, ← Z0.out, ← Z1.out, hasL, hasR]
            by_cases hab : a ≤ highB l t
            · have : i = highB l t := by unfold highB at *; omega
              rw [this, HA.out]; exact ⟨rfl, rfl⟩
            · rw [hasS_none 0 l (by omega), hasS_none 1 l (by omega), hasS_none 0 l (by rw [HA.out]; omega), hasS_none 1 l (by rw [HA.out]; omega)]; exact ⟨rfl, rfl⟩)
          go_wp2_with fail
          go_ret2
          exact ⟨by rw [HEND.out.1, HEND.out.2]; rfl, rfl⟩
end Go.Proofs.Ytoiolgpbecgfkaa
