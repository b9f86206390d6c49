/- Layer 5's walks: side, part, the document's End. -/
import Derived.Test.YtajgjloailliiaaBsM
import Derived.Test.YtajgjloailliiaaFill
namespace Go.Proofs.Ytajgjloailliiaa
open Go.RowKit Reckon

theorem wordOf_isEmpty (k : Int) : (wordOf k).toList.isEmpty = decide (k < 0 ∨ 22 < k) := by
  by_cases h : 0 ≤ k ∧ k ≤ 22
  · obtain ⟨n, rfl⟩ : ∃ n : Nat, k = n := ⟨k.toNat, by omega⟩
    have : ∀ m : Nat, m < 23 → (wordOf (m : Int)).toList.isEmpty = false := by decide +kernel
    rw [this n (by omega), eq_comm, decide_eq_false_iff_not]
    omega
  · have e : (⟨#[]⟩ : ByteArray).toList.isEmpty = true := by decide +kernel
    rw [wordOf, if_neg h, e, eq_comm, decide_eq_true_iff]
    omega
set_option maxHeartbeats 1000000 in
theorem rend_any (A : Option Addr) (l : List Int) (c : Nat) (i : Nat) (w : World) (h : Lies w w.heap.size A (ints .i64 l)) (hl : l.length ≤ 1000000) (hi : i < l.length) :
    Calls Try.prog 36 #[.slice A l.length c, .int .i64 i] w fun e w' => e = .returned (.int .i64 (endOf l i)) ∧ Below w.heap.size w w' := by
  obtain ⟨z, hz⟩ : ∃ z, look (l.drop (i + 1)) 1 (i + 1) = z := ⟨_, rfl⟩
  have hz' : endOf l i = z.int := by rw [endOf, hz]
  rw [hz']
  have HZ := Lib.hid hz
  have H := Lib.hid h
  clear h hz hz'
  go_enter Try.func36, Try.ntmps36
  go_wp2
  go_loopw [5, 6] (fun dv iv wr => ∃ (k d n : Nat), k ≤ l.length ∧ dv = .int .i64 d ∧ iv = .int .i64 k ∧ 1 ≤ d ∧ d ≤ k ∧ Hid (look (l.drop k) d k = z) ∧ wr = w.drewN n) (fun _ iv _ => l.length - (intOf iv).toNat)
  case atStart => exact ⟨i + 1, 1, 0, by omega, rfl, by go_num, by omega, by omega, HZ, rfl⟩
  case round =>
    obtain ⟨k, d, n, hk, rfl, rfl, hd, hdk, HL, rfl⟩ := hrel
    by_cases hlt : k < l.length
    · obtain ⟨p, rfl, hpb, hc⟩ := H.out.int hlt
      have b0 : (0 : Int) ≤ (k : Int) := by omega
      have b1 : (k : Int) < (l.length : Int) := by omega
      have hdrop : l.drop k = l[k] :: l.drop (k + 1) := List.drop_eq_getElem_cons hlt
      obtain ⟨x, hx⟩ : ∃ x, l[k] = x := ⟨_, rfl⟩
      rw [hx] at hc hdrop
      have hl2 := HL.out
      rw [hdrop, look, lookStep] at hl2
      have HL2 := Lib.hid hl2
      clear hx hdrop hl2 HL
      rcases h10 : (x == 10) with _ | _
      · have n10 : ¬ x = 10 := by simpa using h10
        have hl2 := HL2.out
        rw [if_neg n10] at hl2
        rcases ho : isOpens x with _ | _
        · rw [ho] at hl2
          simp only [Bool.false_eq_true, if_false] at hl2
          have HO := Lib.hid ho
          clear ho
          rcases h22 : (x == 22) with _ | _
          · have n22 : ¬ x = 22 := by simpa using h22
            rw [if_neg n22] at hl2
            have HL3 := Lib.hid hl2
            clear hl2 n10 n22 HL2
            go_wp2_with fail
            refine (ropens_any x _).mono ?_
            rintro e wq ⟨rfl, rfl⟩
            rw [HO.out]
            go_wp2
            go_roundw
            case rel => exact ⟨k + 1, d, _, by omega, rfl, by go_num, hd, by omega, HL3, rfl⟩
            case measure => simp [intOf]; omega
          · have n22 : x = 22 := by simpa using h22
            rw [if_pos n22] at hl2
            by_cases hd1 : d ≤ 1
            · rw [if_pos hd1] at hl2
              simp only at hl2
              obtain rfl : d = 1 := by omega
              subst hl2
              clear n10 n22 HL2
              go_wp2_with fail
              refine (ropens_any x _).mono ?_
              rintro e wq ⟨rfl, rfl⟩
              rw [HO.out]
              go_wp2
              go_ret
              exact ⟨rfl, below_drawn (Below.refl _ _) _⟩
            · rw [if_neg hd1] at hl2
              have HL3 := Lib.hid hl2
              clear hl2 n10 n22 HL2
              have hz0 : (((d - 1 : Nat) : Int) == 0) = false := by simp; omega
              have hz1 : IntKind.i64.wrap ((d : Int) - 1) = ((d - 1 : Nat) : Int) := by rw [IntWalk.i64_in _ (by omega)]; omega
              go_wp2_with fail
              refine (ropens_any x _).mono ?_
              rintro e wq ⟨rfl, rfl⟩
              rw [HO.out]
              go_wp2
              go_roundw
              case rel => exact ⟨k + 1, d - 1, _, by omega, by first | rfl | go_num, by go_num, by omega, by omega, HL3, rfl⟩
              case measure => simp [intOf]; omega
        · rw [ho, if_pos rfl] at hl2
          have HL3 := Lib.hid hl2
          have h22 : (x == 22) = false := by
            rw [beq_eq_false_iff_ne]; intro e; subst e; revert ho; decide
          have HO := Lib.hid ho
          clear hl2 n10 HL2 ho
          go_wp2_with fail
          refine (ropens_any x _).mono ?_
          rintro e wq ⟨rfl, rfl⟩
          rw [HO.out]
          go_wp2
          go_roundw
          case rel => exact ⟨k + 1, d + 1, _, by omega, by go_num, by go_num, by omega, by omega, HL3, rfl⟩
          case measure => simp [intOf]; omega
      · have hl2 := HL2.out
        rw [if_pos (by simpa using h10)] at hl2
        simp only at hl2
        subst hl2
        clear HL2
        go_wp2
        go_ret
        exact ⟨rfl, below_drawn (Below.refl _ _) _⟩
    · have hl2 := HL.out
      rw [List.drop_of_length_le (by omega), look] at hl2
      subst hl2
      go_wp2
      go_ret
      exact ⟨rfl, below_drawn (Below.refl _ _) _⟩
end Go.Proofs.Ytajgjloailliiaa
