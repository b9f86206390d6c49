/- The small functions of layer 1: Right, Size, Offset, Ints. -/
import Derived.Test.YtnjddmcckndpgaaDoorMem
import Derived.Test.YtnjddmcckndpgaaDoorChecked
namespace Go.Proofs.YtnjddmcckndpgaaDoor
open Go.RowKit

/-- is it a character? -/
def isCh (c : Int) : Bool := decide (0 ≤ c) && decide (c ≤ 1114111) && (decide (c < 55296) || decide (57343 < c))
/-- how many bytes a character has; 0 of none -/
def lenCh (c : Int) : Int := if c < 128 then 1 else if c < 2048 then 2 else if c < 65536 then 3 else 4
def szCh (c : Int) : Int := if isCh c then lenCh c else 0
theorem ret_int {k : IntKind} {a b : Int} (h : a = b) : Ending.returned (.int k a) = .returned (.int k b) := by rw [h]
theorem ret_bool {a b : Bool} (h : a = b) : Ending.returned (.bool a) = .returned (.bool b) := by rw [h]

theorem isCh_true {c : Int} : isCh c = true ↔ 0 ≤ c ∧ c ≤ 1114111 ∧ (c < 55296 ∨ 57343 < c) := by
  simp [isCh]; omega
theorem isCh_false {c : Int} : isCh c = false ↔ ¬ (0 ≤ c ∧ c ≤ 1114111 ∧ (c < 55296 ∨ 57343 < c)) := by
  rw [← isCh_true]; simp

set_option maxHeartbeats 400000 in
theorem right_any (c : Int) (w : World) : Calls Tryd.prog 18 #[.int .i64 c] w fun e w' => e = .returned (.bool (isCh c)) ∧ w = w' := by
  by_cases h0 : 0 ≤ c
  · by_cases h1 : c ≤ 1114111
    · by_cases h2 : c < 55296
      all_goals
        go_enter Tryd.func18, Tryd.ntmps18
        go_wp2
        go_ret
        exact ⟨ret_bool (by rw [Bool.eq_iff_iff, isCh_true]; simp; omega), rfl⟩
    · go_enter Tryd.func18, Tryd.ntmps18
      go_wp2
      go_ret
      exact ⟨ret_bool (by rw [Bool.eq_iff_iff, isCh_true]; simp; omega), rfl⟩
  · go_enter Tryd.func18, Tryd.ntmps18
    go_wp2
    go_ret
    exact ⟨ret_bool (by rw [Bool.eq_iff_iff, isCh_true]; simp; omega), rfl⟩

theorem right_yes (c : Int) (w : World) (h : isCh c = true) : Calls Tryd.prog 18 #[.int .i64 c] w fun e w' => e = .returned (.bool true) ∧ w = w' :=
  (right_any c w).mono fun _ _ ⟨he, hw⟩ => ⟨by rw [he, h], hw⟩
theorem right_no (c : Int) (w : World) (h : isCh c = false) : Calls Tryd.prog 18 #[.int .i64 c] w fun e w' => e = .returned (.bool false) ∧ w = w' :=
  (right_any c w).mono fun _ _ ⟨he, hw⟩ => ⟨by rw [he, h], hw⟩

set_option maxHeartbeats 400000 in
theorem runeLen_ch (c : Int) (w : World) (h : 0 ≤ c) (h1 : c ≤ 1114111) (h2 : c < 55296 ∨ 57343 < c) :
    Calls Tryd.prog 26 #[.int .i32 c] w fun e w' => e = .returned (.int .i64 (lenCh c)) ∧ w = w' := by
  by_cases a1 : c ≤ 127
  · go_enter Tryd.func26, Tryd.ntmps26
    go_wp2
    go_ret
    exact ⟨ret_int (by rw [lenCh, if_pos (by omega)]), rfl⟩
  by_cases a2 : c ≤ 2047
  · go_enter Tryd.func26, Tryd.ntmps26
    go_wp2
    go_ret
    exact ⟨ret_int (by rw [lenCh, if_neg (by omega), if_pos (by omega)]), rfl⟩
  by_cases a3 : c ≤ 65535
  · rcases h2 with h2 | h2
    all_goals
      go_enter Tryd.func26, Tryd.ntmps26
      go_wp2
      go_ret
      exact ⟨ret_int (by rw [lenCh, if_neg (by omega), if_neg (by omega), if_pos (by omega)]), rfl⟩
  · go_enter Tryd.func26, Tryd.ntmps26
    go_wp2
    go_ret
    exact ⟨ret_int (by rw [lenCh, if_neg (by omega), if_neg (by omega), if_neg (by omega)]), rfl⟩

set_option maxHeartbeats 400000 in
theorem size_any (c : Int) (w : World) : Calls Tryd.prog 20 #[.int .i64 c] w fun e w' => e = .returned (.int .i64 (szCh c)) ∧ w = w' := by
  by_cases hc : isCh c = true
  · obtain ⟨h0, h1, h2⟩ := isCh_true.1 hc
    have HC := Lib.hid hc
    clear hc
    go_enter Tryd.func20, Tryd.ntmps20
    go_wp2_with (first
      | (go_at_call 18; refine (right_yes _ _ HC.out).mono ?_; rintro e w' ⟨rfl, rfl⟩)
      | (go_at_call 26; refine (runeLen_ch _ _ h0 h1 h2).mono ?_; rintro e w' ⟨rfl, rfl⟩))
    go_ret
    exact ⟨by simp [szCh, HC.out], rfl⟩
  · have HC := Lib.hid (Bool.not_eq_true _ ▸ hc : isCh c = false)
    clear hc
    go_enter Tryd.func20, Tryd.ntmps20
    go_wp2_with (go_at_call 18; refine (right_no _ _ HC.out).mono ?_; rintro e w' ⟨rfl, rfl⟩)
    go_ret
    exact ⟨by simp [szCh, HC.out], rfl⟩

/-- the n-th of numbers; -1, if there is none -/
def nthI (l : List Int) (n : Int) : Int := if 0 ≤ n ∧ n < l.length then l.getD n.toNat 0 else -1

set_option maxHeartbeats 400000 in
theorem offset_any (A : Option Addr) (l : List Int) (c : Nat) (n : Int) (B : Nat) (w : World) (h : Lies w B A (ints .i64 l)) :
    Calls Tryd.prog 14 #[.slice A l.length c, .int .i64 n] w fun e w' => e = .returned (.int .i64 (nthI l n)) ∧ w = w' := by
  by_cases h0 : n < 0
  · go_enter Tryd.func14, Tryd.ntmps14
    go_wp2
    go_ret
    exact ⟨ret_int (by rw [nthI, if_neg (by omega)]), rfl⟩
  obtain ⟨k, rfl⟩ : ∃ k : Nat, n = k := ⟨n.toNat, by omega⟩
  by_cases h1 : k < l.length
  · obtain ⟨p, rfl, _, hc⟩ := h.int h1
    have hd : decide (l.length ≤ k) = false := by simp; omega
    have HR : Hid (nthI l k = l[k]) := by
      show nthI l k = l[k]
      rw [nthI, if_pos (by omega)]; simp [h1]
    clear h
    go_enter Tryd.func14, Tryd.ntmps14
    go_wp2
    go_ret
    exact ⟨ret_int HR.out.symm, rfl⟩
  · have hd : decide (l.length ≤ k) = true := by simp; omega
    clear h
    go_enter Tryd.func14, Tryd.ntmps14
    go_wp2
    go_ret
    exact ⟨ret_int (by rw [nthI, if_neg (by omega)]), rfl⟩

theorem eq_of_cells {l m : List Int} (hl : l.length = m.length) (h : ∀ i (a : i < l.length) (b : i < m.length), l[i] = m[i]) : l = m := List.ext_getElem hl h

set_option maxHeartbeats 400000 in
/-- the same numbers -/
theorem ints_yes (A A' : Option Addr) (l : List Int) (c c' : Nat) (B : Nat) (w : World) (h : Lies w B A (ints .i64 l)) (h' : Lies w B A' (ints .i64 l)) (hl : l.length ≤ 9223372036854775807) :
    Calls Tryd.prog 11 #[.slice A l.length c, .slice A' l.length c'] w fun e w' => e = .returned (.bool true) ∧ ∃ n, w' = w.drewN n := by
  have H := Lib.hid h
  have H' := Lib.hid h'
  clear h h'
  go_enter Tryd.func11, Tryd.ntmps11
  go_wp2
  go_loopw [5] (fun i wr => ∃ k n : Nat, k ≤ l.length ∧ i = .int .i64 k ∧ wr = w.drewN n) (fun i _ => l.length - (intOf i).toNat)
  case atStart => exact ⟨0, 0, by omega, rfl, rfl⟩
  case round =>
    obtain ⟨k, n, hk, rfl, rfl⟩ := hrel
    by_cases hlt : k < l.length
    · obtain ⟨p, rfl, _, hc⟩ := H.out.int hlt
      obtain ⟨q, rfl, _, hd⟩ := H'.out.int hlt
      have b0 : (0 : Int) ≤ (k : Int) := by omega
      have b1 : (k : Int) < (l.length : Int) := by omega
      go_wp2
      go_quiet (fail)
      go_wp2
      go_roundw
      case rel => exact ⟨k + 1, _, by omega, by go_num, rfl⟩
      case measure => simp [intOf]; omega
    · go_wp2
      go_ret
      exact ⟨rfl, _, rfl⟩
end Go.Proofs.YtnjddmcckndpgaaDoor
