/- Whole numbers in rows: the comparison of two rows. -/
import Derived.Test.YtpllklikjnndcaaKit
namespace Go.Proofs.Ytpllklikjnndcaa
open Go.RowKit

theorem intsT : SliceOf Try.prog 22 3 (.int .i64 0) 8 := ⟨by kernel_rfl, by kernel_rfl, rfl⟩

theorem eq_of_cells {l m : List Int} (hl : l.length = m.length) (h : ∀ i (a : i < l.length) (b : i < m.length), l[i] = m[i]) : l = m := List.ext_getElem hl h

set_option maxHeartbeats 400000 in
/-- the same numbers -/
theorem ints_yes (A A' : Option Addr) (l : List Int) (c c' : Nat) (B : Nat) (w : World) (h : Lies w B A (ints .i64 l)) (h' : Lies w B A' (ints .i64 l)) (hl : l.length ≤ 9223372036854775807) :
    Calls Try.prog 13 #[.slice A l.length c, .slice A' l.length c'] w fun e w' => e = .returned (.bool true) ∧ ∃ n, w' = w.drewN n := by
  have H := Lib.hid h
  have H' := Lib.hid h'
  clear h h'
  go_enter Try.func13, Try.ntmps13
  go_wp2
  go_loopw [5] (fun i wr => ∃ k n : Nat, k ≤ l.length ∧ i = .int .i64 k ∧ wr = w.drewN n) (fun i _ => l.length - (intOf i).toNat)
  case atStart => exact ⟨0, 0, by omega, rfl, rfl⟩
  case round =>
    obtain ⟨k, n, hk, rfl, rfl⟩ := hrel
    by_cases hlt : k < l.length
    · obtain ⟨p, rfl, _, hc⟩ := H.out.int hlt
      obtain ⟨q, rfl, _, hd⟩ := H'.out.int hlt
      have b0 : (0 : Int) ≤ (k : Int) := by omega
      have b1 : (k : Int) < (l.length : Int) := by omega
      go_wp2
      go_quiet (fail)
      go_wp2
      go_roundw
      case rel => exact ⟨k + 1, _, by omega, by go_num, rfl⟩
      case measure => simp [intOf]; omega
    · go_wp2
      go_ret
      exact ⟨rfl, _, rfl⟩

theorem ints_ok (A A' : Option Addr) (l : List Int) (c c' : Nat) (w : World) (h : Lies w w.heap.size A (ints .i64 l)) (h' : Lies w w.heap.size A' (ints .i64 l)) (hl : l.length ≤ 9223372036854775807) :
    Calls Try.prog 13 #[.slice A l.length c, .slice A' l.length c'] w fun e w' => e = .returned (.bool true) ∧ Below w.heap.size w w' :=
  (ints_yes A A' l c c' _ w h h' hl).mono fun _ _ ⟨he, n, hn⟩ => ⟨he, hn ▸ below_drawn (Below.refl _ _) n⟩

end Go.Proofs.Ytpllklikjnndcaa
