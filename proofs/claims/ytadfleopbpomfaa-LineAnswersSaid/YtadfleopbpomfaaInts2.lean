/- Are two lists of numbers the same? ductusref01.Ints at any two. -/
import Derived.Test.YtadfleopbpomfaaInts
namespace Go.Proofs.Ytadfleopbpomfaa
open Go.RowKit

set_option maxHeartbeats 1000000 in
theorem ints_any (A A' : Option Addr) (a b : List Int) (c c' : Nat) (w : World) (h : Lies w w.heap.size A (ints .i64 a)) (h' : Lies w w.heap.size A' (ints .i64 b)) (hl : a.length ≤ 1000000) (_ : b.length ≤ 1000000) :
    Calls Try.prog 15 #[.slice A a.length c, .slice A' b.length c'] w fun e w' => e = .returned (.bool (decide (a = b))) ∧ Below w.heap.size w w' := by
  have H := Lib.hid h
  have H' := Lib.hid h'
  clear h h'
  by_cases hn : a.length = b.length
  · have hd : ((a.length : Int) != (b.length : Int)) = false := by simp [hn]
    have HN := Lib.hid hn
    clear hn
    go_enter Try.func15, Try.ntmps15
    go_wp2
    go_loopw [5] (fun i wr => ∃ k n : Nat, k ≤ a.length ∧ i = .int .i64 k ∧ Hid (a.take k = b.take k) ∧ wr = w.drewN n) (fun i _ => a.length - (intOf i).toNat)
    case atStart => exact ⟨0, 0, by omega, rfl, rfl, rfl⟩
    case round =>
      obtain ⟨k, n, hk, rfl, HE, rfl⟩ := hrel
      by_cases hlt : k < a.length
      · obtain ⟨p, rfl, _, hc⟩ := H.out.int hlt
        have hlt' : k < b.length := by have := HN.out; omega
        obtain ⟨q, rfl, _, hd⟩ := H'.out.int hlt'
        have b0 : (0 : Int) ≤ (k : Int) := by omega
        have b1 : (k : Int) < (a.length : Int) := by omega
        have b2 : (k : Int) < (b.length : Int) := by omega
        obtain ⟨x, hx⟩ : ∃ x, a[k] = x := ⟨_, rfl⟩
        obtain ⟨y, hy⟩ : ∃ x, b[k] = x := ⟨_, rfl⟩
        rw [hx] at hc
        rw [hy] at hd
        have HX := Lib.hid hx
        have HY := Lib.hid hy
        clear hx hy
        rcases hxy : (x != y) with _ | _
        · go_wp2
          go_quiet (fail)
          go_wp2
          go_roundw
          case rel =>
            refine ⟨k + 1, _, by omega, by go_num, ?_, rfl⟩
            have : x = y := by simpa using hxy
            show _ = _
            rw [List.take_succ_eq_append_getElem hlt, List.take_succ_eq_append_getElem hlt', HE.out, HX.out, HY.out, this]
          case measure => simp [intOf]; omega
        · go_wp2
          go_quiet (fail)
          go_wp2
          go_ret
          refine ⟨ret_bool ?_, below_drawn (below_drawn (Below.refl _ _) _) _⟩
          have h1 := HX.out
          have h2 := HY.out
          rw [eq_comm, decide_eq_false_iff_not]
          intro e
          have h3 := congrArg (·[k]?) e
          simp only [List.getElem?_eq_getElem hlt, List.getElem?_eq_getElem hlt', h1, h2, Option.some.injEq] at h3
          simp [h3] at hxy
      · go_wp2
        go_ret
        refine ⟨ret_bool ?_, below_drawn (Below.refl _ _) _⟩
        have h1 := HE.out
        have h2 := HN.out
        rw [List.take_of_length_le (by omega), List.take_of_length_le (by omega)] at h1
        simp [h1]
  · have hd : ((a.length : Int) != (b.length : Int)) = true := by simp; omega
    have HN := Lib.hid hn
    clear hn
    go_enter Try.func15, Try.ntmps15
    go_wp2
    go_ret
    refine ⟨ret_bool ?_, Below.refl _ _⟩
    have := HN.out
    rw [eq_comm, decide_eq_false_iff_not]
    intro e
    exact this (congrArg List.length e)
end Go.Proofs.Ytadfleopbpomfaa
