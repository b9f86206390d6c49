/- Layer 10: the program's Side (was a part of XBrF). -/
import Derived.Test.YtlibmbocfmjjgaaBrA
namespace Go.Proofs.Ytlibmbocfmjjgaa
open Go.RowKit

theorem bside_q (k : Int) (w : World) : Calls Try.prog 31 #[.int .i64 k] w fun e w' => e = .returned (.int .i64 (sdB k)) ∧ w = w' := by
  obtain ⟨z, hz⟩ : ∃ z, sdB k = z := ⟨_, rfl⟩
  have HZ := Lib.hid hz
  rw [hz]
  clear hz
  rcases e0 : (k == 0) with _ | _
  · rcases e1 : (k == 1) with _ | _
    · rcases e3 : (k == 3) with _ | _
      · rcases e6 : (k == 6) with _ | _
        · have HF : Hid (z = -1) := Lib.hid (by rw [← HZ.out, sdB, if_neg (by simpa using e0), if_neg (by simp at e1 e3 e6; omega)])
          go_enter Try.func31, Try.ntmps31
          go_wp2
          go_ret
          exact ⟨ret_int HF.out.symm, rfl⟩
        · have HF : Hid (z = 1) := Lib.hid (by rw [← HZ.out, sdB, if_neg (by simpa using e0), if_pos (by simp at e1 e3 e6; omega)])
          go_enter Try.func31, Try.ntmps31
          go_wp2
          go_ret
          exact ⟨ret_int HF.out.symm, rfl⟩
      · have HF : Hid (z = 1) := Lib.hid (by rw [← HZ.out, sdB, if_neg (by simpa using e0), if_pos (by simp at e1 e3; omega)])
        go_enter Try.func31, Try.ntmps31
        go_wp2
        go_ret
        exact ⟨ret_int HF.out.symm, rfl⟩
    · have HF : Hid (z = 1) := Lib.hid (by rw [← HZ.out, sdB, if_neg (by simpa using e0), if_pos (by simp at e1; omega)])
      go_enter Try.func31, Try.ntmps31
      go_wp2
      go_ret
      exact ⟨ret_int HF.out.symm, rfl⟩
  · have HF : Hid (z = 0) := Lib.hid (by rw [← HZ.out, sdB, if_pos (by simpa using e0)])
    go_enter Try.func31, Try.ntmps31
    go_wp2
    go_ret
    exact ⟨ret_int HF.out.symm, rfl⟩
theorem bside_any (k : Int) (w : World) : Calls Try.prog 31 #[.int .i64 k] w fun e w' => e = .returned (.int .i64 (sdB k)) ∧ Below w.heap.size w w' :=
  (bside_q k w).mono fun _ _ ⟨h1, h2⟩ => ⟨h1, h2 ▸ Below.refl _ _⟩
end Go.Proofs.Ytlibmbocfmjjgaa
