/- Layer 8: the program's Dir. -/
import Derived.Test.YtlibmbocfmjjgaaSqA
namespace Go.Proofs.Ytlibmbocfmjjgaa
open Go.RowKit

theorem sdir_q (k : Int) (w : World) : Calls Try.prog 22 #[.int .i64 k] w fun ed w' => ed = .returned (.int .i64 (dirL k)) ∧ w = w' := by
  rcases h : (Int.tmod k 2 != 0) with _ | _
  · have hz : dirL k = 0 := by rw [dirL, if_pos ((tmod_dir k).1 (by simpa using h))]
    rw [hz]
    go_enter Try.func22, Try.ntmps22
    go_wp2
    go_ret
    exact ⟨rfl, rfl⟩
  · have hz : dirL k = 1 := by rw [dirL, if_neg (fun e => by rw [(tmod_dir k).2 e] at h; simp at h)]
    rw [hz]
    go_enter Try.func22, Try.ntmps22
    go_wp2
    go_ret
    exact ⟨rfl, rfl⟩
theorem sdir_any (k : Int) (w : World) : Calls Try.prog 22 #[.int .i64 k] w fun ed w' => ed = .returned (.int .i64 (dirL k)) ∧ Below w.heap.size w w' :=
  (sdir_q k w).mono fun _ _ ⟨h1, h2⟩ => ⟨h1, h2 ▸ Below.refl _ _⟩
end Go.Proofs.Ytlibmbocfmjjgaa
