/- Layer 8: the document's Dir, and the places that are looked at. -/
import Derived.Test.YtlibmbocfmjjgaaClB
import Derived.Test.YtlibmbocfmjjgaaInts2
namespace Go.Proofs.Ytlibmbocfmjjgaa
open Go.RowKit

/-- the places of those that are not left out, of the first k classes -/
def seenN (l : List Int) (k : Nat) : List Int := ((List.range k).filter fun i => !isOut (l.getD i 0)).map fun (i : Nat) => (i : Int)
def seenI (l : List Int) : List Int := seenN l l.length
theorem seenN_succ (l : List Int) (k : Nat) (h : k < l.length) : seenN l (k + 1) = if isOut l[k] then seenN l k else seenN l k ++ [(k : Int)] := by
  unfold seenN
  have hg : l.getD k 0 = l[k] := by simp [h]
  have hf : ([k].filter fun i => !isOut (l.getD i 0)) = if isOut l[k] then [] else [k] := by
    rw [List.filter_cons, hg]
    cases isOut l[k] <;> rfl
  rw [List.range_succ, List.filter_append, List.map_append, hf]
  split
  · simp
  · rfl
theorem seenN_le (l : List Int) (k : Nat) : (seenN l k).length ≤ k := by
  unfold seenN
  rw [List.length_map]
  have := List.length_filter_le (fun i => !isOut (l.getD i 0)) (List.range k)
  rw [List.length_range] at this
  exact this

/-- a level's direction -/
def dirL (k : Int) : Int := if k % 2 = 0 then 0 else 1
theorem tmod_dir (k : Int) : (Int.tmod k 2 = 0) ↔ k % 2 = 0 := ⟨fun h => Int.emod_eq_zero_of_dvd (Int.dvd_of_tmod_eq_zero h), fun h => Int.tmod_eq_zero_of_dvd (Int.dvd_of_emod_eq_zero h)⟩
theorem rdir8_any (k : Int) (w : World) : Calls Try.prog 19 #[.int .i64 k] w fun e w' => e = .returned (.int .i64 (dirL k)) ∧ w = w' := by
  rcases h : (Int.tmod k 2 != 0) with _ | _
  · have hz : dirL k = 0 := by rw [dirL, if_pos ((tmod_dir k).1 (by simpa using h))]
    rw [hz]
    go_enter Try.func19, Try.ntmps19
    go_wp2
    go_ret
    exact ⟨rfl, rfl⟩
  · have hz : dirL k = 1 := by rw [dirL, if_neg (fun e => by rw [(tmod_dir k).2 e] at h; simp at h)]
    rw [hz]
    go_enter Try.func19, Try.ntmps19
    go_wp2
    go_ret
    exact ⟨rfl, rfl⟩
end Go.Proofs.Ytlibmbocfmjjgaa
