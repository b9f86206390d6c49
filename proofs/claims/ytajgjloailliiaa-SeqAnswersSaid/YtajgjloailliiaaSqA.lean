/- Layer 8: the document's Dir, and the places that are looked at. -/
import Derived.Test.YtajgjloailliiaaClB
import Derived.Test.YtajgjloailliiaaInts2
namespace Go.Proofs.Ytajgjloailliiaa
open Go.RowKit

/-- the places of those that are not left out, of the first k classes -/
def seenN (l : List Int) (k : Nat) : List Int := ((List.range k).filter fun i => !isOut (l.getD i 0)).map fun (i : Nat) => (i : Int)
def seenI (l : List Int) : List Int := seenN l l.length
theorem seenN_succ (l : List Int) (k : Nat) (h : k < l.length) : seenN l (k + 1) = if isOut l[k] then seenN l k else seenN l k ++ [(k : Int)] := by
  unfold seenN
  have hg : l.getD k 0 = l[k] := by simp [h]
  have hf : ([k].filter fun i => !isOut (l.getD i 0)) = if isOut l[k] then [] else [k] := by
    rw [List.filter_cons, hg]
    cases isOut l[k] <;> rfl
  rw [List.range_succ, List.filter_append, List.map_append, hf]
  split
  · simp
  · rfl
theorem seenN_le (l : List Int) (k : Nat) : (seenN l k).length ≤ k := by
  unfold seenN
  rw [List.length_map]
  have := List.length_filter_le (fun i => !isOut (l.getD i 0)) (List.range k)
  rw [List.length_range] at this
  exact this

set_option maxHeartbeats 2000000 in
theorem rseen8_any (A : Option Addr) (l : List Int) (c : Nat) (w : World) (h : Lies w w.heap.size A (ints .i64 l)) (hl : l.length ≤ 1000000) :
    Calls Try.prog 34 #[.slice A l.length c] w fun ed w' => Rowed w w.heap.size 3 (ints .i64 (seenI l)) ed w' := by
  have H := Lib.hid h
  clear h
  go_enter Try.func34, Try.ntmps34
  go_wp2
  go_loopw [4, 3] (fun iv ov wr => ∃ k : Nat, k ≤ l.length ∧ iv = .int .i64 k ∧ Own wr w.heap.size 3 ov (ints .i64 (seenN l k)) ∧ Below w.heap.size w wr) (fun iv _ _ => l.length - (intOf iv).toNat)
  case atStart => exact ⟨0, by omega, rfl, Own.empty _ _ _, Below.refl _ _⟩
  case round =>
    obtain ⟨k, hk, rfl, ho, hb⟩ := hrel
    have HO := Lib.hid ho
    have HB := Lib.hid hb
    clear ho hb
    by_cases hlt : k < l.length
    · obtain ⟨p, rfl, _, hcl⟩ := (H.out.below HB.out).int hlt
      obtain ⟨x, hx⟩ : ∃ x, l[k] = x := ⟨_, rfl⟩
      have HS := Lib.hid (seenN_succ l k hlt)
      rw [hx] at hcl HS
      have hle := seenN_le l k
      have b0 : (0 : Int) ≤ (k : Int) := by omega
      have b1 : (k : Int) < (l.length : Int) := by omega
      clear hx
      rcases hoc : isOut x with _ | _
      · have HOC := Lib.hid hoc
        clear hoc
        go_wp2_with fail
        refine (rout_any x _).mono ?_
        rintro e wq ⟨rfl, rfl⟩
        rw [HOC.out]
        go_wp2_with (first
          | (at_builtin; refine app_lit intsT w wr w.heap.size _ _ #[.int .i64 (k : Int)] 1 _ _ rfl rfl rfl rfl HO.out (by simp [Value.oneCell']) HB.out HB.out.size (by unfold maxLen; simp; omega) (by simp; omega) ?_; intro v2 w2 o2 b2 _ _; have O2 := Lib.hid o2; have B2 := Lib.hid b2; clear o2 b2)
          | fail)
        go_roundw
        case rel => exact ⟨k + 1, by omega, by go_num, by rw [HS.out, HOC.out, if_neg (by simp)]; simpa [ints] using O2.out, B2.out⟩
        case measure => simp [intOf]; omega
      · have HOC := Lib.hid hoc
        clear hoc
        go_wp2_with fail
        refine (rout_any x _).mono ?_
        rintro e wq ⟨rfl, rfl⟩
        rw [HOC.out]
        go_wp2_with fail
        go_roundw
        case rel => exact ⟨k + 1, by omega, by go_num, by rw [HS.out, HOC.out, if_pos rfl]; exact HO.out, HB.out⟩
        case measure => simp [intOf]; omega
    · obtain rfl : k = l.length := by omega
      go_wp2
      go_ret
      exact ⟨_, rfl, HO.out, HB.out⟩

/-- a level's direction -/
def dirL (k : Int) : Int := if k % 2 = 0 then 0 else 1
theorem tmod_dir (k : Int) : (Int.tmod k 2 = 0) ↔ k % 2 = 0 := ⟨fun h => Int.emod_eq_zero_of_dvd (Int.dvd_of_tmod_eq_zero h), fun h => Int.tmod_eq_zero_of_dvd (Int.dvd_of_emod_eq_zero h)⟩
theorem rdir8_any (k : Int) (w : World) : Calls Try.prog 14 #[.int .i64 k] w fun e w' => e = .returned (.int .i64 (dirL k)) ∧ w = w' := by
  rcases h : (Int.tmod k 2 != 0) with _ | _
  · have hz : dirL k = 0 := by rw [dirL, if_pos ((tmod_dir k).1 (by simpa using h))]
    rw [hz]
    go_enter Try.func14, Try.ntmps14
    go_wp2
    go_ret
    exact ⟨rfl, rfl⟩
  · have hz : dirL k = 1 := by rw [dirL, if_neg (fun e => by rw [(tmod_dir k).2 e] at h; simp at h)]
    rw [hz]
    go_enter Try.func14, Try.ntmps14
    go_wp2
    go_ret
    exact ⟨rfl, rfl⟩
end Go.Proofs.Ytajgjloailliiaa
