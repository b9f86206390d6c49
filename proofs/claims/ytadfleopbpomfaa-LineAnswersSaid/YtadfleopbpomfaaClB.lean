/- The classes' sets: is a class among some? -/
import Derived.Test.YtadfleopbpomfaaInts
import Derived.Test.YtadfleopbpomfaaPure
namespace Go.Proofs.Ytadfleopbpomfaa
open Go.RowKit Reckon

set_option maxHeartbeats 1000000 in
theorem index_any (A : Option Addr) (l : List Int) (c : Nat) (v : Int) (B : Nat) (w : World) (h : Lies w B A (ints .i64 l)) (hl : l.length ≤ 9223372036854775807) :
    Calls Try.prog 85 #[.slice A l.length c, .int .i64 v] w fun e w' => ∃ n : Int, e = .returned (.int .i64 n) ∧ (0 ≤ n ↔ v ∈ l) ∧ w = w' := by
  have H := Lib.hid h
  clear h
  go_enter Try.func85, Try.ntmps85
  go_wp2
  go_loopw [8] (fun i wr => ∃ k : Nat, k ≤ l.length ∧ i = .int .i64 k ∧ Hid (v ∉ l.take k) ∧ wr = w) (fun i _ => l.length - (intOf i).toNat)
  case atStart => exact ⟨0, by omega, rfl, by show v ∉ l.take 0; simp, rfl⟩
  case round =>
    obtain ⟨k, hk, rfl, HN, rfl⟩ := hrel
    by_cases hlt : k < l.length
    · obtain ⟨p, rfl, _, hc⟩ := H.out.int hlt
      have b0 : (0 : Int) ≤ (k : Int) := by omega
      have b1 : (k : Int) < (l.length : Int) := by omega
      rcases hv : (v == l[k]) with _ | _
      · go_wp2
        go_roundw
        case rel =>
          refine ⟨k + 1, by omega, by go_num, ?_, by first | rfl | trivial⟩
          show v ∉ l.take (k + 1)
          rw [List.take_succ_eq_append_getElem hlt, List.mem_append]
          have := HN.out
          simp at hv
          simp [this, hv]
        case measure => simp [intOf]; omega
      · go_wp2
        go_ret
        refine ⟨_, rfl, ?_, rfl⟩
        simp at hv
        simp [hv]
    · go_wp2
      go_ret
      refine ⟨_, rfl, ?_, rfl⟩
      have := HN.out
      rw [List.take_of_length_le (by omega)] at this
      simp [this]

set_option maxHeartbeats 400000 in
theorem among_any (A : Option Addr) (l : List Int) (c : Nat) (v : Int) (B : Nat) (w : World) (h : Lies w B A (ints .i64 l)) (hl : l.length ≤ 9223372036854775807) :
    Calls Try.prog 48 #[.int .i64 v, .slice A l.length c] w fun e w' => e = .returned (.bool (decide (v ∈ l))) ∧ w = w' := by
  have H := Lib.hid h
  clear h
  have hcon : Calls Try.prog 65 #[.slice A l.length c, .int .i64 v] w fun e w' => e = .returned (.bool (decide (v ∈ l))) ∧ w = w' := by
    go_enter Try.func65, Try.ntmps65
    go_wp2_with (go_at_call 85; refine (index_any _ _ _ _ _ _ H.out hl).mono ?_; rintro e w' ⟨n, rfl, hn, rfl⟩; have HN := Lib.hid hn; clear hn)
    go_ret
    exact ⟨ret_bool (by simp [HN.out]), rfl⟩
  have HC := Lib.hid hcon
  clear hcon
  go_enter Try.func48, Try.ntmps48
  go_wp2_with (go_at_call 65; refine HC.out.mono ?_; rintro e w' ⟨rfl, rfl⟩)
  go_ret
  exact ⟨rfl, rfl⟩

theorem bool_step {c : Int} {a : AV} {l : List (Int × AV)} {b : Bool} (h : stepF c a l = .boo b) : (stepF c a l).val c = .bool b := by rw [h]; rfl

/-- is a class one of these? -/
def isStrong (k : Int) : Bool := decide (k ∈ ([0, 1, 2] : List Int))
/-- is a class one of these? -/
def isOut (k : Int) : Bool := decide (k ∈ ([14, 15, 16, 17, 18, 9] : List Int))
set_option maxHeartbeats 400000 in
theorem out_any (k : Int) (w : World) : Calls Try.prog 37 #[.int .i64 k] w fun e w' => e = .returned (.bool (isOut k)) ∧ Below w.heap.size w w' := by
  go_enter Try.func37, Try.ntmps37
  go_wp2_with (go_at_call 48; refine (among_any _ [14, 15, 16, 17, 18, 9] _ k _ _ (Lies.litUp #[.int .i64 14, .int .i64 15, .int .i64 16, .int .i64 17, .int .i64 18, .int .i64 9]) (by decide)).mono ?_; rintro e w' ⟨rfl, rfl⟩)
  go_ret
  exact ⟨ret_bool (by simp [isOut]), below_alloc _ _⟩

/-- is a class one of these? -/
def isOpens (k : Int) : Bool := decide (k ∈ ([19, 20, 21] : List Int))
set_option maxHeartbeats 400000 in
theorem opens_any (k : Int) (w : World) : Calls Try.prog 36 #[.int .i64 k] w fun e w' => e = .returned (.bool (isOpens k)) ∧ Below w.heap.size w w' := by
  go_enter Try.func36, Try.ntmps36
  go_wp2_with (go_at_call 48; refine (among_any _ [19, 20, 21] _ k _ _ (Lies.litUp #[.int .i64 19, .int .i64 20, .int .i64 21]) (by decide)).mono ?_; rintro e w' ⟨rfl, rfl⟩)
  go_ret
  exact ⟨ret_bool (by simp [isOpens]), below_alloc _ _⟩

/-- is a class one of these? -/
def isNeutral (k : Int) : Bool := decide (k ∈ ([10, 11, 12, 13, 19, 20, 21, 22] : List Int))
noncomputable def rstrongTab : List (Nat × Func) := [(92, Try.f92)]
theorem rstrongTab_ok : TabOk Try.prog rstrongTab := .cons Try.func92 (by kernel_rfl) .nil
noncomputable def routTab : List (Nat × Func) := [(23, Try.f23)]
theorem routTab_ok : TabOk Try.prog routTab := .cons Try.func23 (by kernel_rfl) .nil
noncomputable def ropensTab : List (Nat × Func) := [(22, Try.f22)]
theorem ropensTab_ok : TabOk Try.prog ropensTab := .cons Try.func22 (by kernel_rfl) .nil
noncomputable def rneutralTab : List (Nat × Func) := [(22, Try.f22), (84, Try.f84)]
theorem rneutralTab_ok : TabOk Try.prog rneutralTab := .cons Try.func22 (by kernel_rfl) (.cons Try.func84 (by kernel_rfl) .nil)

theorem rstrong_any (k : Int) (w : World) : Calls Try.prog 92 #[.int .i64 k] w fun e w' => e = .returned (.bool (isStrong k)) ∧ w = w' := by
  have h := calls_step rstrongTab_ok (keep := 20) (m := 3) (f := 92) (v0 := .boo false) (l := [(0, .boo true), (1, .boo true), (2, .boo true), (3, .boo false)]) (by kernel_rfl) k w
  rw [bool_step (b := isStrong k) (by simp only [stepF, isStrong, List.mem_cons, List.mem_nil_iff, or_false]; (repeat' split) <;> (congr 1; simp; try omega))] at h
  exact h

theorem rout_any (k : Int) (w : World) : Calls Try.prog 23 #[.int .i64 k] w fun e w' => e = .returned (.bool (isOut k)) ∧ w = w' := by
  have h := calls_step routTab_ok (keep := 20) (m := 3) (f := 23) (v0 := .boo false) (l := [(9, .boo true), (10, .boo false), (14, .boo true), (15, .boo true), (16, .boo true), (17, .boo true), (18, .boo true), (19, .boo false)]) (by kernel_rfl) k w
  rw [bool_step (b := isOut k) (by simp only [stepF, isOut, List.mem_cons, List.mem_nil_iff, or_false]; (repeat' split) <;> (congr 1; simp; try omega))] at h
  exact h

theorem ropens_any (k : Int) (w : World) : Calls Try.prog 22 #[.int .i64 k] w fun e w' => e = .returned (.bool (isOpens k)) ∧ w = w' := by
  have h := calls_step ropensTab_ok (keep := 20) (m := 3) (f := 22) (v0 := .boo false) (l := [(19, .boo true), (20, .boo true), (21, .boo true), (22, .boo false)]) (by kernel_rfl) k w
  rw [bool_step (b := isOpens k) (by simp only [stepF, isOpens, List.mem_cons, List.mem_nil_iff, or_false]; (repeat' split) <;> (congr 1; simp; try omega))] at h
  exact h

theorem rneutral_any (k : Int) (w : World) : Calls Try.prog 84 #[.int .i64 k] w fun e w' => e = .returned (.bool (isNeutral k)) ∧ w = w' := by
  have h := calls_step rneutralTab_ok (keep := 20) (m := 3) (f := 84) (v0 := .boo false) (l := [(10, .boo true), (11, .boo true), (12, .boo true), (13, .boo true), (14, .boo false), (19, .boo true), (20, .boo true), (21, .boo true), (22, .boo true), (23, .boo false)]) (by kernel_rfl) k w
  rw [bool_step (b := isNeutral k) (by simp only [stepF, isNeutral, List.mem_cons, List.mem_nil_iff, or_false]; (repeat' split) <;> (congr 1; simp; try omega))] at h
  exact h
end Go.Proofs.Ytadfleopbpomfaa
