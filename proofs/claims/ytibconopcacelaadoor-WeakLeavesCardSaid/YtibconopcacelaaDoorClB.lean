/- The classes' sets: is a class among some? -/
import Derived.Test.YtibconopcacelaaDoorInts
import Derived.Test.YtibconopcacelaaDoorPure
namespace Go.Proofs.YtibconopcacelaaDoor
open Go.RowKit Reckon

set_option maxHeartbeats 1000000 in
theorem index_any (A : Option Addr) (l : List Int) (c : Nat) (v : Int) (B : Nat) (w : World) (h : Lies w B A (ints .i64 l)) (hl : l.length ≤ 9223372036854775807) :
    Calls Tryd.prog 38 #[.slice A l.length c, .int .i64 v] w fun e w' => ∃ n : Int, e = .returned (.int .i64 n) ∧ (0 ≤ n ↔ v ∈ l) ∧ w = w' := by
  have H := Lib.hid h
  clear h
  go_enter Tryd.func38, Tryd.ntmps38
  go_wp2
  go_loopw [8] (fun i wr => ∃ k : Nat, k ≤ l.length ∧ i = .int .i64 k ∧ Hid (v ∉ l.take k) ∧ wr = w) (fun i _ => l.length - (intOf i).toNat)
  case atStart => exact ⟨0, by omega, rfl, by show v ∉ l.take 0; simp, rfl⟩
  case round =>
    obtain ⟨k, hk, rfl, HN, rfl⟩ := hrel
    by_cases hlt : k < l.length
    · obtain ⟨p, rfl, _, hc⟩ := H.out.int hlt
      have b0 : (0 : Int) ≤ (k : Int) := by omega
      have b1 : (k : Int) < (l.length : Int) := by omega
      rcases hv : (v == l[k]) with _ | _
      · go_wp2
        go_roundw
        case rel =>
          refine ⟨k + 1, by omega, by go_num, ?_, by first | rfl | trivial⟩
          show v ∉ l.take (k + 1)
          rw [List.take_succ_eq_append_getElem hlt, List.mem_append]
          have := HN.out
          simp at hv
          simp [this, hv]
        case measure => simp [intOf]; omega
      · go_wp2
        go_ret
        refine ⟨_, rfl, ?_, rfl⟩
        simp at hv
        simp [hv]
    · go_wp2
      go_ret
      refine ⟨_, rfl, ?_, rfl⟩
      have := HN.out
      rw [List.take_of_length_le (by omega)] at this
      simp [this]

set_option maxHeartbeats 400000 in
theorem among_any (A : Option Addr) (l : List Int) (c : Nat) (v : Int) (B : Nat) (w : World) (h : Lies w B A (ints .i64 l)) (hl : l.length ≤ 9223372036854775807) :
    Calls Tryd.prog 28 #[.int .i64 v, .slice A l.length c] w fun e w' => e = .returned (.bool (decide (v ∈ l))) ∧ w = w' := by
  have H := Lib.hid h
  clear h
  have hcon : Calls Tryd.prog 33 #[.slice A l.length c, .int .i64 v] w fun e w' => e = .returned (.bool (decide (v ∈ l))) ∧ w = w' := by
    go_enter Tryd.func33, Tryd.ntmps33
    go_wp2_with (go_at_call 38; refine (index_any _ _ _ _ _ _ H.out hl).mono ?_; rintro e w' ⟨n, rfl, hn, rfl⟩; have HN := Lib.hid hn; clear hn)
    go_ret
    exact ⟨ret_bool (by simp [HN.out]), rfl⟩
  have HC := Lib.hid hcon
  clear hcon
  go_enter Tryd.func28, Tryd.ntmps28
  go_wp2_with (go_at_call 33; refine HC.out.mono ?_; rintro e w' ⟨rfl, rfl⟩)
  go_ret
  exact ⟨rfl, rfl⟩

theorem bool_step {c : Int} {a : AV} {l : List (Int × AV)} {b : Bool} (h : stepF c a l = .boo b) : (stepF c a l).val c = .bool b := by rw [h]; rfl

/-- is a class one of these? -/
def isStrong (k : Int) : Bool := decide (k ∈ ([0, 1, 2] : List Int))
set_option maxHeartbeats 400000 in
theorem strong_any (k : Int) (w : World) : Calls Tryd.prog 17 #[.int .i64 k] w fun e w' => e = .returned (.bool (isStrong k)) ∧ Below w.heap.size w w' := by
  go_enter Tryd.func17, Tryd.ntmps17
  go_wp2_with (go_at_call 28; refine (among_any _ [0, 1, 2] _ k _ _ (Lies.litUp #[.int .i64 0, .int .i64 1, .int .i64 2]) (by decide)).mono ?_; rintro e w' ⟨rfl, rfl⟩)
  go_ret
  exact ⟨ret_bool (by simp [isStrong]), below_alloc _ _⟩

/-- is a class one of these? -/
def isOut (k : Int) : Bool := decide (k ∈ ([14, 15, 16, 17, 18, 9] : List Int))
/-- is a class one of these? -/
def isOpens (k : Int) : Bool := decide (k ∈ ([19, 20, 21] : List Int))
set_option maxHeartbeats 400000 in
theorem opens_any (k : Int) (w : World) : Calls Tryd.prog 30 #[.int .i64 k] w fun e w' => e = .returned (.bool (isOpens k)) ∧ Below w.heap.size w w' := by
  go_enter Tryd.func30, Tryd.ntmps30
  go_wp2_with (go_at_call 28; refine (among_any _ [19, 20, 21] _ k _ _ (Lies.litUp #[.int .i64 19, .int .i64 20, .int .i64 21]) (by decide)).mono ?_; rintro e w' ⟨rfl, rfl⟩)
  go_ret
  exact ⟨ret_bool (by simp [isOpens]), below_alloc _ _⟩

/-- is a class one of these? -/
def isNeutral (k : Int) : Bool := decide (k ∈ ([10, 11, 12, 13, 19, 20, 21, 22] : List Int))
end Go.Proofs.YtibconopcacelaaDoor
