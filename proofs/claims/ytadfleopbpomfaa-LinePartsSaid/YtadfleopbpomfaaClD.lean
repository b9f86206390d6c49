/- The classes' names: Word. -/
import Derived.Test.YtadfleopbpomfaaClB
namespace Go.Proofs.Ytadfleopbpomfaa
open Go.RowKit Reckon

/-- the classes' names -/
def clsWords : List ByteArray := [⟨#[76]⟩, ⟨#[82]⟩, ⟨#[65, 76]⟩, ⟨#[69, 78]⟩, ⟨#[69, 83]⟩, ⟨#[69, 84]⟩, ⟨#[65, 78]⟩, ⟨#[67, 83]⟩, ⟨#[78, 83, 77]⟩, ⟨#[66, 78]⟩, ⟨#[66]⟩, ⟨#[83]⟩, ⟨#[87, 83]⟩, ⟨#[79, 78]⟩, ⟨#[76, 82, 69]⟩, ⟨#[76, 82, 79]⟩, ⟨#[82, 76, 69]⟩, ⟨#[82, 76, 79]⟩, ⟨#[80, 68, 70]⟩, ⟨#[76, 82, 73]⟩, ⟨#[82, 76, 73]⟩, ⟨#[70, 83, 73]⟩, ⟨#[80, 68, 73]⟩]
/-- a class's name; an empty text of none -/
def wordOf (k : Int) : ByteArray := if 0 ≤ k ∧ k ≤ 22 then clsWords.getD k.toNat ⟨#[]⟩ else ⟨#[]⟩
theorem wordOf_isEmpty (k : Int) : (wordOf k).toList.isEmpty = decide (k < 0 ∨ 22 < k) := by
  by_cases h : 0 ≤ k ∧ k ≤ 22
  · obtain ⟨n, rfl⟩ : ∃ n : Nat, k = n := ⟨k.toNat, by omega⟩
    have : ∀ m : Nat, m < 23 → (wordOf (m : Int)).toList.isEmpty = false := by decide +kernel
    rw [this n (by omega), eq_comm, decide_eq_false_iff_not]
    omega
  · have e : (⟨#[]⟩ : ByteArray).toList.isEmpty = true := by decide +kernel
    rw [wordOf, if_neg h, e, eq_comm, decide_eq_true_iff]
    omega
theorem wordCell (n : Nat) (h : n < 23) : ([.string ⟨#[76]⟩, .string ⟨#[82]⟩, .string ⟨#[65, 76]⟩, .string ⟨#[69, 78]⟩, .string ⟨#[69, 83]⟩, .string ⟨#[69, 84]⟩, .string ⟨#[65, 78]⟩, .string ⟨#[67, 83]⟩, .string ⟨#[78, 83, 77]⟩, .string ⟨#[66, 78]⟩, .string ⟨#[66]⟩, .string ⟨#[83]⟩, .string ⟨#[87, 83]⟩, .string ⟨#[79, 78]⟩, .string ⟨#[76, 82, 69]⟩, .string ⟨#[76, 82, 79]⟩, .string ⟨#[82, 76, 69]⟩, .string ⟨#[82, 76, 79]⟩, .string ⟨#[80, 68, 70]⟩, .string ⟨#[76, 82, 73]⟩, .string ⟨#[82, 76, 73]⟩, .string ⟨#[70, 83, 73]⟩, .string ⟨#[80, 68, 73]⟩] : List Value)[n]'h = .string (wordOf n) := by
  have e : ([.string ⟨#[76]⟩, .string ⟨#[82]⟩, .string ⟨#[65, 76]⟩, .string ⟨#[69, 78]⟩, .string ⟨#[69, 83]⟩, .string ⟨#[69, 84]⟩, .string ⟨#[65, 78]⟩, .string ⟨#[67, 83]⟩, .string ⟨#[78, 83, 77]⟩, .string ⟨#[66, 78]⟩, .string ⟨#[66]⟩, .string ⟨#[83]⟩, .string ⟨#[87, 83]⟩, .string ⟨#[79, 78]⟩, .string ⟨#[76, 82, 69]⟩, .string ⟨#[76, 82, 79]⟩, .string ⟨#[82, 76, 69]⟩, .string ⟨#[82, 76, 79]⟩, .string ⟨#[80, 68, 70]⟩, .string ⟨#[76, 82, 73]⟩, .string ⟨#[82, 76, 73]⟩, .string ⟨#[70, 83, 73]⟩, .string ⟨#[80, 68, 73]⟩] : List Value) = clsWords.map .string := rfl
  simp only [e, List.getElem_map]
  rw [wordOf, if_pos (by omega)]
  have hl : n < clsWords.length := h
  simp [hl]

set_option maxHeartbeats 1000000 in
theorem rword_any (k : Int) (w : World) : Calls Try.prog 67 #[.int .i64 k] w fun e w' => e = .returned (.string (wordOf k)) ∧ Below w.heap.size w w' := by
  by_cases h0 : k < 0
  · go_enter Try.func67, Try.ntmps67
    go_wp2
    go_ret
    exact ⟨by rw [wordOf, if_neg (by omega)]; rfl, below_alloc _ _⟩
  obtain ⟨n, rfl⟩ : ∃ n : Nat, k = n := ⟨k.toNat, by omega⟩
  by_cases h1 : n < 23
  · have hd : decide ((n : Int) ≥ 23) = false := by simp; omega
    go_enter Try.func67, Try.ntmps67
    go_wp2
    go_ret
    exact ⟨congrArg Ending.returned (wordCell n h1), below_alloc _ _⟩
  · have hd : decide ((n : Int) ≥ 23) = true := by simp; omega
    go_enter Try.func67, Try.ntmps67
    go_wp2
    go_ret
    exact ⟨by rw [wordOf, if_neg (by omega)]; rfl, below_alloc _ _⟩
end Go.Proofs.Ytadfleopbpomfaa
