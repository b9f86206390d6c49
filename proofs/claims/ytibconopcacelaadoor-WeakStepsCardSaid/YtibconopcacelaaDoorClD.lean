/- The classes' names: Word. -/
import Derived.Test.YtibconopcacelaaDoorClB
namespace Go.Proofs.YtibconopcacelaaDoor
open Go.RowKit Reckon

/-- the classes' names -/
def clsWords : List ByteArray := [⟨#[76]⟩, ⟨#[82]⟩, ⟨#[65, 76]⟩, ⟨#[69, 78]⟩, ⟨#[69, 83]⟩, ⟨#[69, 84]⟩, ⟨#[65, 78]⟩, ⟨#[67, 83]⟩, ⟨#[78, 83, 77]⟩, ⟨#[66, 78]⟩, ⟨#[66]⟩, ⟨#[83]⟩, ⟨#[87, 83]⟩, ⟨#[79, 78]⟩, ⟨#[76, 82, 69]⟩, ⟨#[76, 82, 79]⟩, ⟨#[82, 76, 69]⟩, ⟨#[82, 76, 79]⟩, ⟨#[80, 68, 70]⟩, ⟨#[76, 82, 73]⟩, ⟨#[82, 76, 73]⟩, ⟨#[70, 83, 73]⟩, ⟨#[80, 68, 73]⟩]
/-- a class's name; an empty text of none -/
def wordOf (k : Int) : ByteArray := if 0 ≤ k ∧ k ≤ 22 then clsWords.getD k.toNat ⟨#[]⟩ else ⟨#[]⟩
/-- where the program keeps the names -/
structure ClsTabs (w : World) : Prop where
  big : 0 < w.heap.size
  word : ∀ i, i < 23 → w.cell? ⟨0, i, none⟩ = some (.string (wordOf i))
theorem ClsTabs.below {w w' : World} {B : Nat} (h : ClsTabs w) (hb : Below B w w') (hB : 0 < B) : ClsTabs w' :=
  ⟨Nat.lt_of_lt_of_le h.big hb.size, fun i hi => (hb.cell (p := ⟨_, i, none⟩) hB).trans (h.word i hi)⟩

set_option maxHeartbeats 1000000 in
theorem word_any (k : Int) (w : World) (hT : ClsTabs w) : Calls Tryd.prog 27 #[.int .i64 k] w fun e w' => e = .returned (.string (wordOf k)) ∧ w = w' := by
  by_cases h0 : k < 0
  · clear hT
    go_enter Tryd.func27, Tryd.ntmps27
    go_wp2
    go_ret
    exact ⟨by rw [wordOf, if_neg (by omega)]; rfl, rfl⟩
  obtain ⟨n, rfl⟩ : ∃ n : Nat, k = n := ⟨k.toNat, by omega⟩
  by_cases h1 : n < 23
  · have hc := hT.word n h1
    have hd : decide ((n : Int) ≥ 23) = false := by simp; omega
    obtain ⟨s, hs⟩ : ∃ s, wordOf n = s := ⟨_, rfl⟩
    rw [hs] at hc ⊢
    clear hT hs
    go_enter Tryd.func27, Tryd.ntmps27
    go_wp2
    go_ret
    exact ⟨rfl, rfl⟩
  · clear hT
    have hd : decide ((n : Int) ≥ 23) = true := by simp; omega
    go_enter Tryd.func27, Tryd.ntmps27
    go_wp2
    go_ret
    exact ⟨by rw [wordOf, if_neg (by omega)]; rfl, rfl⟩

theorem wordCell (n : Nat) (h : n < 23) : ([.string ⟨#[76]⟩, .string ⟨#[82]⟩, .string ⟨#[65, 76]⟩, .string ⟨#[69, 78]⟩, .string ⟨#[69, 83]⟩, .string ⟨#[69, 84]⟩, .string ⟨#[65, 78]⟩, .string ⟨#[67, 83]⟩, .string ⟨#[78, 83, 77]⟩, .string ⟨#[66, 78]⟩, .string ⟨#[66]⟩, .string ⟨#[83]⟩, .string ⟨#[87, 83]⟩, .string ⟨#[79, 78]⟩, .string ⟨#[76, 82, 69]⟩, .string ⟨#[76, 82, 79]⟩, .string ⟨#[82, 76, 69]⟩, .string ⟨#[82, 76, 79]⟩, .string ⟨#[80, 68, 70]⟩, .string ⟨#[76, 82, 73]⟩, .string ⟨#[82, 76, 73]⟩, .string ⟨#[70, 83, 73]⟩, .string ⟨#[80, 68, 73]⟩] : List Value)[n]'h = .string (wordOf n) := by
  have e : ([.string ⟨#[76]⟩, .string ⟨#[82]⟩, .string ⟨#[65, 76]⟩, .string ⟨#[69, 78]⟩, .string ⟨#[69, 83]⟩, .string ⟨#[69, 84]⟩, .string ⟨#[65, 78]⟩, .string ⟨#[67, 83]⟩, .string ⟨#[78, 83, 77]⟩, .string ⟨#[66, 78]⟩, .string ⟨#[66]⟩, .string ⟨#[83]⟩, .string ⟨#[87, 83]⟩, .string ⟨#[79, 78]⟩, .string ⟨#[76, 82, 69]⟩, .string ⟨#[76, 82, 79]⟩, .string ⟨#[82, 76, 69]⟩, .string ⟨#[82, 76, 79]⟩, .string ⟨#[80, 68, 70]⟩, .string ⟨#[76, 82, 73]⟩, .string ⟨#[82, 76, 73]⟩, .string ⟨#[70, 83, 73]⟩, .string ⟨#[80, 68, 73]⟩] : List Value) = clsWords.map .string := rfl
  simp only [e, List.getElem_map]
  rw [wordOf, if_pos (by omega)]
  have hl : n < clsWords.length := h
  simp [hl]

end Go.Proofs.YtibconopcacelaaDoor
