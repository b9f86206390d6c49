/- What bytes are read as, over plain lists. -/
import Derived.Lib.TrimUEq
import Derived.Lib.QuoteLoop
namespace Go.Proofs.YtnjddmcckndpgaaDoor
open Go.Lib

/-- bytes as whole numbers -/
def u8s (l : List UInt8) : List Int := l.map fun b => (b.toNat : Int)
@[simp] theorem u8s_length (l : List UInt8) : (u8s l).length = l.length := by simp [u8s]
theorem u8s_str (l : List UInt8) : (u8s l).map (fun n => UInt8.ofNat n.toNat) = l := by
  induction l with
  | nil => rfl
  | cons b l ih => simp only [u8s, List.map_cons, List.map_map] at *; rw [ih]; simp

/-- the characters that are read, and where they begin -/
def decGo : Nat → Nat → List UInt8 → List (Int × Int)
  | 0, _, _ => []
  | n + 1, p, l => if l = [] then [] else (((decodeL l).1 : Int), (p : Int)) :: decGo n (p + (decodeL l).2) (l.drop (decodeL l).2)
def decAt (p : Nat) (l : List UInt8) : List (Int × Int) := decGo l.length p l

theorem width_le_len (l : List UInt8) (h : l ≠ []) : (decodeL l).2 ≤ l.length := by
  have : 0 < l.length := List.length_pos_iff.2 h
  rw [decodeL_N]
  exact decodeN_width_le _ _ _ _ _ (by omega)

theorem decGo_fuel : ∀ (n m p : Nat) (l : List UInt8), l.length ≤ n → l.length ≤ m → decGo n p l = decGo m p l := by
  intro n
  induction n with
  | zero =>
    intro m p l hn _
    have : l = [] := List.eq_nil_of_length_eq_zero (by omega)
    subst this
    cases m <;> simp [decGo]
  | succ n ih =>
    intro m p l hn hm
    by_cases hl : l = []
    · subst hl; cases m <;> simp [decGo]
    · have hw := decodeL_width l
      have : 0 < l.length := List.length_pos_iff.2 hl
      obtain ⟨m, rfl⟩ : ∃ m', m = m' + 1 := ⟨m - 1, by omega⟩
      simp only [decGo, if_neg hl]
      rw [ih m _ _ (by rw [List.length_drop]; omega) (by rw [List.length_drop]; omega)]
theorem decAt_nil (p : Nat) : decAt p [] = [] := rfl
theorem decAt_step (p : Nat) (l : List UInt8) (h : l ≠ []) : decAt p l = (((decodeL l).1 : Int), (p : Int)) :: decAt (p + (decodeL l).2) (l.drop (decodeL l).2) := by
  have hw := decodeL_width l
  have : 0 < l.length := List.length_pos_iff.2 h
  obtain ⟨n, hn⟩ : ∃ n, l.length = n + 1 := ⟨l.length - 1, by omega⟩
  unfold decAt
  rw [hn]
  simp only [decGo, if_neg h]
  rw [decGo_fuel n _ _ _ (by rw [List.length_drop]; omega) (Nat.le_refl _)]
theorem decAt_len (p : Nat) (l : List UInt8) : (decAt p l).length ≤ l.length := by
  suffices h : ∀ n p l, (decGo n p l).length ≤ n from h _ _ _
  intro n
  induction n with
  | zero => intro p l; simp [decGo]
  | succ n ih =>
    intro p l
    simp only [decGo]
    split
    · simp
    · simp only [List.length_cons]; have := ih (p + (decodeL l).2) (l.drop (decodeL l).2); omega
/-- what Decode tells of bytes that aren't too many -/
def decC (l : List UInt8) : List Int := (decAt 0 l).map (·.1)
def decA (l : List UInt8) : List Int := (decAt 0 l).map (·.2) ++ [(l.length : Int)]
end Go.Proofs.YtnjddmcckndpgaaDoor
