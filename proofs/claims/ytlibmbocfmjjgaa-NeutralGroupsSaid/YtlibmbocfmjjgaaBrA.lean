/- Layer 10: the document's Side, Sides. -/
import Derived.Test.YtlibmbocfmjjgaaInts
import Derived.Test.YtlibmbocfmjjgaaSame
import Derived.Test.YtlibmbocfmjjgaaHeld
import Derived.Test.YtlibmbocfmjjgaaSlc
namespace Go.Proofs.Ytlibmbocfmjjgaa
open Go.RowKit

/-- a class's side; -1: none -/
def sdB (k : Int) : Int := if k = 0 then 0 else if k = 1 ∨ k = 3 ∨ k = 6 then 1 else -1
theorem rside10_any (k : Int) (w : World) : Calls Try.prog 29 #[.int .i64 k] w fun e w' => e = .returned (.int .i64 (sdB k)) ∧ w = w' := by
  obtain ⟨z, hz⟩ : ∃ z, sdB k = z := ⟨_, rfl⟩
  have HZ := Lib.hid hz
  rw [hz]
  clear hz
  rcases e0 : (k == 0) with _ | _
  · rcases e1 : (k == 1) with _ | _
    · rcases e3 : (k == 3) with _ | _
      · rcases e6 : (k == 6) with _ | _
        · have HF : Hid (z = -1) := Lib.hid (by rw [← HZ.out, sdB, if_neg (by simpa using e0), if_neg (by simp at e1 e3 e6; omega)])
          go_enter Try.func29, Try.ntmps29
          go_wp2
          go_ret
          exact ⟨ret_int HF.out.symm, rfl⟩
        · have HF : Hid (z = 1) := Lib.hid (by rw [← HZ.out, sdB, if_neg (by simpa using e0), if_pos (by simp at e1 e3 e6; omega)])
          go_enter Try.func29, Try.ntmps29
          go_wp2
          go_ret
          exact ⟨ret_int HF.out.symm, rfl⟩
      · have HF : Hid (z = 1) := Lib.hid (by rw [← HZ.out, sdB, if_neg (by simpa using e0), if_pos (by simp at e1 e3; omega)])
        go_enter Try.func29, Try.ntmps29
        go_wp2
        go_ret
        exact ⟨ret_int HF.out.symm, rfl⟩
    · have HF : Hid (z = 1) := Lib.hid (by rw [← HZ.out, sdB, if_neg (by simpa using e0), if_pos (by simp at e1; omega)])
      go_enter Try.func29, Try.ntmps29
      go_wp2
      go_ret
      exact ⟨ret_int HF.out.symm, rfl⟩
  · have HF : Hid (z = 0) := Lib.hid (by rw [← HZ.out, sdB, if_pos (by simpa using e0)])
    go_enter Try.func29, Try.ntmps29
    go_wp2
    go_ret
    exact ⟨ret_int HF.out.symm, rfl⟩

/-- has one of the places from a up to b the side s? -/
def hasS (s : Int) (l : List Int) (a b : Nat) : Bool := ((l.take b).drop a).any fun c => sdB c == s
theorem hasS_begin (s : Int) (l : List Int) (a : Nat) : hasS s l a a = false := by
  unfold hasS
  rw [List.drop_of_length_le (by simp; omega)]; rfl
theorem hasS_none (s : Int) (l : List Int) {a b : Nat} (h : b ≤ a) : hasS s l a b = false := by
  unfold hasS
  rw [List.drop_of_length_le (by simp; omega)]; rfl
theorem hasS_next (s : Int) (l : List Int) (a b : Nat) (h : a ≤ b) (hb : b < l.length) : hasS s l a (b + 1) = (hasS s l a b || sdB l[b] == s) := by
  unfold hasS
  rw [List.take_succ_eq_append_getElem hb, List.drop_append_of_le_length (by simp; omega), List.any_append]
  simp
/-- which sides there are: L, R -/
def lowB (f : Int) : Nat := (max 0 f).toNat
def highB (l : List Int) (t : Int) : Nat := (min t l.length).toNat
def hasL (l : List Int) (f t : Int) : Bool := hasS 0 l (lowB f) (highB l t)
def hasR (l : List Int) (f t : Int) : Bool := hasS 1 l (lowB f) (highB l t)

end Go.Proofs.Ytlibmbocfmjjgaa
