/- Layer 10: the program's Side, Sides, Pairs, Of are walked (XBrF, XBrQ, XBrU); the document's Pairs, at any two lists. -/
import Derived.Test.YtoiolgpbecgfkaaBrE
import Derived.Test.YtoiolgpbecgfkaaBrU
namespace Go.Proofs.Ytoiolgpbecgfkaa
open Go.RowKit

/-- what a call hands back that tells pairs -/
theorem rpairs_all (A : Option Addr) (chars : List Int) (c : Nat) (A' : Option Addr) (classes : List Int) (c' : Nat) (w : World) (h : Lies w w.heap.size A (ints .i64 chars)) (h' : Lies w w.heap.size A' (ints .i64 classes)) (hl : chars.length ≤ 1000000) :
    Calls Try.prog 13 #[.slice A chars.length c, .slice A' classes.length c'] w (RowedPr w (pairsI chars classes)) := by
  by_cases he : chars.length = classes.length
  · refine (rpairs_any A chars c A' classes c' w h h' hl he).mono ?_
    rintro ed w' ⟨v, rfl, o, b⟩
    obtain ⟨A1, c1, rfl, l1, -, -⟩ := o.form
    exact ⟨A1, c1, rfl, l1, b⟩
  · have hP : pairsI chars classes = [] := by rw [pairsI, if_neg he]
    have hne : ((chars.length : Int) != (classes.length : Int)) = true := by simp; omega
    rw [hP]
    go_enter Try.func13, Try.ntmps13
    go_wp2_with fail
    go_ret
    exact ⟨none, 0, rfl, Lies.empty, Below.refl _ _⟩
end Go.Proofs.Ytoiolgpbecgfkaa
