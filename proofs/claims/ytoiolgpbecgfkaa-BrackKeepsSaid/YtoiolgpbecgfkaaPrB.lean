/- The program's own calls on brackets and what is mirrored. -/
import Derived.Test.YtoiolgpbecgfkaaPrA
import Derived.Test.YtoiolgpbecgfkaaFill
namespace Go.Proofs.Ytoiolgpbecgfkaa
open Go.RowKit Go.Maps

/-- a bracket's other one, whether it opens, and whether it is one -/
def oth (c : Int) : Int × Bool × Bool := othL brs c
theorem other_any (c : Int) (w : World) : Calls Try.prog 35 #[.int .i64 c] w fun e w' => e = .returned (.tuple #[.int .i64 (oth c).1, .bool (oth c).2.1, .bool (oth c).2.2]) ∧ Below w.heap.size w w' := by
  go_enter Try.func35, Try.ntmps35
  go_wp2_with fail
  refine (brackets_any w).mono ?_
  rintro e w1 ⟨rfl, h1, b1⟩
  have H1 := Lib.hid h1
  have B1 := Lib.hid b1
  clear h1 b1
  go_wp2_with fail
  refine (otherOf_any brs brs_apart brM brM_holds _ _ c w1 H1.out).mono ?_
  rintro e w2 ⟨rfl, b2⟩
  have B2 := Lib.hid (below_then B1.out b2)
  clear b2
  go_wp2
  go_ret3
  exact ⟨rfl, B2.out⟩

/-- what a number is as a bracket -/
def asB (c : Int) : Int := if c = 9001 then 12296 else if c = 9002 then 12297 else c
theorem asB_any (c : Int) (w : World) : Calls Try.prog 45 #[.int .i64 c] w fun e w' => e = .returned (.int .i64 (asB c)) ∧ w = w' := by
  by_cases h1 : c = 9001
  · subst h1
    go_enter Try.func45, Try.ntmps45
    go_wp2
    go_ret
    exact ⟨rfl, rfl⟩
  have d1 : (c == 9001) = false := by simp [h1]
  by_cases h2 : c = 9002
  · subst h2
    go_enter Try.func45, Try.ntmps45
    go_wp2
    go_ret
    exact ⟨rfl, rfl⟩
  have d2 : (c == 9002) = false := by simp [h2]
  have H1 := Lib.hid h1
  have H2 := Lib.hid h2
  clear h1 h2
  go_enter Try.func45, Try.ntmps45
  go_wp2
  go_ret
  exact ⟨ret_int (by rw [asB, if_neg H1.out, if_neg H2.out]), rfl⟩
theorem rasB_any (c : Int) (w : World) : Calls Try.prog 34 #[.int .i64 c] w fun e w' => e = .returned (.int .i64 (asB c)) ∧ w = w' := by
  by_cases h1 : c = 9001
  · subst h1
    go_enter Try.func34, Try.ntmps34
    go_wp2
    go_ret
    exact ⟨rfl, rfl⟩
  have d1 : (c == 9001) = false := by simp [h1]
  by_cases h2 : c = 9002
  · subst h2
    go_enter Try.func34, Try.ntmps34
    go_wp2
    go_ret
    exact ⟨rfl, rfl⟩
  have d2 : (c == 9002) = false := by simp [h2]
  have H1 := Lib.hid h1
  have H2 := Lib.hid h2
  clear h1 h2
  go_enter Try.func34, Try.ntmps34
  go_wp2
  go_ret
  exact ⟨ret_int (by rw [asB, if_neg H1.out, if_neg H2.out]), rfl⟩

def isB (c : Int) : Bool := (oth c).2.2
/-- are they one bracket? -/
def sameB (a b : Int) : Bool := isB a && (asB a == asB b)
set_option maxHeartbeats 1000000 in
theorem same_any (a b : Int) (w : World) : Calls Try.prog 37 #[.int .i64 a, .int .i64 b] w fun e w' => e = .returned (.bool (sameB a b)) ∧ Below w.heap.size w w' := by
  obtain ⟨o, ho⟩ : ∃ o, oth a = o := ⟨_, rfl⟩
  obtain ⟨x, p, k⟩ := o
  have HO := Lib.hid ho
  clear ho
  obtain ⟨u, hu⟩ : ∃ u, asB a = u := ⟨_, rfl⟩
  obtain ⟨v, hv⟩ : ∃ v, asB b = v := ⟨_, rfl⟩
  have HU := Lib.hid hu
  have HV := Lib.hid hv
  clear hu hv
  cases k with
  | false =>
    go_enter Try.func37, Try.ntmps37
    go_wp2_with fail
    refine (other_any a w).mono ?_
    rintro e w1 ⟨rfl, b1⟩
    rw [HO.out]
    have B1 := Lib.hid b1
    clear b1
    go_wp2
    go_ret
    exact ⟨ret_bool (by rw [sameB, isB, HO.out]; rfl), B1.out⟩
  | true =>
    go_enter Try.func37, Try.ntmps37
    go_wp2_with fail
    refine (other_any a w).mono ?_
    rintro e w1 ⟨rfl, b1⟩
    rw [HO.out]
    have B1 := Lib.hid b1
    clear b1
    go_wp2_with fail
    refine (asB_any a _).mono ?_
    rintro e w2 ⟨rfl, rfl⟩
    rw [HU.out]
    go_wp2_with fail
    refine (asB_any b _).mono ?_
    rintro e w2 ⟨rfl, rfl⟩
    rw [HV.out]
    go_wp2
    go_ret
    exact ⟨ret_bool (by rw [sameB, isB, HO.out, HU.out, HV.out]; rfl), B1.out⟩

/-- what c is mirrored into -/
def othM (c : Int) : Int × Bool × Bool := othL mrs c
def mir (c : Int) : Int := if (othM c).2.2 then (othM c).1 else c
def isM (c : Int) : Bool := (othM c).2.2
/-- the lesser one of two that are mirrored -/
def pln (c : Int) : Int := min c (mir c)

end Go.Proofs.Ytoiolgpbecgfkaa
