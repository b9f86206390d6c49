/- The classes' sets: is a class among some? -/
import Derived.Test.YtoiolgpbecgfkaaInts
import Derived.Test.YtoiolgpbecgfkaaPure
namespace Go.Proofs.Ytoiolgpbecgfkaa
open Go.RowKit Reckon

theorem bool_step {c : Int} {a : AV} {l : List (Int × AV)} {b : Bool} (h : stepF c a l = .boo b) : (stepF c a l).val c = .bool b := by rw [h]; rfl

/-- is a class one of these? -/
def isStrong (k : Int) : Bool := decide (k ∈ ([0, 1, 2] : List Int))
/-- is a class one of these? -/
def isOut (k : Int) : Bool := decide (k ∈ ([14, 15, 16, 17, 18, 9] : List Int))
/-- is a class one of these? -/
def isOpens (k : Int) : Bool := decide (k ∈ ([19, 20, 21] : List Int))
/-- is a class one of these? -/
def isNeutral (k : Int) : Bool := decide (k ∈ ([10, 11, 12, 13, 19, 20, 21, 22] : List Int))
end Go.Proofs.Ytoiolgpbecgfkaa
