/- Layer 8: the program's Of, Runs, Dir, Right, all said. -/
import Derived.Test.YtajgjloailliiaaSqY
import Derived.Test.YtajgjloailliiaaSqZ
import Derived.Test.YtajgjloailliiaaSqPb
import Derived.Test.YtajgjloailliiaaSqX
namespace Go.Proofs.Ytajgjloailliiaa
open Go.RowKit

theorem sof_any (A : Option Addr) (cl : List Int) (c : Nat) (A' : Option Addr) (lv : List Int) (c' : Nat) (base : Int) (w : World) (h : Lies w w.heap.size A (ints .i64 cl)) (h' : Lies w w.heap.size A' (ints .i64 lv)) (hl : cl.length ≤ 1000000) (_ : lv.length ≤ 1000000) :
    Calls Try.prog 7 #[.slice A cl.length c, .slice A' lv.length c', .int .i64 base] w (RowedS w (seqsI cl lv base)) := by
  rw [← pst_seqs]
  exact sofp_any A cl c A' lv c' base w h h' hl
end Go.Proofs.Ytajgjloailliiaa
