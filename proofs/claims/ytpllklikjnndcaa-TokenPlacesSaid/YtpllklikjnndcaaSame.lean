/- What stays the same while the world draws. -/
import Derived.Test.YtpllklikjnndcaaKit
namespace Go.Proofs.Ytpllklikjnndcaa
open Go.RowKit
theorem Own.same {w w' : World} {B : Nat} {e : TypeId} {v : Value} {xs : List Value} (h : Own w B e v xs) (hh : w'.heap = w.heap) : Own w' B e v xs := by
  refine ⟨h.1, ?_⟩
  rcases h.2 with h2 | ⟨g, cap, cur, hv, hg, h3, r⟩
  · exact .inl h2
  · exact .inr ⟨g, cap, cur, hv, hg, by rw [hh]; exact h3, r⟩
theorem Lies.sameHeap {w w' : World} {B : Nat} {A : Option Addr} {xs : List Value} (h : Lies w B A xs) (hh : w'.heap = w.heap) : Lies w' B A xs :=
  h.same fun q _ => World.cell?_of_block (by rw [hh])
theorem below_same {B : Nat} {a w w' : World} (h : Below B a w) (hh : w'.heap = w.heap) (h1 : w'.os = w.os) (h2 : w'.tape = w.tape) (h3 : w'.output = w.output) : Below B a w' :=
  ⟨h1.trans h.os, h2.trans h.tape, h3.trans h.output, by rw [hh]; exact h.size, fun k hk => by rw [hh]; exact h.block k hk⟩
theorem below_then_drew {B : Nat} {a w : World} (h : Below B a.drew w) : Below B a w := ⟨h.os, h.tape, h.output, h.size, h.block⟩
/-- the cells of an array that was laid in a block of its own -/
theorem boxed {w w' : World} {e : TypeId} {cs : Array Value} {i : Nat} {u : Value} (hb : Below (w.alloc (.cells cs e)).heap.size (w.alloc (.cells cs e)) w') (hi : cs.toList[i]? = some u) : w'.cell? ⟨w.heap.size, i, none⟩ = some u := by
  rw [hb.cell (by simp)]
  simpa using hi
end Go.Proofs.Ytpllklikjnndcaa
