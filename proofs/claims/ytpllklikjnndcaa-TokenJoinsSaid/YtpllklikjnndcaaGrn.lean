/- What stays while one block changes. -/
import Derived.Test.YtpllklikjnndcaaKit
namespace Go.Proofs.Ytpllklikjnndcaa
open Go.RowKit

theorem grown_of_below {w w' : World} (h : Below w.heap.size w w') (row : Option Nat) : w.grownBy w' row := ⟨h.os, h.tape, h.output, h.size, fun k hk _ => h.block k hk⟩
/-- what is read stays while another block changes -/
theorem lies_grown {w w' : World} {g B : Nat} {A : Option Addr} {xs : List Value} (h : Lies w B A xs) (hg : w.grownBy w' (some g)) (hB : B ≤ w.heap.size) (hne : ∀ p, A = some p → p.block ≠ g) : Lies w' B A xs := fun hn => by
  obtain ⟨p, hA, hp, hc⟩ := h hn
  refine ⟨p, hA, hp, fun i u hu => ?_⟩
  rw [World.cell?_of_block (hg.block _ (by rw [add_block]; omega) (by rw [add_block]; exact fun e => hne p hA (Option.some.inj e)))]
  exact hc i u hu
end Go.Proofs.Ytpllklikjnndcaa
