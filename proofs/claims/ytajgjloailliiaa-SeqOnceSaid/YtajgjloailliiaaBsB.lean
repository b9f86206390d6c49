/- Layer 5's walks: First, Level, Isolate, the program's and the document's. -/
import Derived.Test.YtajgjloailliiaaBsA
namespace Go.Proofs.Ytajgjloailliiaa
open Go.RowKit Reckon

theorem Lies.cut {w : World} {B b off : Nat} {l : List Int} (h : Lies w B (some ⟨b, off, none⟩) (ints .i64 l)) (i j : Nat) : Lies w B (some ⟨b, off + i, none⟩) (ints .i64 ((l.drop i).take j)) := by
  have := h.part i j
  simp only [ints, List.map_drop, List.map_take] at this ⊢
  simpa [add_plain] using this

theorem Lies.nums {w : World} {B : Nat} {A : Option Addr} {k : IntKind} {l : List Int} (h : Lies w B A (ints k l)) (hn : 0 < l.length) :
    ∃ p : Addr, A = some p ∧ p.block < B ∧ ∀ i (hi : i < l.length), w.cell? (p.add i) = some (.int k l[i]) := by
  obtain ⟨p, hA, hB, hc⟩ := h (by intro e; have := congrArg List.length e; simp at this; subst this; simp at hn)
  exact ⟨p, hA, hB, fun i hi => by rw [hc i (.int k l[i]) (by simp [hi])]⟩

end Go.Proofs.Ytajgjloailliiaa
