/- Layer 6: the program's walk in memory; last, overflows, Next, push, pop, reset. -/
import Derived.Test.YtajgjloailliiaaExC
namespace Go.Proofs.Ytajgjloailliiaa
open Go.RowKit

/-- a row behind an append is none of the older ones -/
theorem grown_ne {w : World} {u v : Value} {k : Nat} (he : v.ownBlock = u.ownBlock ∨ ∃ q, v.ownBlock = some q ∧ w.heap.size ≤ q) (hu : u.ownBlock ≠ some k) (hk : k < w.heap.size) : v.ownBlock ≠ some k := by
  rcases he with he | ⟨q, he, hq⟩
  · rw [he]; exact hu
  · rw [he]; intro e; injection e with e; omega
/-- all blocks stay but the walk's own two; a new stack's block is new -/
structure Frame (w w' : World) (g : Nat) (sv sv' : Value) : Prop where
  size : w.heap.size ≤ w'.heap.size
  keep : ∀ k, k < w.heap.size → k ≠ g → sv.ownBlock ≠ some k → w'.heap[k]? = w.heap[k]?
  new : ∀ k, sv'.ownBlock = some k → sv.ownBlock = some k ∨ w.heap.size ≤ k
section
variable {w w' w'' : World} {g : Nat} {sv sv' sv'' : Value}
theorem Frame.below (hb : Below w.heap.size w w') : Frame w w' g sv sv := ⟨hb.size, fun k hk _ _ => hb.block k hk, fun _ h => .inl h⟩
theorem Frame.refl (w : World) (g : Nat) (sv : Value) : Frame w w g sv sv := Frame.below (Below.refl _ _)
theorem Frame.same (hh : w'.heap = w.heap) : Frame w w' g sv sv := ⟨by rw [hh]; exact Nat.le_refl _, fun k _ _ _ => by rw [hh], fun _ h => .inl h⟩
theorem Frame.store (hg : w.grownBy w' (some g)) : Frame w w' g sv sv := ⟨hg.size, fun k hk h1 _ => hg.block k hk (fun e => h1 (Option.some.inj e)), fun _ h => .inl h⟩
theorem Frame.app (hg : w.grownBy w' sv.ownBlock) (he : sv'.ownBlock = sv.ownBlock ∨ ∃ q, sv'.ownBlock = some q ∧ w.heap.size ≤ q) : Frame w w' g sv sv' :=
  ⟨hg.size, fun k hk _ h2 => hg.block k hk (fun e => h2 e.symm), fun k hk => by
    rcases he with he | ⟨q, he, hq⟩
    · exact .inl (he ▸ hk)
    · rw [he] at hk; injection hk with hk; subst hk; exact .inr hq⟩
theorem Frame.trans (h1 : Frame w w' g sv sv') (h2 : Frame w' w'' g sv' sv'') : Frame w w'' g sv sv'' :=
  ⟨Nat.le_trans h1.size h2.size, fun k hk hg hs => (h2.keep k (Nat.lt_of_lt_of_le hk h1.size) hg (fun e => by
      rcases h1.new k e with h | h
      · exact hs h
      · omega)).trans (h1.keep k hk hg hs), fun k hk => by
    rcases h2.new k hk with h | h
    · exact h1.new k h
    · exact .inr (Nat.le_trans h1.size h)⟩
theorem Frame.cell (h : Frame w w' g sv sv') {a j : Nat} (ha : a < w.heap.size) (hg : a ≠ g) (hs : sv.ownBlock ≠ some a) : w'.cell? ⟨a, j, none⟩ = w.cell? ⟨a, j, none⟩ := World.cell?_of_block (h.keep a ha hg hs)
end
/-- the walk's stack and counts -/
structure P6 where
  base : Int
  st : List Ent
  isos : Nat
  embeds : Nat
  valid : Nat
def P6.cells (p : P6) (lsl sv : Value) : List Value := [lsl, .int .i64 p.base, sv, .int .i64 p.isos, .int .i64 p.embeds, .int .i64 p.valid]
section
variable {w w' : World} {B g : Nat} {p p' : P6} {lsl sv : Value}
end
structure P6.Small (p : P6) : Prop where
  st : p.st.length ≤ 100000
  isos : p.isos ≤ 1000000
  embeds : p.embeds ≤ 1000000
  valid : p.valid ≤ 1000000
/-- do isolates or embeddings overflow? -/
def overP (p : P6) : Bool := decide (0 < p.isos) || decide (0 < p.embeds)
theorem ents_push (e : Ent) (st : List Ent) : ents (e :: st).reverse = ents st.reverse ++ e.cells := by
  rw [List.reverse_cons, ents_append]; simp [ents]
theorem cells_one (e : Ent) : ∀ u ∈ e.cells, u.oneCell' = true := by simp [Ent.cells, Value.oneCell']

/-- one more, where its level may be -/
def fitP (p : P6) (d : Int) : Bool := match p.st with | [] => false | e :: _ => decide (nextL e.lev d ≤ 125)
def pushP (p : P6) (d o : Int) (i : Bool) : P6 := match p.st with | [] => p | e :: _ => if nextL e.lev d ≤ 125 then { p with st := ⟨nextL e.lev d, o, i⟩ :: p.st } else p
end Go.Proofs.Ytajgjloailliiaa
